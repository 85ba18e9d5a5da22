import PyProof.Rows.All
import KE.KDictOf
import KE.KIsAll
import KE.KSortTup
import KE.KIntText
import KE.KFromBytes
import PyProof.StationsW
import PyProof.RulesAs
import PyProof.NsDelKeeps
import PyProof.IsiBase
import PyProof.InstStoreFacts
import PyProof.ExcClass3
import PyProof.ExcBaseAll.ValueError
import PyProof.ExcArgsOwn
import PySem.Challenge.RW_relayholds_k52_tables_refused
set_option genSizeOfSpec false
set_option genSizeOf false
set_option Elab.async false
set_option linter.all false
set_option maxRecDepth 1000000
set_option maxHeartbeats 4000000
set_option hygiene false
inductive EX1_2(A B:α->Prop):Prop
|mk(x:α)(_:A x)(_:B x)
inductive EX1_3(A B C:α->Prop):Prop
|mk(x:α)(_:A x)(_:B x)(_:C x)
inductive EX1_4(A B C D:α->Prop):Prop
|mk(x:α)(_:A x)(_:B x)(_:C x)(_:D x)
inductive EX1_5(A B C D E:α->Prop):Prop
|mk(x:α)(_:A x)(_:B x)(_:C x)(_:D x)(_:E x)
inductive EX1_6(A B C D E F:α->Prop):Prop
|mk(x:α)(_:A x)(_:B x)(_:C x)(_:D x)(_:E x)(_:F x)
inductive EX2_1(A:α->β->Prop):Prop
|mk(x:α)(y:β)(_:A x y)
inductive EX2_2(A B:α->β->Prop):Prop
|mk(x:α)(y:β)(_:A x y)(_:B x y)
inductive EX2_3(A B C:α->β->Prop):Prop
|mk(x:α)(y:β)(_:A x y)(_:B x y)(_:C x y)
inductive EX2_4(A B C D:α->β->Prop):Prop
|mk(x:α)(y:β)(_:A x y)(_:B x y)(_:C x y)(_:D x y)
inductive EX2_5(A B C D E:α->β->Prop):Prop
|mk(x:α)(y:β)(_:A x y)(_:B x y)(_:C x y)(_:D x y)(_:E x y)
inductive EX2_6(A B C D E F:α->β->Prop):Prop
|mk(x:α)(y:β)(_:A x y)(_:B x y)(_:C x y)(_:D x y)(_:E x y)(_:F x y)
inductive EX3_1(A:α->β->γ->Prop):Prop
|mk(x:α)(y:β)(z:γ)(_:A x y z)
inductive EX3_2(A B:α->β->γ->Prop):Prop
|mk(x:α)(y:β)(z:γ)(_:A x y z)(_:B x y z)
inductive EX3_3(A B C:α->β->γ->Prop):Prop
|mk(x:α)(y:β)(z:γ)(_:A x y z)(_:B x y z)(_:C x y z)
inductive EX3_4(A B C D:α->β->γ->Prop):Prop
|mk(x:α)(y:β)(z:γ)(_:A x y z)(_:B x y z)(_:C x y z)(_:D x y z)
inductive EX3_5(A B C D E:α->β->γ->Prop):Prop
|mk(x:α)(y:β)(z:γ)(_:A x y z)(_:B x y z)(_:C x y z)(_:D x y z)(_:E x y z)
inductive EX3_6(A B C D E F:α->β->γ->Prop):Prop
|mk(x:α)(y:β)(z:γ)(_:A x y z)(_:B x y z)(_:C x y z)(_:D x y z)(_:E x y z)(_:F x y z)
inductive EX4_3(A B C:α->β->γ->δ->Prop):Prop
|mk(x:α)(y:β)(z:γ)(u:δ)(_:A x y z u)(_:B x y z u)(_:C x y z u)
inductive EX4_4(A B C D:α->β->γ->δ->Prop):Prop
|mk(x:α)(y:β)(z:γ)(u:δ)(_:A x y z u)(_:B x y z u)(_:C x y z u)(_:D x y z u)
inductive EX4_5(A B C D E:α->β->γ->δ->Prop):Prop
|mk(x:α)(y:β)(z:γ)(u:δ)(_:A x y z u)(_:B x y z u)(_:C x y z u)(_:D x y z u)(_:E x y z u)
inductive EX4_6(A B C D E F:α->β->γ->δ->Prop):Prop
|mk(x:α)(y:β)(z:γ)(u:δ)(_:A x y z u)(_:B x y z u)(_:C x y z u)(_:D x y z u)(_:E x y z u)(_:F x y z u)
inductive EX4_7(A B C D E F G:α->β->γ->δ->Prop):Prop
|mk(x:α)(y:β)(z:γ)(u:δ)(_:A x y z u)(_:B x y z u)(_:C x y z u)(_:D x y z u)(_:E x y z u)(_:F x y z u)(_:G x y z u)
inductive EX5_1(A:α->β->γ->δ->ε->Prop):Prop
|mk(x:α)(y:β)(z:γ)(u:δ)(v:ε)(_:A x y z u v)
inductive EX5_4(A B C D:α->β->γ->δ->ε->Prop):Prop
|mk(x:α)(y:β)(z:γ)(u:δ)(v:ε)(_:A x y z u v)(_:B x y z u v)(_:C x y z u v)(_:D x y z u v)
inductive EX5_6(A B C D E F:α->β->γ->δ->ε->Prop):Prop
|mk(x:α)(y:β)(z:γ)(u:δ)(v:ε)(_:A x y z u v)(_:B x y z u v)(_:C x y z u v)(_:D x y z u v)(_:E x y z u v)(_:F x y z u v)
inductive EX6_1(A:α->β->γ->δ->ε->ζ->Prop):Prop
|mk(x:α)(y:β)(z:γ)(u:δ)(v:ε)(w:ζ)(_:A x y z u v w)
inductive EX9_3(A B C:α->β->γ->δ->ε->ζ->η->θ->ι->Prop):Prop
|mk(x:α)(y:β)(z:γ)(u:δ)(v:ε)(w:ζ)(a:η)(b:θ)(c:ι)(_:A x y z u v w a b c)(_:B x y z u v w a b c)(_:C x y z u v w a b c)
def exConj:Nat->Lean.TSyntax `term->Array (Lean.TSyntax `term)
 | 0,t=>#[t]
 | n+1,t=>match t with
  | `($a ∧ $b)=>#[a] ++ exConj n b
  | _=>#[t]
def exBs (xs:Lean.TSyntax ``Lean.explicitBinders):Lean.MacroM (Array (Lean.TSyntax ``Lean.binderIdent × Option (Lean.TSyntax `term))):=do
 let x:=xs.raw[0]
 if x.getKind == ``Lean.unbracketedExplicitBinders then
  let ids:=x[0].getArgs.map fun i=>(⟨i⟩:Lean.TSyntax ``Lean.binderIdent)
  let ty:Option (Lean.TSyntax `term):=if x[1].getNumArgs == 0 then none else some ⟨x[1][1]⟩
  return ids.map fun i=>(i,ty)
 else
  let mut r:=#[]
  for g in x.getArgs do
   for i in g[1].getArgs do r:=r.push (⟨i⟩,some ⟨g[3]⟩)
  return r
def idsIn:Nat->Lean.Syntax->List Lean.Name
 | 0,_=>[]
 | n+1,s=>match s with
  | .ident _ _ v _=>[v]
  | .node _ _ as=>as.toList.flatMap (idsIn n)
  | _=>[]
local macro_rules
 | `(∃ $xs:explicitBinders,$b)=>do
  let bs<-exBs xs
  let cs:=exConj 20 b
  if bs.size == 1 && cs.size == 1 then Lean.Macro.throwUnsupported
  if !("12 13 14 15 16 21 22 23 24 25 26 31 32 33 34 35 36 43 44 45 46 47 51 54 56 61 93".splitOn " ").contains s!"{bs.size}{cs.size}" then Lean.Macro.throwUnsupported
  let mut seen:List Lean.Name:=[]
  for (i,t) in bs do
   if let some t:=t then
    if (idsIn 40 t).any (fun x=>seen.contains x.getRoot) then Lean.Macro.throwUnsupported
   if i.raw[0].isIdent then seen:=i.raw[0].getId :: seen
  let mut args:Array (Lean.TSyntax `term):=#[]
  for c in cs do
   let mut t:=c
   for (i,ty) in bs.reverse do
    let nm:Lean.TSyntax `term:=if i.raw[0].isIdent then ⟨i.raw[0]⟩ else ⟨Lean.mkHole i.raw⟩
    match ty with
    | some ty=>if i.raw[0].isIdent then t<-`(fun ($(⟨i.raw[0]⟩):ident:$ty)=>$t) else t<-`(fun (_:$ty)=>$t)
    | none=>if i.raw[0].isIdent then t<-`(fun $(⟨i.raw[0]⟩):ident=>$t) else t<-`(fun _=>$t)
   args:=args.push t
  let f:=Lean.mkIdent (Lean.Name.mkSimple s!"EX{bs.size}_{cs.size}")
  `($f $args*)
local macro_rules
|`(@$n:num)=>`(.var $n)
|`(@($n:num))=>`(.cst (.int $n))
|`(@($t))=>`(some ($t))
local macro_rules
|`('o')=>`(by omega)
|`('s')=>`(by simp)
|`('k')=>`(by decide +kernel)
|`('d')=>`(by decide)
|`('l')=>`(by simp[lim];omega)
|`('m')=>`(by simp[lim])
|`(~~~$e)=>`(by simpa using $e)
|`($s⁻¹)=>`(($s).heap.objs.size)
local macro_rules
|`(%[$xs,*|$t])=>do
 if xs.elemsAndSeps.size%2==1 then Lean.Macro.throwUnsupported
 let mut r<-`(.cons $t .nil)
 for x in xs.getElems.reverse do r<-`(.cons $x $r)
 return r
def cvP:Nat->Lean.TSyntax `term->Lean.MacroM (Lean.TSyntax `rcasesPat)
|0,_=>Lean.Macro.throwUnsupported
|n+1,t=>match t with
 |`(⟨$xs,*⟩)=>do
  let ys<-xs.getElems.mapM (cvP n)
  let ys<-ys.mapM fun y=>`(Lean.Parser.Tactic.rcasesPatLo|$y:rcasesPat)
  `(rcasesPat|⟨$ys,*⟩)
 |`($i:ident)=>`(rcasesPat|$i:ident)
 |_=>`(rcasesPat|_)
local macro_rules
|`(tactic|let $p:term := $e)=>do
 let q<-cvP 9 p
 `(tactic|obtain $q:rcasesPat := $e)
local macro_rules
|`(tactic|ext $[$ps]*)=>do
 let mut xs:Array (Lean.TSyntax ``Lean.binderIdent):=#[]
 for p in ps do match p with
  |`(rintroPat|$i:ident)=>xs:=xs.push (<-`(Lean.binderIdent|$i:ident))
  |`(rintroPat|_)=>xs:=xs.push (<-`(Lean.binderIdent|_))
  |_=>Lean.Macro.throwUnsupported
 `(tactic|rename_i $xs*)
local macro_rules
|`(tactic|erw[$rs,*] $[$l]?)=>do
 let mut xs:Array (Lean.TSyntax ``Lean.Parser.Tactic.simpLemma):=#[]
 for r in rs.getElems do
  if r.raw[1].getId==`EWs||r.raw[1].getId==`EVs then
   for x in "bu bB cH gk fk jN fV bY bT dY cY bU fy bO bZ gO bG eE dG mQ dM mP dN aG au g9 ia ay".splitOn " "++(if r.raw[1].getId==`EWs then "nj nk nq nu".splitOn " " else []) do xs:=xs.push (<-`(Lean.Parser.Tactic.simpLemma|$(Lean.mkIdent x.toName):ident))
  else match r with
  |`(Lean.Parser.Tactic.rwRule|<-$t)=>xs:=xs.push (<-`(Lean.Parser.Tactic.simpLemma|<-$t))
  |`(Lean.Parser.Tactic.rwRule|$t:term)=>xs:=xs.push (<-`(Lean.Parser.Tactic.simpLemma|$t:term))
  |_=>Lean.Macro.throwUnsupported
 `(tactic|simp only[$[$xs],*] $[$l]?)
local macro_rules
|`(def $i:declId $s:optDeclSig $v:declVal)=>`(noncomputable def $i:declId $s:optDeclSig $v:declVal)
noncomputable section
abbrev ae:=PySem.W.Frag
def P9:=@Option.map_eq_some_iff
def Qa:=@PySem.wpAny_bind
def Qc:=@List.getElem?_eq_some_iff
def Qd:=@PySem.Heap.get?_push_of_some
def Qe:=@Bool.and_eq_true
def Qf:=@Nat.le_refl
def Qg:=@PySem.Heap.lt_size
def Qh:=@List.getElem?_append_left
def Qi:=@List.size_toArray
def Qj:=@PySem.wpAny_pure
def Qk:=@Nat.le_trans
def Ql:=@Bool.and_eq_true_iff
def Qm:=@Nat.lt_of_lt_of_le
def Qn:=@if_pos
def Qo:=@Nat.ne_of_lt
def Qp:=@PySem.Heap.get?_push_size
def Qq:=@List.length_map
def Qs:=@List.lookup_cons
def Qt:=@List.getElem?_eq_getElem
def Qu:=@if_neg
def Qv:=@List.mem_cons
def Qw:=@PySem.wpAny_mono
def Qx:=@if_true
def Qy:=@List.getElem?_append_right
def Qz:=@List.mem_append
def QA:=@List.getElem?_set_ne
def QB:=@List.mem_map
def QC:=@List.mem_cons_of_mem
def QD:=@PySem.wpAny_loadPart_at
def QE:=@decide_eq_true_eq
def QF:=@List.map_cons
def QG:=@List.getElem?_set_self
def QH:=@decide_eq_false
def QI:=@List.getElem_mem
def QJ:=@Bool.false_eq_true
def QK:=@List.map_append
def QL:=@List.mem_append_right
def QM:=@List.mem_cons_self
def QN:=@Option.some.inj
def QO:=@List.length_cons
def QS:=@decide_eq_true
def QT:=@PySem.mem_of_lookup
def QU:=@List.length_append
def QV:=@List.mem_singleton
def QW:=@List.mem_of_getElem?
def QX:=@Bool.not_eq_true
def QY:=@if_false
def QZ:=@decide_eq_decide
def Q0:=@Bool.not_eq_true'
def Q3:=@PySem.W.looks_findIn
def Q4:=@PySem.wpAny_Call_Name_kw
def Q5:=@PySem.wpAny_field
def Q6:=@beq_iff_eq
def Q7:=@List.mem_range
def Q8:=@List.mem_append_left
def Q9:=@PySem.wpAny_holding
def Ra:=@PySem.wpAny_standAt
def Rb:=@PySem.wpAny_truthy_bool
def Rc:=@List.append_assoc
def Rf:=@List.length_take
def Rg:=@PySem.wpAny_callSpecial?_slot
def Rh:=@beq_self_eq_true
def Ri:=@List.all_eq_true
def Rj:=@List.mem_iff_getElem
def Rk:=@List.getElem_map
def Rl:=@Nat.le_of_lt
def Rm:=@List.append_nil
def Rn:=@PySem.wpAny_newObj_type
def Ro:=@PySem.Heap.get?_update_other
def Rp:=@Nat.mod_lt
def Rq:=@PySem.wpAny_isSubtype_exc
def Rt:=@List.length_pos_iff
def Ru:=@Nat.le_succ
def Rv:=@PyProof.Rows.slot_tuple_getitem
def Rw:=@PySem.W.callWith_K
def Rx:=@PySem.W.Looks.at
def Ry:=@Nat.ne_of_gt
def Rz:=@PySem.codeAny_mono
def RA:=@PySem.Heap.size_push
def RB:=@Nat.zero_le
def RC:=@Int.toNat_natCast
def RD:=@beq_eq_false_iff_ne
def RE:=@PyProof.Rows.callWith_type1
def RG:=@PySem.W.mg_of
def RH:=@List.length_set
def RI:=@List.mem_cons
def RJ:=@PySem.F.slot_tuple_iterator_next
def RK:=@Array.getElem?_eq_some_iff
def RM:=@PySem.Heap.get?_update_self
def RN:=@List.getD_eq_getElem?_getD
def RP:=@PySem.sizeLine_eq
def RQ:=@List.mem_or_eq_of_mem_set
def RS:=@Option.isSome_iff_exists
def RT:=@List.getElem?_take_of_lt
def RU:=@congrArg
def RV:=@Nat.lt_succ_self
def RX:=@PySem.wpAny_call_entry
def RY:=@PySem.cellsFrom.eq_def
def RZ:=@PySem.wpAny_getItem_str_slice
def R0:=@PySem.F.plainAttrs_list
def R1:=@Int.natCast_emod
def R3:=@List.eraseIdx_sublist
def R4:=@List.not_mem_nil
def R5:=@PySem.wpAny_setField_rec
def R6:=@List.nodup_append
def R7:=@List.map_map
def R8:=@Option.map_some
def R9:=@Nat.lt_irrefl
def Sa:=@PySem.F.slot_enumerate_next
def Sb:=@List.contains_iff_mem
def Sd:=@Nat.lt_succ_of_lt
def Se:=@of_decide_eq_true
def Sf:=@PySem.F.typeOf_object_class
def Sg:=@Function.comp_def
def Si:=@List.nodup_append
def Sj:=@Array.all_eq_true
def Sk:=@Int.fdiv_eq_ediv_of_nonneg
def Sl:=@List.length_nil
def Sm:=@PySem.codeAny_call_builtin
def Sn:=@PySem.F.excBase_ValueError
def So:=@List.all_eq_true
def Sq:=@List.mem_map_of_mem
def Su:=@List.length_singleton
def Sv:=@List.getElem?_eq_none
def Sw:=@List.getElem?_eq_none_iff
def Sx:=@Array.length_toList
def Sy:=@PySem.F.args_tuple_add_2
def Sz:=@List.any_cons
def SD:=@PySem.wpAny_passesOwn
def SH:=@List.nodup_cons
def SJ:=@List.mem_of_mem_take
def SK:=@Bool.false_ne_true
def SN:=@List.find?_cons
def SO:=@PySem.Obj.data_mapFields
def SQ:=@List.nodup_cons
def SR:=@PySem.F.entry_tuple_add
def SV:=@List.length_drop
def SW:=@List.length_eq_zero_iff
def SX:=@decide_eq_false_iff_not
def SY:=@PySem.wpAny_pyIter_list
def S0:=@PySem.W.cellsFrom_some
def S1:=@List.getElem?_map
def S2:=@PySem.F.slot_tuple_add
def S3:=@List.take_of_length_le
def S4:=@PySem.wpAny_pyIter_enum
def S5:=@PySem.W.KeysLit.eq_def
def S6:=@PySem.plainObj_wpAny_Assign_Attribute
def S7:=@PySem.Obj.isFreed_of_fields
def S8:=@List.set_append_right
def S9:=@List.contains_cons
def Tc:=@List.set_set
def Td:=@Prod.ext
def Te:=@or_false
def Tf:=@Bool.or_eq_false_iff
def Tg:=@List.mem_filter
def Th:=@PySem.post_val_or_str
def Ti:=@PySem.F.args_tuple_iterator_next_1
def Tj:=@Bool.or_eq_true
def Tn:=@List.mem_of_mem_drop
def To:=@PySem.W.plainGet_of
def Tp:=@List.map_nil
def Tq:=@PySem.F.entry_tuple_iterator_next
def Tr:=@Bool.or_true
def Tt:=@Nat.lt_or_ge
def Tv:=@List.filterMap_cons
def Tw:=@PySem.Calls.Name_function_global
def Tz:=@PySem.wpAny_pyIter_tuple
def TF:=@List.mem_filterMap
def TH:=@Int.fmod_eq_emod_of_nonneg
def TJ:=@PySem.wpAny_call
def TL:=@List.eraseIdxIfInBounds_toArray
def TM:=@PySem.tupleKind_room_in1
def TN:=@PySem.wpAny_letOwnedTupleGo_enum
def TQ:=@PySem.wpAny_setField
def TR:=@PySem.Code.quiet_builtin
def TU:=@List.pairwise_cons
def TV:=@List.nil_append
def TX:=@Int.emod_lt_of_pos
def TY:=@Option.isSome_map
def TZ:=@PySem.Paired.length
def T3:=@Bool.not_true
def T4:=@PySem.noFill_tuple_add
def T5:=@Nat.le_of_not_lt
def T6:=@PySem.F.args_enumerate_next_1
def T7:=@List.take_append_drop
def T8:=@List.map_take
def T9:=@PySem.wpAny_pyNext_list_item
def Ua:=@PyProof.noPylong_small
def Ub:=@PySem.concat_meets
def Ud:=@PySem.call_meets
def Ue:=@Nat.not_lt
def Ug:=@not_or
def Uh:=@PySem.Txt.slice_le
def Ui:=@PySem.wpAny_rule
def Uj:=@PySem.F.entry_enumerate_next
def Uk:=@List.any_map
def Ul:=@PySem.Calls.callWith_builtin
def Um:=@PySem.F.plainAttrs_str
def Uo:=@decide_false
def Up:=@PySem.wpAny_execs_nil
def Uq:=@List.getElem?_of_mem
def Ur:=@Int.emod_nonneg
def Us:=@List.set_append_left
def Uu:=@Array.getElem?_toList
def Uv:=@PySem.F.entry_bexc_ga
def Ux:=@List.nodup_iff_pairwise_ne
def Uy:=@List.getElem_inj
def Uz:=@List.ext_getElem
def UA:=@decide_true
def UB:=@Bool.not_false
def UC:=@List.map_drop
def UD:=@Prod.mk.injEq
def UE:=@PySem.seq_tuple_add
def UG:=@Bool.false_or
def UH:=@List.any_eq_false
def UI:=@Nat.le_of_eq
def UJ:=@PySem.wpAny_typeOf
def UK:=@PySem.seqIndex_neg
def UL:=@Nat.lt_trans
def UM:=@List.getElem?_set
def UO:=@List.all_cons
def UP:=@List.take_add_one
def UQ:=@List.nodup_nil
namespace My
open PySem List
def top(i:Nat):Stmt:=PySem.Challenge.pw_relayholds_k52_tables_refused.main.body.getD i (.Pass ⟨0,0,0,0⟩)
noncomputable abbrev VS(x:Str)(t:Tok):Value:=.str x t
noncomputable abbrev VI(x:Int)(t:Tok):Value:=.int x t
noncomputable abbrev VR(x:Addr):Value:=.ref x
noncomputable abbrev VN:Value:=.none
noncomputable abbrev VT(x:String):Value:=.type x
noncomputable abbrev VB(x:String):Value:=.builtin x
noncomputable abbrev KE(P:Params)(x:Str)(t:Tok)(v:Value):DictEntry:=⟨PyData.keyHash P x,.str x t,v⟩
noncomputable abbrev hI(i j:Nat):Stmt:=match top i with
 |.ClassDef _ _ _ b _ _ _ _ _ _ _=>b.getD j (top i)
 |s=>s
noncomputable abbrev OH(st:Stmt)(q:Str)(g:Addr)(i:List (Str×Addr))(d c a b:Value)(h:Option Addr)(code ct:Value)(e:Addr):Data:=match st with
 |.FunctionDef nm f body _ _ _ sc _ _ _=>.func ⟨nm,q,f,.stmts body,sc,g,i,d,c,a,b,h,code,ct,e⟩
 |_=>.plain
noncomputable abbrev hf(t:Tok):Value:=VS "/claim/cut.py" t
noncomputable abbrev hO(A:Addr)(n q:Str)(t a b r u v:Nat)(x y z:Value):Addr×Obj:=(A,⟨VT "code",none,.fields #[VS n t,VS q (t+1),hf (t+2),VI a 0,VI b 0,VI 0 0,VI 0 0,VI 3 0,VR r,.bool true,VI 181 0,VR (r+1),VN,x,y,z,VI u 0,VI a 0,hf v],#[]⟩)
noncomputable abbrev hC(A:Addr)(n q:Str)(t b a r u v:Nat):Addr×Obj:=hO A n q t b a r u v (VR (r+2)) (VR (r+3)) (VR (r+4))
noncomputable abbrev hc(A:Addr)(n q:Str)(t b a r u v:Nat):Addr×Obj:=hO A n q t b a r u v VN VN (VR (r+2))
noncomputable abbrev hF(A:Addr)(st:Stmt)(q:Str)(a:Value)(c:Addr):Addr×Obj:=(A,⟨VT "function",none,OH st q 3 [] VN VN VN a none (VR c) VN 0,#[]⟩)
noncomputable abbrev qE:Value:=VS "law_relayholds_k52_tables_refused" 563
noncomputable abbrev wH:Value:=VS "relayholds.errors" 194
noncomputable abbrev Bo:Value:=VS "relayholds.tables" 441
def kk:Params->ae:=λ P=>[(2,⟨VN,none,(.dict #[] 0),#[]⟩),
 (3,⟨(VT "dict"),none,(.dict #[KE P "__name__" 165 qE,KE P "__doc__" 166 VN,KE P "__package__" 167 VN,KE P "__loader__" 168 (VB "__main__.__loader__#opaque"),KE P "__spec__" 169 VN,KE P "__annotations__" 170 (VR 6),KE P "__builtins__" 171 (VR 4),KE P "__file__" 173 (VS "/claim/cut.py" 172),KE P "__cached__" 174 VN,KE P "_wall" 193 (VR 21),KE P "RelayError" 213 (VR 31),KE P "NoNet" 238 (VR 51),KE P "NoText" 254 (VR 63),KE P "NoTable" 279 (VR 82),KE P "NoNames" 295 (VR 94),KE P "NoName" 311 (VR 106),KE P "NoPiece" 327 (VR 118),KE P "NoPosition" 343 (VR 130),KE P "NoState" 359 (VR 142),KE P "NotResting" 375 (VR 154),KE P "Raced" 400 (VR 173),KE P "NotSure" 416 (VR 185),KE P "MOST_SIGNS" 420 (VI 8 419),KE P "MOST_KEYS" 422 (VI 2 421),KE P "MOST_LAMPS" 424 (VI 2 423),KE P "first_wrong_word" 434 (VR 194),KE P "is_word" 440 (VR 199),KE P "LEAST_STATES" 444 (VI 2 443),KE P "MOST_STATES" 446 (VI 4 445),KE P "Table" 522 (VR 256),KE P "count_letters" 529 (VR 267),KE P "check_table" 541 (VR 274),KE P "check_many" 550 (VR 281),KE P "check_each" 556 (VR 286),KE P "check_settled" 562 (VR 291),KE P "_law_pot" 573 (VR 298),KE P "_law_draw" 582 (VR 305),KE P "_law_word" 588 (VR 310),KE P "_law_words" 594 (VR 315),KE P "_law_rows" 600 (VR 320),KE P "_law_table" 606 (VR 325),KE P "_law_copy" 612 (VR 330),KE P "_law_is_word" 618 (VR 335),KE P "_law_misfit" 624 (VR 340),KE P "_law_fault" 630 (VR 345),KE P "_law_outcome" 641 (VR 352),KE P "_law_spoil_word" 647 (VR 357),KE P "_law_spoil_many" 659 (VR 364),KE P "_law_spoil_goals" 673 (VR 371),KE P "_law_spoil_lights" 688 (VR 378),KE P "_law_slip" 700 (VR 385),KE P "law" 715 (VR 392)] 52),#[]⟩),
 (30,⟨(VT "dict"),none,(.dict #[KE P "__module__" 203 wH,KE P "__firstlineno__" 207 (VI 5 206),KE P "__static_attributes__" 208 (VR 29),KE P "__weakref__" 210 (VR 32),KE P "__doc__" 211 VN] 3),#[]⟩),
 (31,⟨(VT "type"),none,(.cls {name:="RelayError",bases:=[.type "ValueError"],mro:=[.ref 31,.type "ValueError",.type "Exception",.type "BaseException",.type "object"],ns:=30,qualname:="RelayError",subclasses:=[.ref 51,.ref 63,.ref 82,.ref 94,.ref 106,.ref 118,.ref 130,.ref 142,.ref 154,.ref 173,.ref 185]}),#[@(VR 22),none,@(VS "RelayError" 196),@(VS "RelayError" 204),@(VB "ValueError.__new__"),@(.bool true)]⟩),
 (50,⟨(VT "dict"),none,(.dict #[KE P "__module__" 221 wH,KE P "__firstlineno__" 225 (VI 7 224),KE P "__init__" 233 (VR 48),KE P "__static_attributes__" 235 (VR 49),KE P "__doc__" 236 VN] 2),#[]⟩),
 (51,⟨(VT "type"),none,(.cls {name:="NoNet",bases:=[.ref 31],mro:=[.ref 51,.ref 31,.type "ValueError",.type "Exception",.type "BaseException",.type "object"],ns:=50,qualname:="NoNet"}),#[@(VR 35),none,@(VS "NoNet" 214),@(VS "NoNet" 222),@(VB "ValueError.__new__"),@(.bool true)]⟩),
 (62,⟨(VT "dict"),none,(.dict #[KE P "__module__" 246 wH,KE P "__firstlineno__" 250 (VI 11 249),KE P "__static_attributes__" 251 (VR 61),KE P "__doc__" 252 VN] 2),#[]⟩),
 (63,⟨(VT "type"),none,(.cls {name:="NoText",bases:=[.ref 31],mro:=[.ref 63,.ref 31,.type "ValueError",.type "Exception",.type "BaseException",.type "object"],ns:=62,qualname:="NoText"}),#[@(VR 54),none,@(VS "NoText" 239),@(VS "NoText" 247),@(VB "ValueError.__new__"),@(.bool true)]⟩),
 hC 78 "__init__" "NoTable.__init__" 267 15 2 73 272 273,
 hF 79 (hI 5 0) "NoTable.__init__" wH 78,
 (81,⟨(VT "dict"),none,(.dict #[KE P "__module__" 262 wH,KE P "__firstlineno__" 266 (VI 13 265),KE P "__init__" 274 (VR 79),KE P "__static_attributes__" 276 (VR 80),KE P "__doc__" 277 VN] 2),#[]⟩),
 (82,⟨(VT "type"),none,(.cls {name:="NoTable",bases:=[.ref 31],mro:=[.ref 82,.ref 31,.type "ValueError",.type "Exception",.type "BaseException",.type "object"],ns:=81,qualname:="NoTable"}),#[@(VR 66),none,@(VS "NoTable" 255),@(VS "NoTable" 263),@(VB "ValueError.__new__"),@(.bool true)]⟩),
 (93,⟨(VT "dict"),none,(.dict #[KE P "__module__" 287 wH,KE P "__firstlineno__" 291 (VI 17 290),KE P "__static_attributes__" 292 (VR 92),KE P "__doc__" 293 VN] 2),#[]⟩),
 (94,⟨(VT "type"),none,(.cls {name:="NoNames",bases:=[.ref 31],mro:=[.ref 94,.ref 31,.type "ValueError",.type "Exception",.type "BaseException",.type "object"],ns:=93,qualname:="NoNames"}),#[@(VR 85),none,@(VS "NoNames" 280),@(VS "NoNames" 288),@(VB "ValueError.__new__"),@(.bool true)]⟩),
 (105,⟨(VT "dict"),none,(.dict #[KE P "__module__" 303 wH,KE P "__firstlineno__" 307 (VI 19 306),KE P "__static_attributes__" 308 (VR 104),KE P "__doc__" 309 VN] 2),#[]⟩),
 (106,⟨(VT "type"),none,(.cls {name:="NoName",bases:=[.ref 31],mro:=[.ref 106,.ref 31,.type "ValueError",.type "Exception",.type "BaseException",.type "object"],ns:=105,qualname:="NoName"}),#[@(VR 97),none,@(VS "NoName" 296),@(VS "NoName" 304),@(VB "ValueError.__new__"),@(.bool true)]⟩),
 (117,⟨(VT "dict"),none,(.dict #[KE P "__module__" 319 wH,KE P "__firstlineno__" 323 (VI 21 322),KE P "__static_attributes__" 324 (VR 116),KE P "__doc__" 325 VN] 2),#[]⟩),
 (118,⟨(VT "type"),none,(.cls {name:="NoPiece",bases:=[.ref 31],mro:=[.ref 118,.ref 31,.type "ValueError",.type "Exception",.type "BaseException",.type "object"],ns:=117,qualname:="NoPiece"}),#[@(VR 109),none,@(VS "NoPiece" 312),@(VS "NoPiece" 320),@(VB "ValueError.__new__"),@(.bool true)]⟩),
 (129,⟨(VT "dict"),none,(.dict #[KE P "__module__" 335 wH,KE P "__firstlineno__" 339 (VI 23 338),KE P "__static_attributes__" 340 (VR 128),KE P "__doc__" 341 VN] 2),#[]⟩),
 (130,⟨(VT "type"),none,(.cls {name:="NoPosition",bases:=[.ref 31],mro:=[.ref 130,.ref 31,.type "ValueError",.type "Exception",.type "BaseException",.type "object"],ns:=129,qualname:="NoPosition"}),#[@(VR 121),none,@(VS "NoPosition" 328),@(VS "NoPosition" 336),@(VB "ValueError.__new__"),@(.bool true)]⟩),
 (141,⟨(VT "dict"),none,(.dict #[KE P "__module__" 351 wH,KE P "__firstlineno__" 355 (VI 25 354),KE P "__static_attributes__" 356 (VR 140),KE P "__doc__" 357 VN] 2),#[]⟩),
 (142,⟨(VT "type"),none,(.cls {name:="NoState",bases:=[.ref 31],mro:=[.ref 142,.ref 31,.type "ValueError",.type "Exception",.type "BaseException",.type "object"],ns:=141,qualname:="NoState"}),#[@(VR 133),none,@(VS "NoState" 344),@(VS "NoState" 352),@(VB "ValueError.__new__"),@(.bool true)]⟩),
 (153,⟨(VT "dict"),none,(.dict #[KE P "__module__" 367 wH,KE P "__firstlineno__" 371 (VI 27 370),KE P "__static_attributes__" 372 (VR 152),KE P "__doc__" 373 VN] 2),#[]⟩),
 (154,⟨(VT "type"),none,(.cls {name:="NotResting",bases:=[.ref 31],mro:=[.ref 154,.ref 31,.type "ValueError",.type "Exception",.type "BaseException",.type "object"],ns:=153,qualname:="NotResting"}),#[@(VR 145),none,@(VS "NotResting" 360),@(VS "NotResting" 368),@(VB "ValueError.__new__"),@(.bool true)]⟩),
 (172,⟨(VT "dict"),none,(.dict #[KE P "__module__" 383 wH,KE P "__firstlineno__" 387 (VI 29 386),KE P "__init__" 395 (VR 170),KE P "__static_attributes__" 397 (VR 171),KE P "__doc__" 398 VN] 2),#[]⟩),
 (173,⟨(VT "type"),none,(.cls {name:="Raced",bases:=[.ref 31],mro:=[.ref 173,.ref 31,.type "ValueError",.type "Exception",.type "BaseException",.type "object"],ns:=172,qualname:="Raced"}),#[@(VR 157),none,@(VS "Raced" 376),@(VS "Raced" 384),@(VB "ValueError.__new__"),@(.bool true)]⟩),
 (184,⟨(VT "dict"),none,(.dict #[KE P "__module__" 408 wH,KE P "__firstlineno__" 412 (VI 33 411),KE P "__static_attributes__" 413 (VR 183),KE P "__doc__" 414 VN] 2),#[]⟩),
 (185,⟨(VT "type"),none,(.cls {name:="NotSure",bases:=[.ref 31],mro:=[.ref 185,.ref 31,.type "ValueError",.type "Exception",.type "BaseException",.type "object"],ns:=184,qualname:="NotSure"}),#[@(VR 176),none,@(VS "NotSure" 401),@(VS "NotSure" 409),@(VB "ValueError.__new__"),@(.bool true)]⟩),
 hC 193 "first_wrong_word" "first_wrong_word" 425 39 1 188 432 433,
 hF 194 (top 18) "first_wrong_word" (VS "relayholds.nets" 417) 193,
 hc 198 "is_word" "is_word" 435 46 1 195 438 439,
 hF 199 (top 19) "is_word" (VS "relayholds.nets" 417) 198,
 hc 210 "__init__" "Table.__init__" 459 53 6 207 462 463,
 hF 211 (hI 23 0) "Table.__init__" Bo 210,
 hC 224 "states" "Table.states" 472 64 1 219 476 477,
 hF 225 (hI 23 2) "Table.states" Bo 224,
 hC 231 "lamps" "Table.lamps" 479 67 1 226 483 484,
 hF 232 (hI 23 3) "Table.lamps" Bo 231,
 hC 252 "lights" "Table.lights" 502 76 2 247 507 508,
 hF 253 (hI 23 6) "Table.lights" Bo 252,
 (255,⟨(VT "dict"),none,(.dict #[KE P "__module__" 454 Bo,KE P "__firstlineno__" 458 (VI 51 457),KE P "__init__" 464 (VR 211),KE P "key_words" 471 (VR 218),KE P "states" 478 (VR 225),KE P "lamps" 485 (VR 232),KE P "letters" 492 (VR 239),KE P "goes" 501 (VR 246),KE P "lights" 509 (VR 253),KE P "__static_attributes__" 515 (VR 254),KE P "__dict__" 517 (VR 257),KE P "__weakref__" 519 (VR 258),KE P "__doc__" 520 VN] 4),#[]⟩),
 (256,⟨(VT "type"),none,(.cls {name:="Table",bases:=[.type "object"],mro:=[.ref 256,.type "object"],ns:=255,qualname:="Table"}),#[none,none,@(VS "Table" 447),@(VS "Table" 455),@(VB "object.__new__"),@(.bool true)]⟩),
 hC 266 "count_letters" "count_letters" 523 78 1 261 527 528,
 hF 267 (top 24) "count_letters" Bo 266,
 hC 273 "check_table" "check_table" 530 80 5 268 539 540,
 hF 274 (top 25) "check_table" Bo 273,
 hC 280 "check_many" "check_many" 542 88 3 275 548 549,
 hF 281 (top 26) "check_many" Bo 280,
 hc 285 "check_each" "check_each" 551 95 5 282 554 555,
 hF 286 (top 27) "check_each" Bo 285,
 hc 290 "check_settled" "check_settled" 557 101 1 287 560 561,
 hF 291 (top 28) "check_settled" Bo 290,
 hC 297 "_law_pot" "_law_pot" 565 106 2 292 571 572,
 hF 298 (top 30) "_law_pot" qE 297,
 hC 304 "_law_draw" "_law_draw" 574 109 2 299 580 581,
 hF 305 (top 31) "_law_draw" qE 304,
 hc 309 "_law_word" "_law_word" 583 115 2 306 586 587,
 hF 310 (top 32) "_law_word" qE 309,
 hc 314 "_law_words" "_law_words" 589 123 3 311 592 593,
 hF 315 (top 33) "_law_words" qE 314,
 hc 319 "_law_rows" "_law_rows" 595 125 3 316 598 599,
 hF 320 (top 34) "_law_rows" qE 319,
 hc 324 "_law_table" "_law_table" 601 134 1 321 604 605,
 hF 325 (top 35) "_law_table" qE 324,
 hc 329 "_law_copy" "_law_copy" 607 141 1 326 610 611,
 hF 330 (top 36) "_law_copy" qE 329,
 hc 334 "_law_is_word" "_law_is_word" 613 143 1 331 616 617,
 hF 335 (top 37) "_law_is_word" qE 334,
 hc 339 "_law_misfit" "_law_misfit" 619 145 4 336 622 623,
 hF 340 (top 38) "_law_misfit" qE 339,
 hc 344 "_law_fault" "_law_fault" 625 150 1 341 628 629,
 hF 345 (top 39) "_law_fault" qE 344,
 hC 351 "_law_outcome" "_law_outcome" 631 167 1 346 639 640,
 hF 352 (top 40) "_law_outcome" qE 351,
 hc 356 "_law_spoil_word" "_law_spoil_word" 642 178 5 353 645 646,
 hF 357 (top 41) "_law_spoil_word" qE 356,
 hC 363 "_law_spoil_many" "_law_spoil_many" 648 188 4 358 657 658,
 hF 364 (top 42) "_law_spoil_many" qE 363,
 hC 370 "_law_spoil_goals" "_law_spoil_goals" 660 195 5 365 671 672,
 hF 371 (top 43) "_law_spoil_goals" qE 370,
 hC 377 "_law_spoil_lights" "_law_spoil_lights" 674 210 4 372 686 687,
 hF 378 (top 44) "_law_spoil_lights" qE 377,
 hC 384 "_law_slip" "_law_slip" 689 222 2 379 698 699,
 hF 385 (top 45) "_law_slip" qE 384,
 hC 391 "law" "law" 701 232 1 386 713 714,
 hF 392 (top 46) "law" qE 391]
def ka:List Addr:=[2,3,30,31,50,51,62,63,78,79,81,82,93,94,105,106,117,118,129,130,141,142,153,154,172,173,184,185,193,194,198,199,210,211,224,225,231,232,252,253,255,256,266,267,273,274,280,281,285,286,290,291,297,298,304,305,309,310,314,315,319,320,324,325,329,330,334,335,339,340,344,345,351,352,356,357,363,364,370,371,377,378,384,385,391,392]
def qv:Program:=PySem.W.view PySem.Challenge.pw_relayholds_k52_tables_refused [0,2,3,4,5,6,7,8,9,10,11,12,13,15,16,17,18,19,21,22,23,24,25,26,27,28,30,31,32,33,34,35,36,37,38,39,40,41,42,43,44,45,46]
theorem OJ{m q k j i h g f e d c:Type _}{X:Option m}{A:m->k×j×i×h×g×f×e×d×c}{B:m->q}{a:k×j×i×h×g×f×e×d×c}{b:q}(r:X.map (λ s=>(A s).1)=some a.1)(p:X.map (λ s=>((A s).2.1,(A s).2.2.1))=some (a.2.1,a.2.2.1))(l:X.map (λ s=>((A s).2.2.2.1,(A s).2.2.2.2.2.2.1,(A s).2.2.2.2.2.2.2.1,(A s).2.2.2.2.2.2.2.2))=some (a.2.2.2.1,a.2.2.2.2.2.2.1,a.2.2.2.2.2.2.2.1,a.2.2.2.2.2.2.2.2))(o:X.map (λ s=>((A s).2.2.2.2.1,(A s).2.2.2.2.2.1))=some (a.2.2.2.2.1,a.2.2.2.2.2.1))(n:X.map B=some b):X.map (λ s=>(A s,B s))=some (a,b):=by
  cases X with
  |none=>cases n
  |some x=>
    erw[R8,Option.some.injEq,UD] at r p l o n ⊢
    exact⟨(Td r (Td p.1 (Td p.2 (Td l.1 (Td o.1 (Td o.2 (Td l.2.1 (Td l.2.2.1 l.2.2.2)))))))),n⟩
noncomputable abbrev IG(w:PySem.World):=PySem.W.openEnds PySem.treeTable (PySem.W.OpenLaw.row PySem.Challenge.rw_relayholds_k52_tables_refused).prog w 7840
noncomputable abbrev Bp:=PySem.W.openSeen qv [] (PySem.importedModules (PySem.W.OpenLaw.row PySem.Challenge.rw_relayholds_k52_tables_refused).prog.main.body) (λ s=>PySem.W.xlAt qv [] s&&PySem.W.recOk (PySem.W.RowW.records (PySem.W.OpenRow.toRowW (PySem.W.OpenLaw.row PySem.Challenge.rw_relayholds_k52_tables_refused))) s) true
theorem OL(w:PySem.World):(IG w).map (λ s=>(Bp s).1)=some (PyProof.Rows.expectedOf qv):=by kernel_rfl
theorem OM(w:PySem.World):(IG w).map (λ s=>((Bp s).2.1,(Bp s).2.2.1))=some (PySem.bltViewBooted,true):=by kernel_rfl
theorem II(w:PySem.World):(IG w).map (λ s=>((Bp s).2.2.2.1,(Bp s).2.2.2.2.2.2.1,(Bp s).2.2.2.2.2.2.2.1,(Bp s).2.2.2.2.2.2.2.2))=some (true,PyProof.Rows.plainGoodD qv [],PySem.W.wideGood qv,PySem.W.clsGoodW qv []):=by kernel_rfl
theorem ON(w:PySem.World):(IG w).map (λ s=>((Bp s).2.2.2.2.1,(Bp s).2.2.2.2.2.1))=some (PySem.pinGoodD (PyProof.Rows.drecsOf qv),PyProof.Rows.plainGoodE qv (PySem.W.looseW qv [])):=by kernel_rfl
theorem OO(w:PySem.World):(IG w).map (PySem.W.kHook kk ka (λ _=>by kernel_rfl)).obs=some ((PySem.W.kHook kk ka (λ _=>by kernel_rfl)).val w):=by kernel_rfl
theorem hdl:PySem.W.LeftO (PySem.W.OpenLaw.row PySem.Challenge.rw_relayholds_k52_tables_refused).prog qv [] (λ s=>PySem.W.xlAt qv [] s&&PySem.W.recOk (PySem.W.RowW.records (PySem.W.OpenRow.toRowW (PySem.W.OpenLaw.row PySem.Challenge.rw_relayholds_k52_tables_refused))) s) (PySem.W.kHook kk ka (λ _=>by kernel_rfl)).obs (PySem.W.kHook kk ka (λ _=>by kernel_rfl)).val 7840:=λ w=>OJ (A:=Bp) (OL w) (OM w) (II w) (ON w) (OO w)
theorem OP:PySem.W.OpenLaw.wellSaid PySem.Challenge.rw_relayholds_k52_tables_refused=true:=by kernel_rfl
end My
section
set_option hygiene false
set_option genSizeOfSpec false
set_option genSizeOf false
inductive IJ{α0:Sort _}(P0 P1:α0->Prop):Prop | mk (x0:α0) (h0:P0 x0) (h1:P1 x0):IJ P0 P1
inductive IK{α0:Sort _}(P0 P1 P2:α0->Prop):Prop | mk (x0:α0) (h0:P0 x0) (h1:P1 x0) (h2:P2 x0):IK P0 P1 P2
inductive IL{α0:Sort _}(P0 P1 P2 P3:α0->Prop):Prop | mk (x0:α0) (h0:P0 x0) (h1:P1 x0) (h2:P2 x0) (h3:P3 x0):IL P0 P1 P2 P3
inductive IM{α0:Sort _}(P0 P1 P2 P3 P4:α0->Prop):Prop | mk (x0:α0) (h0:P0 x0) (h1:P1 x0) (h2:P2 x0) (h3:P3 x0) (h4:P4 x0):IM P0 P1 P2 P3 P4
inductive IP{α0:Sort _}(P0 P1 P2 P3 P4 P5:α0->Prop):Prop | mk (x0:α0) (h0:P0 x0) (h1:P1 x0) (h2:P2 x0) (h3:P3 x0) (h4:P4 x0) (h5:P5 x0):IP P0 P1 P2 P3 P4 P5
inductive IQ{α0 α1:Sort _}(P0:α0->α1->Prop):Prop | mk (x0:α0) (x1:α1) (h0:P0 x0 x1):IQ P0
inductive IT{α0 α1:Sort _}(P0 P1:α0->α1->Prop):Prop | mk (x0:α0) (x1:α1) (h0:P0 x0 x1) (h1:P1 x0 x1):IT P0 P1
inductive IU{α0 α1:Sort _}(P0 P1 P2:α0->α1->Prop):Prop | mk (x0:α0) (x1:α1) (h0:P0 x0 x1) (h1:P1 x0 x1) (h2:P2 x0 x1):IU P0 P1 P2
inductive IV{α0 α1:Sort _}(P0 P1 P2 P3:α0->α1->Prop):Prop | mk (x0:α0) (x1:α1) (h0:P0 x0 x1) (h1:P1 x0 x1) (h2:P2 x0 x1) (h3:P3 x0 x1):IV P0 P1 P2 P3
inductive IW{α0 α1:Sort _}(P0 P1 P2 P3 P4:α0->α1->Prop):Prop | mk (x0:α0) (x1:α1) (h0:P0 x0 x1) (h1:P1 x0 x1) (h2:P2 x0 x1) (h3:P3 x0 x1) (h4:P4 x0 x1):IW P0 P1 P2 P3 P4
inductive IX{α0 α1:Sort _}(P0 P1 P2 P3 P4 P5:α0->α1->Prop):Prop | mk (x0:α0) (x1:α1) (h0:P0 x0 x1) (h1:P1 x0 x1) (h2:P2 x0 x1) (h3:P3 x0 x1) (h4:P4 x0 x1) (h5:P5 x0 x1):IX P0 P1 P2 P3 P4 P5
inductive IY{α0 α1:Sort _}(P0 P1 P2 P3 P4 P5 P6 P7:α0->α1->Prop):Prop | mk (x0:α0) (x1:α1) (h0:P0 x0 x1) (h1:P1 x0 x1) (h2:P2 x0 x1) (h3:P3 x0 x1) (h4:P4 x0 x1) (h5:P5 x0 x1) (h6:P6 x0 x1) (h7:P7 x0 x1):IY P0 P1 P2 P3 P4 P5 P6 P7
inductive IZ{α0 α1 α2:Sort _}(P0:α0->α1->α2->Prop):Prop | mk (x0:α0) (x1:α1) (x2:α2) (h0:P0 x0 x1 x2):IZ P0
inductive I0{α0 α1 α2:Sort _}(P0 P1:α0->α1->α2->Prop):Prop | mk (x0:α0) (x1:α1) (x2:α2) (h0:P0 x0 x1 x2) (h1:P1 x0 x1 x2):I0 P0 P1
inductive I8{α0 α1 α2:Sort _}(P0 P1 P2:α0->α1->α2->Prop):Prop | mk (x0:α0) (x1:α1) (x2:α2) (h0:P0 x0 x1 x2) (h1:P1 x0 x1 x2) (h2:P2 x0 x1 x2):I8 P0 P1 P2
inductive I9{α0 α1 α2:Sort _}(P0 P1 P2 P3:α0->α1->α2->Prop):Prop | mk (x0:α0) (x1:α1) (x2:α2) (h0:P0 x0 x1 x2) (h1:P1 x0 x1 x2) (h2:P2 x0 x1 x2) (h3:P3 x0 x1 x2):I9 P0 P1 P2 P3
inductive Ja{α0 α1 α2:Sort _}(P0 P1 P2 P3 P4:α0->α1->α2->Prop):Prop | mk (x0:α0) (x1:α1) (x2:α2) (h0:P0 x0 x1 x2) (h1:P1 x0 x1 x2) (h2:P2 x0 x1 x2) (h3:P3 x0 x1 x2) (h4:P4 x0 x1 x2):Ja P0 P1 P2 P3 P4
inductive Jb{α0 α1 α2:Sort _}(P0 P1 P2 P3 P4 P5:α0->α1->α2->Prop):Prop | mk (x0:α0) (x1:α1) (x2:α2) (h0:P0 x0 x1 x2) (h1:P1 x0 x1 x2) (h2:P2 x0 x1 x2) (h3:P3 x0 x1 x2) (h4:P4 x0 x1 x2) (h5:P5 x0 x1 x2):Jb P0 P1 P2 P3 P4 P5
inductive Jc{α0 α1 α2:Sort _}(P0 P1 P2 P3 P4 P5 P6:α0->α1->α2->Prop):Prop | mk (x0:α0) (x1:α1) (x2:α2) (h0:P0 x0 x1 x2) (h1:P1 x0 x1 x2) (h2:P2 x0 x1 x2) (h3:P3 x0 x1 x2) (h4:P4 x0 x1 x2) (h5:P5 x0 x1 x2) (h6:P6 x0 x1 x2):Jc P0 P1 P2 P3 P4 P5 P6
inductive Jd{α0 α1 α2 α3:Sort _}(P0:α0->α1->α2->α3->Prop):Prop | mk (x0:α0) (x1:α1) (x2:α2) (x3:α3) (h0:P0 x0 x1 x2 x3):Jd P0
inductive Je{α0 α1 α2 α3:Sort _}(P0 P1:α0->α1->α2->α3->Prop):Prop | mk (x0:α0) (x1:α1) (x2:α2) (x3:α3) (h0:P0 x0 x1 x2 x3) (h1:P1 x0 x1 x2 x3):Je P0 P1
inductive Jf{α0 α1 α2 α3:Sort _}(P0 P1 P2:α0->α1->α2->α3->Prop):Prop | mk (x0:α0) (x1:α1) (x2:α2) (x3:α3) (h0:P0 x0 x1 x2 x3) (h1:P1 x0 x1 x2 x3) (h2:P2 x0 x1 x2 x3):Jf P0 P1 P2
inductive Jg{α0 α1 α2 α3:Sort _}(P0 P1 P2 P3:α0->α1->α2->α3->Prop):Prop | mk (x0:α0) (x1:α1) (x2:α2) (x3:α3) (h0:P0 x0 x1 x2 x3) (h1:P1 x0 x1 x2 x3) (h2:P2 x0 x1 x2 x3) (h3:P3 x0 x1 x2 x3):Jg P0 P1 P2 P3
inductive Jh{α0 α1 α2 α3:Sort _}(P0 P1 P2 P3 P4:α0->α1->α2->α3->Prop):Prop | mk (x0:α0) (x1:α1) (x2:α2) (x3:α3) (h0:P0 x0 x1 x2 x3) (h1:P1 x0 x1 x2 x3) (h2:P2 x0 x1 x2 x3) (h3:P3 x0 x1 x2 x3) (h4:P4 x0 x1 x2 x3):Jh P0 P1 P2 P3 P4
inductive Ji{α0 α1 α2 α3:Sort _}(P0 P1 P2 P3 P4 P5:α0->α1->α2->α3->Prop):Prop | mk (x0:α0) (x1:α1) (x2:α2) (x3:α3) (h0:P0 x0 x1 x2 x3) (h1:P1 x0 x1 x2 x3) (h2:P2 x0 x1 x2 x3) (h3:P3 x0 x1 x2 x3) (h4:P4 x0 x1 x2 x3) (h5:P5 x0 x1 x2 x3):Ji P0 P1 P2 P3 P4 P5
inductive Jj{α0 α1 α2 α3:Sort _}(P0 P1 P2 P3 P4 P5 P6:α0->α1->α2->α3->Prop):Prop | mk (x0:α0) (x1:α1) (x2:α2) (x3:α3) (h0:P0 x0 x1 x2 x3) (h1:P1 x0 x1 x2 x3) (h2:P2 x0 x1 x2 x3) (h3:P3 x0 x1 x2 x3) (h4:P4 x0 x1 x2 x3) (h5:P5 x0 x1 x2 x3) (h6:P6 x0 x1 x2 x3):Jj P0 P1 P2 P3 P4 P5 P6
inductive Jk{α0 α1 α2 α3:Sort _}(P0 P1 P2 P3 P4 P5 P6 P7:α0->α1->α2->α3->Prop):Prop | mk (x0:α0) (x1:α1) (x2:α2) (x3:α3) (h0:P0 x0 x1 x2 x3) (h1:P1 x0 x1 x2 x3) (h2:P2 x0 x1 x2 x3) (h3:P3 x0 x1 x2 x3) (h4:P4 x0 x1 x2 x3) (h5:P5 x0 x1 x2 x3) (h6:P6 x0 x1 x2 x3) (h7:P7 x0 x1 x2 x3):Jk P0 P1 P2 P3 P4 P5 P6 P7
inductive Jl{α0 α1 α2 α3 α4:Sort _}(P0:α0->α1->α2->α3->α4->Prop):Prop | mk (x0:α0) (x1:α1) (x2:α2) (x3:α3) (x4:α4) (h0:P0 x0 x1 x2 x3 x4):Jl P0
inductive Jm{α0 α1 α2 α3 α4:Sort _}(P0 P1 P2 P3:α0->α1->α2->α3->α4->Prop):Prop | mk (x0:α0) (x1:α1) (x2:α2) (x3:α3) (x4:α4) (h0:P0 x0 x1 x2 x3 x4) (h1:P1 x0 x1 x2 x3 x4) (h2:P2 x0 x1 x2 x3 x4) (h3:P3 x0 x1 x2 x3 x4):Jm P0 P1 P2 P3
inductive Jo{α0 α1 α2 α3 α4:Sort _}(P0 P1 P2 P3 P4 P5:α0->α1->α2->α3->α4->Prop):Prop | mk (x0:α0) (x1:α1) (x2:α2) (x3:α3) (x4:α4) (h0:P0 x0 x1 x2 x3 x4) (h1:P1 x0 x1 x2 x3 x4) (h2:P2 x0 x1 x2 x3 x4) (h3:P3 x0 x1 x2 x3 x4) (h4:P4 x0 x1 x2 x3 x4) (h5:P5 x0 x1 x2 x3 x4):Jo P0 P1 P2 P3 P4 P5
inductive Jp{α0 α1 α2 α3 α4:Sort _}(P0 P1 P2 P3 P4 P5 P6 P7:α0->α1->α2->α3->α4->Prop):Prop | mk (x0:α0) (x1:α1) (x2:α2) (x3:α3) (x4:α4) (h0:P0 x0 x1 x2 x3 x4) (h1:P1 x0 x1 x2 x3 x4) (h2:P2 x0 x1 x2 x3 x4) (h3:P3 x0 x1 x2 x3 x4) (h4:P4 x0 x1 x2 x3 x4) (h5:P5 x0 x1 x2 x3 x4) (h6:P6 x0 x1 x2 x3 x4) (h7:P7 x0 x1 x2 x3 x4):Jp P0 P1 P2 P3 P4 P5 P6 P7
inductive Jq{α0 α1 α2 α3 α4:Sort _}(P0 P1 P2 P3 P4 P5 P6 P7 P8:α0->α1->α2->α3->α4->Prop):Prop | mk (x0:α0) (x1:α1) (x2:α2) (x3:α3) (x4:α4) (h0:P0 x0 x1 x2 x3 x4) (h1:P1 x0 x1 x2 x3 x4) (h2:P2 x0 x1 x2 x3 x4) (h3:P3 x0 x1 x2 x3 x4) (h4:P4 x0 x1 x2 x3 x4) (h5:P5 x0 x1 x2 x3 x4) (h6:P6 x0 x1 x2 x3 x4) (h7:P7 x0 x1 x2 x3 x4) (h8:P8 x0 x1 x2 x3 x4):Jq P0 P1 P2 P3 P4 P5 P6 P7 P8
inductive Jr{α0 α1 α2 α3 α4 α5:Sort _}(P0:α0->α1->α2->α3->α4->α5->Prop):Prop | mk (x0:α0) (x1:α1) (x2:α2) (x3:α3) (x4:α4) (x5:α5) (h0:P0 x0 x1 x2 x3 x4 x5):Jr P0
inductive Js{α0 α1 α2 α3 α4 α5:Sort _}(P0 P1 P2 P3 P4 P5:α0->α1->α2->α3->α4->α5->Prop):Prop | mk (x0:α0) (x1:α1) (x2:α2) (x3:α3) (x4:α4) (x5:α5) (h0:P0 x0 x1 x2 x3 x4 x5) (h1:P1 x0 x1 x2 x3 x4 x5) (h2:P2 x0 x1 x2 x3 x4 x5) (h3:P3 x0 x1 x2 x3 x4 x5) (h4:P4 x0 x1 x2 x3 x4 x5) (h5:P5 x0 x1 x2 x3 x4 x5):Js P0 P1 P2 P3 P4 P5
inductive Jt{α0 α1 α2 α3 α4 α5 α6:Sort _}(P0 P1 P2:α0->α1->α2->α3->α4->α5->α6->Prop):Prop | mk (x0:α0) (x1:α1) (x2:α2) (x3:α3) (x4:α4) (x5:α5) (x6:α6) (h0:P0 x0 x1 x2 x3 x4 x5 x6) (h1:P1 x0 x1 x2 x3 x4 x5 x6) (h2:P2 x0 x1 x2 x3 x4 x5 x6):Jt P0 P1 P2
inductive Ju{α0 α1 α2 α3 α4 α5 α6:Sort _}(P0 P1 P2 P3 P4 P5 P6 P7 P8:α0->α1->α2->α3->α4->α5->α6->Prop):Prop | mk (x0:α0) (x1:α1) (x2:α2) (x3:α3) (x4:α4) (x5:α5) (x6:α6) (h0:P0 x0 x1 x2 x3 x4 x5 x6) (h1:P1 x0 x1 x2 x3 x4 x5 x6) (h2:P2 x0 x1 x2 x3 x4 x5 x6) (h3:P3 x0 x1 x2 x3 x4 x5 x6) (h4:P4 x0 x1 x2 x3 x4 x5 x6) (h5:P5 x0 x1 x2 x3 x4 x5 x6) (h6:P6 x0 x1 x2 x3 x4 x5 x6) (h7:P7 x0 x1 x2 x3 x4 x5 x6) (h8:P8 x0 x1 x2 x3 x4 x5 x6):Ju P0 P1 P2 P3 P4 P5 P6 P7 P8
inductive Jv{α0 α1 α2 α3 α4 α5 α6 α7:Sort _}(P0:α0->α1->α2->α3->α4->α5->α6->α7->Prop):Prop | mk (x0:α0) (x1:α1) (x2:α2) (x3:α3) (x4:α4) (x5:α5) (x6:α6) (x7:α7) (h0:P0 x0 x1 x2 x3 x4 x5 x6 x7):Jv P0
inductive Jw{α0 α1 α2 α3 α4 α5 α6 α7:Sort _}(P0 P1:α0->α1->α2->α3->α4->α5->α6->α7->Prop):Prop | mk (x0:α0) (x1:α1) (x2:α2) (x3:α3) (x4:α4) (x5:α5) (x6:α6) (x7:α7) (h0:P0 x0 x1 x2 x3 x4 x5 x6 x7) (h1:P1 x0 x1 x2 x3 x4 x5 x6 x7):Jw P0 P1
inductive Jx{α0 α1 α2 α3 α4 α5 α6 α7:Sort _}(P0 P1 P2 P3:α0->α1->α2->α3->α4->α5->α6->α7->Prop):Prop | mk (x0:α0) (x1:α1) (x2:α2) (x3:α3) (x4:α4) (x5:α5) (x6:α6) (x7:α7) (h0:P0 x0 x1 x2 x3 x4 x5 x6 x7) (h1:P1 x0 x1 x2 x3 x4 x5 x6 x7) (h2:P2 x0 x1 x2 x3 x4 x5 x6 x7) (h3:P3 x0 x1 x2 x3 x4 x5 x6 x7):Jx P0 P1 P2 P3
inductive Jy{α0 α1 α2 α3 α4 α5 α6 α7:Sort _}(P0 P1 P2 P3 P4 P5 P6 P7 P8:α0->α1->α2->α3->α4->α5->α6->α7->Prop):Prop | mk (x0:α0) (x1:α1) (x2:α2) (x3:α3) (x4:α4) (x5:α5) (x6:α6) (x7:α7) (h0:P0 x0 x1 x2 x3 x4 x5 x6 x7) (h1:P1 x0 x1 x2 x3 x4 x5 x6 x7) (h2:P2 x0 x1 x2 x3 x4 x5 x6 x7) (h3:P3 x0 x1 x2 x3 x4 x5 x6 x7) (h4:P4 x0 x1 x2 x3 x4 x5 x6 x7) (h5:P5 x0 x1 x2 x3 x4 x5 x6 x7) (h6:P6 x0 x1 x2 x3 x4 x5 x6 x7) (h7:P7 x0 x1 x2 x3 x4 x5 x6 x7) (h8:P8 x0 x1 x2 x3 x4 x5 x6 x7):Jy P0 P1 P2 P3 P4 P5 P6 P7 P8
inductive Jz{α0 α1 α2 α3 α4 α5 α6 α7 α8:Sort _}(P0 P1 P2:α0->α1->α2->α3->α4->α5->α6->α7->α8->Prop):Prop | mk (x0:α0) (x1:α1) (x2:α2) (x3:α3) (x4:α4) (x5:α5) (x6:α6) (x7:α7) (x8:α8) (h0:P0 x0 x1 x2 x3 x4 x5 x6 x7 x8) (h1:P1 x0 x1 x2 x3 x4 x5 x6 x7 x8) (h2:P2 x0 x1 x2 x3 x4 x5 x6 x7 x8):Jz P0 P1 P2
inductive JA{α0 α1 α2 α3 α4 α5 α6 α7 α8:Sort _}(P0 P1 P2 P3 P4 P5 P6 P7:α0->α1->α2->α3->α4->α5->α6->α7->α8->Prop):Prop | mk (x0:α0) (x1:α1) (x2:α2) (x3:α3) (x4:α4) (x5:α5) (x6:α6) (x7:α7) (x8:α8) (h0:P0 x0 x1 x2 x3 x4 x5 x6 x7 x8) (h1:P1 x0 x1 x2 x3 x4 x5 x6 x7 x8) (h2:P2 x0 x1 x2 x3 x4 x5 x6 x7 x8) (h3:P3 x0 x1 x2 x3 x4 x5 x6 x7 x8) (h4:P4 x0 x1 x2 x3 x4 x5 x6 x7 x8) (h5:P5 x0 x1 x2 x3 x4 x5 x6 x7 x8) (h6:P6 x0 x1 x2 x3 x4 x5 x6 x7 x8) (h7:P7 x0 x1 x2 x3 x4 x5 x6 x7 x8):JA P0 P1 P2 P3 P4 P5 P6 P7
end
section
namespace L2
open PySem PySem.Spec PyProof.Rows List
abbrev Key:=Sum Int Str
def lB:Key->Value->Bool
 |.inl k,v=>Value.isInt k v
 |.inr x,v=>Value.isStrOf x v
def Mr(w:World):Key->Int
 |.inl k=>hashInt k
 |.inr x=>hashStr w x
theorem bJ:∀{k:Key} {v:Value},lB k v=true->(∃i t,k=Sum.inl i/\v=Value.int i t)\/(∃x t,k=Sum.inr x/\v=Value.str x t)
 |.inl i,v,h=>by
  let⟨t,e⟩:=Value.isInt_shape (k:=i) (v:=v) h;exact .inl ⟨i,t,rfl,e⟩
 |.inr x,v,h=>by
  let⟨t,e⟩:=Value.isStrOf_shape (x:=x) (v:=v) h;exact .inr ⟨x,t,rfl,e⟩
theorem nM(i:Int)(t:Tok):lB (.inl i) (.int i t)=true:=by simp[lB,Value.isInt]
theorem nN(x:Str)(t:Tok):lB (.inr x) (.str x t)=true:=by simp[lB,Value.isStrOf]
theorem E4(a b:Int):decide ((Sum.inl a:Key)=Sum.inl b)=(a==b):=by
 by_cases e:a=b
 .subst e;simp
 .have h:¬(Sum.inl a:Key)=Sum.inl b:=λ q=>e (Sum.inl.inj q);rw[QH h];exact(RD.mpr e).symm
theorem E5(a b:Str):decide ((Sum.inr a:Key)=Sum.inr b)=decide (a=b):=by
 by_cases e:a=b
 .subst e;simp
 .have h:¬(Sum.inr a:Key)=Sum.inr b:=λ q=>e (Sum.inr.inj q);rw[QH h,QH e]
theorem E6(a:Int)(b:Str):decide ((Sum.inl a:Key)=Sum.inr b)=false:=QH (λ q=>nomatch q)
theorem E7(a:Str)(b:Int):decide ((Sum.inr a:Key)=Sum.inl b)=false:=QH (λ q=>nomatch q)
def bw(prog:Program)(w:World):PySem.KeyKind prog w Key where
 is:=lB
 hash:=Mr w
 inj:=λ v a b ha f=>by
  rcases bJ ha with⟨i,t,rfl,rfl⟩ | ⟨x,t,rfl,rfl⟩
  .rcases bJ f with⟨j,u,rfl,e⟩ | ⟨y,u,rfl,e⟩
   .injection e with c _;rw[c]
   .exact nomatch e
  .rcases bJ f with⟨j,u,rfl,e⟩ | ⟨y,u,rfl,e⟩
   .exact nomatch e
   .injection e with c _;rw[c]
 byValue:=λ k v h=>by
  rcases bJ h with⟨i,t,rfl,rfl⟩ | ⟨x,t,rfl,rfl⟩<;>rfl
 pyHash:=λ d h=>by
  rcases bJ d with⟨i,t,rfl,rfl⟩ | ⟨x,t,rfl,rfl⟩
  .exact wpAny_pyHash_int h
  .exact wpAny_pyHash_str h
 eqBool:=λ g d h=>by
  rcases bJ g with⟨i,t,rfl,rfl⟩ | ⟨x,t,rfl,rfl⟩
  .rcases bJ d with⟨j,u,rfl,rfl⟩ | ⟨y,u,rfl,rfl⟩
   .rw[E4] at h;exact wpAny_eqBool_int h
   .rw[E6] at h;exact SeqAt.EqAt.int_str i t y u _ _ _ _ h
  .rcases bJ d with⟨j,u,rfl,rfl⟩ | ⟨y,u,rfl,rfl⟩
   .rw[E7] at h;exact SeqAt.EqAt.str_int x t j u _ _ _ _ h
   .rw[E5] at h;exact wpAny_eqBool_str h
 «strs»:=λ k x t v h=>by
  rcases bJ h with⟨i,u,rfl,e⟩ | ⟨y,u,rfl,e⟩
  .exact nomatch e
  .injection e with c _
   subst c;cases v<;>rfl
theorem qH(prog:Program)(w:World)(i:Int)(t:Tok):(bw prog w).is (.inl i) (.int i t)=true:=nM i t
theorem qI(prog:Program)(w:World)(x:Str)(t:Tok):(bw prog w).is (.inr x) (.str x t)=true:=nN x t
end L2
namespace L2
open PySem PySem.Spec PyProof.Rows List
variable{b:Addr}{h:Heap}
inductive V where
 |non | bl (b:Bool) | int (i:Int) | str (x:Str) | byt (b:Array UInt8) | gR (b:UInt64) | ref (a:Addr) | ty (n:String)
 deriving DecidableEq
def RelV:V->Value->Prop
 |.non,u=>u=Value.none
 |.bl b,u=>u=Value.bool b
 |.int i,u=>∃t,u=Value.int i t
 |.str x,u=>∃t,u=Value.str x t
 |.byt b,u=>∃t,u=Value.bytes b t
 |.gR b,u=>∃t,u=Value.float b t
 |.ref a,u=>u=Value.ref a
 |.ty n,u=>u=Value.type n
abbrev Vals:List V->List Value->Prop:=Paired RelV
theorem Vals.length{xs:List V}{us:List Value}(r:Vals xs us):xs.length=us.length:=TZ r
theorem Vals.get:∀{xs:List V} {us:List Value} {i:Nat} {x:V},Vals xs us->xs[i]?=some x->∃u,us[i]?=some u/\RelV x u
 |_,_,_,_,.nil,e=>by simp at e
 |_,_,0,_,.cons r _,e=>by simp at e;subst e;exact⟨_,rfl,r⟩
 |_,_,i+1,x,.cons _ t,e=>by
  let⟨u,c,a⟩:=Vals.get (i:=i) (x:=x) t (~~~e);exact⟨u,~~~c,a⟩
theorem Vals.set{x:V}{u:Value}(r:RelV x u):∀{xs:List V} {us:List Value} (i:Nat),Vals xs us->Vals (xs.set i x) (us.set i u)
 |_,_,_,.nil=>.nil
 |_,_,0,.cons _ t=>.cons r t
 |_,_,i+1,.cons q t=>.cons q (Vals.set r i t)
theorem Vals.append:∀{xs ys:List V} {us ws:List Value},Vals xs us->Vals ys ws->Vals (xs++ys) (us++ws)
 |_,_,_,_,.nil,s=>s
 |_,_,_,_,.cons r t,s=>.cons r (Vals.append t s)
theorem Vals.take:∀{xs:List V} {us:List Value} (n:Nat),Vals xs us->Vals (xs.take n) (us.take n)
 |_,_,0,_=>.nil
 |_,_,_+1,.nil=>.nil
 |_,_,n+1,.cons r t=>.cons r (Vals.take n t)
theorem Vals.drop:∀{xs:List V} {us:List Value} (n:Nat),Vals xs us->Vals (xs.drop n) (us.drop n)
 |_,_,0,r=>r
 |_,_,_+1,.nil=>.nil
 |_,_,n+1,.cons _ t=>Vals.drop n t
def fQ:Option V->Option Value->Prop
 |some v,some u=>RelV v u
 |none,none=>True
 |_,_=>False
def KV{a:Type}:List (a×V)->List (a×Value)->Prop:=Paired λ (p:a×V) (q:a×Value)=>p.1=q.1/\RelV p.2 q.2
def kV:Key->V
 |.inl i=>.int i
 |.inr x=>.str x
inductive HO where
 |lst (xs:List V)
 |tup (xs:List V)
 |dK (kvs:List (Key×V)) | dT (kvs:List (List Key×V))
 |set (S:Int->Bool) (n:Nat)
 |ins (C dx:Addr) (fs:List (Str×V))
 |own (x:Addr)
 |xd (fs:List (Str×V))
 |met (f x:Addr)
 |rng (lo hi:Int)
 |frz (o:Obj) (u:HO)
 |tbl (ps:Array Value)
 |ext (φ:Heap->Prop)
abbrev Hp:=Addr->Option HO
def upd(H:Hp)(a:Addr)(o:HO):Hp:=λ b=>if b=a then some o else H b
theorem aB{H:Hp}{a:Addr}{o:HO}:upd H a o a=some o:=by unfold upd;rw[Qn rfl]
theorem aq{H:Hp}{a:Addr}{o:HO}(h:b≠a):upd H a o b=H b:=by unfold upd;rw[Qu h]
theorem JB{H:Hp}{a:Addr}{o u:HO}(h:H a=some o)(h':H b=some u)(d:o≠u):a≠b:=by
 intro e;subst e;rw[h] at h';exact d (QN h')
theorem aA{H:Hp}{a:Addr}{o:HO}(h:H a=some o)(h':H b=none):a≠b:=by
 intro e;subst e;rw[h] at h';cases h'
section
variable(P:Program)(w:World)
def bA(H:Hp)(h:Heap)(a:Addr):HO->Prop
 |.lst xs=>xs.length<=sizeLine/\∃(its:List Value) (n:Nat),Vals xs its/\h.get? a=some {cls:=.type "list",data:=.seq its.toArray n}
 |.tup xs=>xs.length<=sizeLine/\∃its:List Value,Vals xs its/\IsTup h a its.toArray
 |.dK c=>c.length<=sizeLine/\(a==sysModules)=false/\∃vs,KV c vs/\h.DictOf (bw P w) a vs
 |.dT c=>c.length<=sizeLine/\(a==sysModules)=false/\∃xs:List (List Key×Addr×Value),
   Paired (λ (p:List Key×V) (q:List Key×Addr×Value)=>p.1=q.1/\H q.2.1=some (.tup (p.1.map kV))/\RelV p.2 q.2.2) c xs/\
   ∃o es j,h.get? a=some o/\o.ExactDict/\o.data=.dict es j/\es.toList=xs.map (entryOfKey (tupleKind (bw P w)))/\(xs.map (·.1)).Nodup
 |.set S n=>h.SetOf (intKind P w) a S n
 |.ins C dx fs=>H dx=some (.own a)/\fs.length<=1000/\dx≠a/\h.get? a=some (PySem.W.instObj C dx)/\
   ∃d,h.Ns1 dx d/\(∀f,fQ (fs.lookup f) (d f))/\PySem.Within d (fs.map (·.1))
 |.own _=>∃o,h.get? a=some o
 |.xd fs=>∃d,h.Ns1 a d/\∀f,fQ (fs.lookup f) (d f)
 |.rng lo hi=>∃t u v,h.get? a=some {cls:=.type "range",data:=.fields #[.int lo t,.int hi u,.int 1 v]}
 |.frz o u=>h.get? a=some o/\bA H h a u
 |.tbl ps=>h.get? a=some {cls:=.none,data:=.fields ps}
 |.met f x=>h.get? a=@(PySem.W.methodObj (.ref f) (.ref x))
 |.ext e=>e h/\(∃o,h.get? a=some o)/\∀i g:Heap,e i->(∀o,i.get? a=some o->g.get? a=some o)->e g
def gb(H:Hp)(h:Heap):Prop:=∀a o,H a=some o->bA P w H h a o
end
section
variable{P:Program}{w:World}{H H':Hp}{h h':Heap}{a:Addr}{o:HO}
theorem bA.lt(x:bA P w H h a o):a<h.objs.size:=by
 cases o with
 |lst xs=>let⟨_,_,_,_,e⟩:=x;exact Qg e
 |tup xs=>let⟨_,_,_,p⟩:=x;exact p.lt
 |dK c=>let⟨_,_,_,_,o,_,_,e,_⟩:=x;exact Qg e
 |dT c=>let⟨_,_,_,_,o,_,_,e,_⟩:=x;exact Qg e
 |set S n=>let⟨o,_,_,_,e,_⟩:=x;exact Qg e
 |ins C i fs=>let⟨_,_,_,e,_⟩:=x;exact Qg e
 |own y=>let⟨_,e⟩:=x;exact Qg e
 |xd fs=>let⟨_,⟨_,_,_,e,_⟩,_⟩:=x;exact Qg e
 |rng lo hi=>let⟨_,_,_,e⟩:=x;exact Qg e
 |frz g u=>let⟨e,_⟩:=x;exact Qg e
 |tbl ps=>exact Qg (show h.get? a=some _ from x)
 |met f y=>exact Qg (show h.get? a=some _ from x)
 |ext d=>let⟨_,⟨_,e⟩,_⟩:=x;exact Qg e
theorem Paired.E8{c J:Type}{F G:c->J->Prop}:∀{l₁:List c} {l₂:List J},Paired F l₁ l₂->(∀a b,F a b->G a b)->Paired G l₁ l₂
 |_,_,.nil,_=>.nil
 |_,_,.cons r t,f=>.cons (f _ _ r) (Paired.E8 t f)
theorem bA.stay(x:bA P w H h a o)(k:∀b u,(b=a\/H b=@(.own a))->h.get? b=some u->h'.get? b=some u)
  (ho:∀b,H b=some (.own a)->H' b=@(.own a)) (I:∀b xs,H b=some (.tup xs)->H' b=@(.tup xs)):bA P w H' h' a o:=by
 induction o with
 |lst xs=>let⟨z,l,n,r,e⟩:=x;exact⟨z,l,n,r,k _ _ (.inl rfl) e⟩
 |tup xs=>let⟨z,l,r,g,e,c⟩:=x;exact⟨z,l,r,g,k _ _ (.inl rfl) e,c⟩
 |dK A=>let⟨z,y,D,r,g,i,j,e,c⟩:=x;exact⟨z,y,D,r,g,i,j,k _ _ (.inl rfl) e,c⟩
 |dT A=>
  let⟨z,y,xs,r,g,i,j,e,c,M,L,K⟩:=x;exact⟨z,y,xs,Paired.E8 r λ p q z=>⟨z.1,I _ _ z.2.1,z.2.2⟩,g,i,j,k _ _ (.inl rfl) e,c,M,L,K⟩
 |set S n=>let⟨g,i,j,t,e,c⟩:=x;exact⟨g,i,j,t,k _ _ (.inl rfl) e,c⟩
 |ins C O fs=>
  let⟨d,z,F,e,s,⟨m,i,j,J,c⟩,r,E⟩:=x;exact⟨ho _ d,z,F,k _ _ (.inl rfl) e,s,⟨m,i,j,k _ _ (.inr d) J,c⟩,r,E⟩
 |own y=>let⟨g,e⟩:=x;exact⟨g,k _ _ (.inl rfl) e⟩
 |xd fs=>let⟨s,⟨m,i,j,e,c⟩,r⟩:=x;exact⟨s,⟨m,i,j,k _ _ (.inl rfl) e,c⟩,r⟩
 |rng lo hi=>let⟨t,u,v,e⟩:=x;exact⟨t,u,v,k _ _ (.inl rfl) e⟩
 |frz g u G=>let⟨e,q⟩:=x;exact⟨k _ _ (.inl rfl) e,G q⟩
 |tbl ps=>
  have e:h.get? a=some {cls:=.none,data:=.fields ps}:=x;show h'.get? a=some {cls:=.none,data:=.fields ps};exact k a _ (.inl rfl) e
 |met f y=>
  have e:h.get? a=some (PySem.W.methodObj (.ref f) (.ref y)):=x;show h'.get? a=@(PySem.W.methodObj (.ref f) (.ref y));exact k a _ (.inl rfl) e
 |ext N=>let⟨p,⟨o,e⟩,B⟩:=x;exact⟨B _ _ p λ o q=>k _ _ (.inl rfl) q,⟨o,k _ _ (.inl rfl) e⟩,B⟩
theorem gb.lt(x:gb P w H h)(e:H a=some o):a<h.objs.size:=(x a o e).lt
theorem gb.fresh(x:gb P w H h)(e:h.objs.size<=a):H a=none:=by
 cases q:H a with
 |none=>rfl
 |some u=>exact absurd (Qm (x.lt q) e) (R9 _)
theorem gb.kept(x:gb P w H h)(k:∀b u,h.get? b=some u->h'.get? b=some u):gb P w H h':=λ a o e=>
 (x a o e).stay (λ b u _ q=>k b u q) (λ _ q=>q) λ _ _ q=>q
theorem gb.laid(x:gb P w H h)(k:∀b u,h.get? b=some u->h'.get? b=some u)(i:h.objs.size<=a)(d:bA P w (upd H a o) h' a o):gb P w (upd H a o) h':=λ b u e=>by
 have f:=x.fresh i
 by_cases g:b=a
 .subst g;rw[aB] at e;cases e;exact d
 .rw[aq g] at e;exact(x b u e).stay (λ c v _ q=>k c v q) (λ c q=>by rw[aq (aA q f)];exact q) λ c j q=>by rw[aq (aA q f)];exact q
end
def Rd(H:Hp)(a:Addr)(u:HO):Prop:=H a=some u\/∃o,H a=@(.frz o u)
theorem Rd.ok{P:Program}{w:World}{H:Hp}{a:Addr}{u:HO}(r:Rd H a u)(x:gb P w H h):bA P w H h a u:=by
 rcases r with r | ⟨o,r⟩
 .exact x a u r
 .let⟨_,q⟩:=x a _ r;exact q
def JC:Option HO->Prop
 |some (.lst _)=>True
 |some (.dK _)=>True
 |some (.dT _)=>True
 |some (.set _ _)=>True
 |some (.ins _ _ _)=>True
 |some (.ext _)=>True
 |_=>False
section
variable{P:Program}{w:World}{H:Hp}{h h':Heap}{x e:Addr}{o':HO}
theorem gb.write(o:gb P w H h)(f:JC (H x))(m:e=x\/H e=@(.own x))(k:∀b u,b≠e->h.get? b=some u->h'.get? b=some u)(t:∃u,h'.get? e=some u)
  (j:bA P w (upd H x o') h' x o'):gb P w (upd H x o') h':=λ b u q=>by
 have n:∀c y,H c=some (.own y)->c≠x:=λ c y r z=>by subst z;rw[r] at f;exact f
 have s:∀c d,H c=some (.tup d)->c≠x:=λ c d r z=>by subst z;rw[r] at f;exact f
 by_cases i:b=x
 .subst i;rw[aB] at q;cases q;exact j
 .rw[aq i] at q
  by_cases a:b=e
  .have l:H b=some (.own x):=by
    rcases m with z | z
    .exact absurd (a.trans z) i
    .rw[a];exact z
   rw[q] at l;cases l;let⟨v,p⟩:=t;exact⟨v,by rw[a];exact p⟩
  .refine(o b u q).stay (λ c v g r=>k c v ?_ r) (λ c r=>by rw[aq (n c b r)];exact r) λ c d r=>by rw[aq (s c d r)];exact r
   rcases g with rfl | g
   .exact a
   .rintro rfl;rcases m with z | z
    .exact n c b g z
    .rw[g] at z;cases z;exact i rfl
end
structure Un(fs ex:List Addr)(H H':Hp)(h h':Heap):Prop where
 keep:∀b o,h.get? b=some o->H b=none->b∉fs->b∉ex->h'.get? b=some o
 slot:∀b o,h.get? b=some o->H b=none->b∈fs->b∉ex->∃sl,h'.get? b=some {o with slots:=sl}
 free:∀b o,h.get? b=some o->H b=none->b∉ex->H' b=none
 there:∀b o,h.get? b=some o->b∉ex->∃o',h'.get? b=some o'
 tups:∀b xs,H b=some (.tup xs)->H' b=@(.tup xs)
 gS:∀b o u,H b=some (.frz o u)->H' b=@(.frz o u)
 iN:∀b ps,H b=some (.tbl ps)->∃more,H' b=@(.tbl (ps++more))
section
variable{fs fs' ex ex':List Addr}{H H1 H2:Hp}{h h1 h2 h':Heap}{a x e:Addr}{o:HO}
theorem Un.any(u:Un fs ex H H1 h h1){c:Obj}(q:h.get? b=some c)(n:H b=none)(d:b∉ex):∃sl,h1.get? b=some {c with slots:=sl}:=by
 by_cases f:b∈fs
 .exact u.slot b c q n f d
 .exact⟨c.slots,u.keep b c q n f d⟩
theorem Un.kept(k:∀b u,h.get? b=some u->h'.get? b=some u):Un fs ex H H h h':=
 ⟨λ b c q _ _ _=>k b c q,λ b c q _ _ _=>⟨c.slots,k b c q⟩,λ _ _ _ n _=>n,λ b c q _=>⟨c,k b c q⟩,λ _ _ q=>q,λ _ _ _ q=>q,λ _ d q=>⟨#[],by rw[q];simp⟩⟩
theorem Un.refl:Un fs ex H H h h:=Un.kept λ _ _ q=>q
theorem Un.laid(k:∀b u,h.get? b=some u->h'.get? b=some u)(c:h.objs.size<=a)(hn:H a=none):Un fs ex H (upd H a o) h h' where
 keep:=λ b u q _ _ _=>k b u q
 slot:=λ b u q _ _ _=>⟨u.slots,k b u q⟩
 free:=λ b u q n _=>by rw[aq (Qo (Qm (Qg q) c))];exact n
 there:=λ b u q _=>⟨u,k b u q⟩
 tups:=λ b xs q=>by rw[aq (aA q hn)];exact q
 gS:=λ b u xs q=>by rw[aq (aA q hn)];exact q
 iN:=λ b ps q=>⟨#[],by rw[aq (aA q hn),q];simp⟩
theorem Un.write(d:JC (H x))(m:e=x\/H e=@(.own x))(k:∀b u,b≠e->h.get? b=some u->h'.get? b=some u)(p:∃u,h'.get? e=some u):Un fs ex H (upd H x o) h h':=by
 have g:∀b,H b=none->b≠x:=λ b n z=>by subst z;rw[n] at d;exact d
 have i:∀b,H b=none->b≠e:=λ b n z=>by
  subst z;rcases m with r | r
  .exact g b n r
  .rw[n] at r;cases r
 have f:∀b u,H b=some u->¬JC (some u)->b≠x:=λ b u q l z=>by subst z;rw[q] at d;exact l d
 refine⟨λ b u q n _ _=>k b u (i b n) q,λ b u q n _ _=>⟨u.slots,k b u (i b n) q⟩,λ b u q n _=>by rw[aq (g b n)];exact n,λ b u q _=>?_,
  λ b j q=>by rw[aq (f b _ q λ z=>z)];exact q,λ b u j q=>by rw[aq (f b _ q λ z=>z)];exact q,λ b s q=>⟨#[],by rw[aq (f b _ q λ z=>z),q];simp⟩⟩
 by_cases c:b=e
 .subst c;exact p
 .exact⟨u,k b u c q⟩
end
def LD(h:Heap)(H:Hp):List Addr:=(List.range h.objs.size).filter λ a=>(H a).isSome
def pB(h:Heap)(H:Hp):Heap:=PySem.W.hideAll h (LD h H)
theorem wI(h:Heap)(H:Hp):(pB h H).objs.size=h.objs.size:=PySem.W.hideAll_size _ _
theorem yC{H:Hp}{o:Obj}(e:h.get? b=some o)(n:H b=none):(pB h H).get? b=some o:=
 PySem.W.hideAll_get _ e λ a=>by
  have q:(H b).isSome=true:=(Tg.mp a).2;rw[n] at q;simp at q
theorem BA{H:Hp}{o:Obj}(e:(pB h H).get? b=some o):h.get? b=some o/\H b=none:=by
 have a:h.get? b=some o:=PySem.W.of_hideAll (LD h H) e;refine⟨a,?_⟩;cases q:H b with
 |none=>rfl
 |some x=>
  have c:b∈LD h H:=Tg.mpr ⟨Q7.mpr (Qg a),by simp[q]⟩;have z:(pB h H).get? b=none:=PySem.W.hideAll_none (LD h H) c;rw[z] at e;cases e
end L2
namespace L2
open PySem PySem.Spec PyProof.Rows List
variable{M:Model}{ch:List Addr}{i t':Nat}
structure Mod(K:ae)(mg:Str->Option Value)(base:Heap):Prop where
 kin:K.In base
 glob:base.Ns mainGlobals mg
 blt:∃mb,base.Ns builtinsNs mb/\∀x:Str,x≠"__name__"->mb x=bootBuiltins x
 nolimit:base.NoLimit
set_option genInjectivity false in
structure Cx where
 prog:Program
 w:World
 K:ae
 mg:Str->Option Value
 base:Heap
 A:Around
 N:List Str
 s₀:Shared
 H₀:Hp
 env:Env
 outer:List Env
 stack:List Env
 ex:List Addr
 fn:Str->Bool
 calm:Bool
 pn:List (Addr×Obj)
 xe:Value->Shared->Prop
def frs(l:List Env):List Addr:=l.filterMap (·.frame)
abbrev Cx.fs(X:Cx):List Addr:=frs X.outer
def DU(a:Scope)(x:Str):Prop:=a.names.lookup x=some .local\/a.names.lookup x=some .cell\/a.names.lookup x=some .free
def Loc(a:Scope)(x:Str):Prop:=a.names.lookup x=some .local\/a.names.lookup x=some .cell
def Look(env:Env)(h:Heap)(m:Str->Option Value)(x:Str)(u:Value):Prop:=
 (env.kindOf x=some .local/\m x=some u)\/((env.kindOf x=some .cell\/env.kindOf x=some .free)/\∃c,env.cells.lookup x=some c/\h.IsCell c (some u))
structure Cx.Ok(X:Cx):Prop where
 mod:Mod X.K X.mg X.base
 kind:X.env.scope.kind=.function
 glob:X.env.globals=mainGlobals
 blt:X.env.builtins=builtinsNs
 above:X.s₀⁻¹<=X.env.locals
 inj:∀x y c,X.env.cells.lookup x=some c->X.env.cells.lookup y=some c->x=y
 has:∀x,(X.env.kindOf x=some .cell\/X.env.kindOf x=some .free)->∃c,X.env.cells.lookup x=some c
 cab:∀x c,X.fn x=true->X.env.cells.lookup x=some c->X.s₀⁻¹<=c
 hd:X.calm=true->X.A.handled=none
 frames:X.A.frames=some X.stack
 stk:X.stack=X.outer\/(X.stack=X.env::X.outer/\X.env.frame=some X.env.locals)
 exf:∀b∈X.ex,b≠X.env.locals/\∀x c,X.env.cells.lookup x=some c->c≠b
 bs:∀b o,X.base.get? b=some o->X.s₀.heap.get? b=some o/\X.H₀ b=none
 bsz:X.base.objs.size<=X.s₀⁻¹
 noex:∀b o,X.base.get? b=some o->b∉X.ex
 exfs:∀b∈X.ex,b∉X.fs
 iZ:X.s₀.heap.FunFrames X.base X.outer
 frf:∀b∈X.fs,X.H₀ b=none
structure Inv(X:Cx)(aa:List (Addr×Obj))(Y:List (Option V))(H:Hp)(s:Shared):Prop where
 ok:X.Ok
 os:s.os=X.s₀.os
 bare:AllBare s.gens
 base:Un X.fs X.ex X.H₀ H X.s₀.heap s.heap
 loc:∃m,s.heap.Ns X.env.locals m/\∀(i:Nat) (x:Str) (v:V),X.N[i]?=some x->Y[i]?=some (some v)->DU X.env.scope x->∃u,RelV v u/\Look X.env s.heap m x u
 cell:∀x c,X.env.cells.lookup x=some c->∃v,s.heap.IsCell c v
 free:H X.env.locals=none
 freeC:∀x c,X.env.cells.lookup x=some c->H c=none
 pin:∀p∈X.pn++aa,s.heap.get? p.1=some p.2/\H p.1=none/\p.1≠X.env.locals/\p.1∉X.fs/\∀v,p.2.data≠.cell v
 hok:gb X.prog X.w H s.heap
 len:Y.length=X.N.length
section
variable{X:Cx}{aa:List (Addr×Obj)}{Y:List (Option V)}{H H':Hp}{s:Shared}{h':Heap}
theorem Cx.Ok.yD(a:X.Ok){b:Addr}{o:Obj}(e:X.base.get? b=some o):b∉X.fs:=λ c=>by
 have:=(a.iZ.mem c).1;rw[e] at this;cases this
theorem Inv.bs(I:Inv X aa Y H s):∀b o,X.base.get? b=some o->s.heap.get? b=some o/\H b=none:=λ b o e=>
 ⟨I.base.keep b o (I.ok.bs b o e).1 (I.ok.bs b o e).2 (I.ok.yD e) (I.ok.noex b o e),I.base.free b o (I.ok.bs b o e).1 (I.ok.bs b o e).2 (I.ok.noex b o e)⟩
theorem Inv.bk(I:Inv X aa Y H s):∀b o,X.base.get? b=some o->s.heap.get? b=some o:=λ b o e=>(I.bs b o e).1
theorem Inv.mod(I:Inv X aa Y H s):Mod X.K X.mg X.base:=I.ok.mod
theorem Inv.fR(I:Inv X aa Y H s):X.K.In s.heap:=I.ok.mod.kin.keeps I.bk
theorem Inv.fr(I:Inv X aa Y H s):∃m,Fr X.base X.env.locals s.heap m:=
 let ⟨m,a,_⟩:=I.loc
 ⟨m,a,I.bk,Qk I.ok.bsz I.ok.above⟩
theorem Inv.lt(I:Inv X aa Y H s):X.env.locals<s⁻¹:=let ⟨_,a,_⟩:=I.loc;a.lt
theorem Inv.sz(I:Inv X aa Y H s):X.s₀⁻¹<=s⁻¹:=Qk I.ok.above (Rl I.lt)
theorem Inv.Mt(I:Inv X aa Y H s){a:Addr}(h:s⁻¹<=a):a∉X.fs:=λ c=>by
 let⟨_,o,b,_⟩:=I.ok.iZ.mem c;exact absurd (Qm (Qg b) (Qk I.sz h)) (R9 _)
theorem Inv.yE(I:Inv X aa Y H s):∀x c,X.env.cells.lookup x=some c->c≠X.env.locals:=λ x c e z=>by
 let⟨v,o,d,f⟩:=I.cell x c e;let⟨m,⟨g,h,j,a,b,_⟩,_⟩:=I.loc;rw[z,a] at d;cases d;rw[b] at f;cases f
theorem Inv.iZ(I:Inv X aa Y H s):s.heap.FunFrames X.base X.outer:=by
 have f:∀(l:List Env),(∀b∈frs l,b∈X.fs)->X.s₀.heap.FunFrames X.base l->s.heap.FunFrames X.base l:=by
  intro l
  induction l with
  |nil=>intro _ _;trivial
  |cons env r h=>
   intro g n;let⟨p,⟨L,o,a,m,k,q⟩,j⟩:=n;have d:L∈X.fs:=g L (by unfold frs;rw[Tv,a];exact QM);let⟨t,e⟩:=I.base.slot L o k (I.ok.frf L d) d λ z=>I.ok.exfs L z d;exact⟨p,⟨L,_,a,m,e,q⟩,h (λ b c=>g b (by unfold frs;rw[Tv,a];exact QC _ c)) j⟩
 exact f X.outer (λ _ c=>c) I.ok.iZ
theorem Inv.stack(I:Inv X aa Y H s):s.heap.FunFrames X.base X.stack:=by
 rcases I.ok.stk with e | ⟨e,hf⟩
 .rw[e];exact I.iZ
 .rw[e];let⟨m,a,_⟩:=I.loc;refine .cons (by rw[I.ok.kind];decide) hf a ?_ I.iZ;exact Heap.get?_none_of_le (Qk I.ok.bsz I.ok.above)
theorem Inv.jH(I:Inv X aa Y H s):∀b∈frs X.stack,b∈X.env.locals::X.fs:=λ b a=>by
 rcases I.ok.stk with e | ⟨e,hf⟩
 .rw[e] at a;exact QC _ a
 .rw[e] at a;unfold frs at a;rw[Tv,hf] at a;exact a
theorem Inv.kN(I:Inv X aa Y H s):∀b∈frs X.stack,H b=none:=λ b a=>by
 rcases Qv.mp (I.jH b a) with e | a
 .rw[e];exact I.free
 .let⟨_,o,c,_⟩:=I.ok.iZ.mem a;exact I.base.free b o c (I.ok.frf b a) λ z=>I.ok.exfs b z a
theorem Inv.step{g':Array GenState}{d':Drawn}(I:Inv X aa Y H s)
  (h:∀b∈ch,(b∈X.ex\/X.s₀⁻¹<=b)/\b≠X.env.locals/\(∀x c,X.env.cells.lookup x=some c->c≠b)/\∀p∈X.pn++aa,p.1≠b)
  (g:∀b o,b≠X.env.locals->b∉X.fs->b∉ch->s.heap.get? b=some o->H b=none->h'.get? b=some o)
  (A:∀b o,b≠X.env.locals->b∈X.fs->b∉ch->s.heap.get? b=some o->H b=none->∃sl,h'.get? b=some {o with slots:=sl}) (f:∀b o,b∉ch->s.heap.get? b=some o->H b=none->H' b=none)
  (B:∀b o,b∉ch->s.heap.get? b=some o->∃F,h'.get? b=some F)
  (E:∀b y,H b=some (.tup y)->H' b=@(.tup y)) (gS:∀b o u,H b=some (.frz o u)->H' b=@(.frz o u)) (iN:∀b L,H b=some (.tbl L)->∃G,H' b=@(.tbl (L++G)))
  (Z:∀m,s.heap.Ns X.env.locals m->h'.Ns X.env.locals m) (O:gb X.prog X.w H' h') (hg:AllBare g') :
  Inv X aa Y H' {s with heap:=h',gens:=g',drawn:=d',toks:=t'}:=by
 have U:∀b o,X.s₀.heap.get? b=some o->b≠X.env.locals:=λ b o e=>Qo (Qm (Qg e) I.ok.above);have N:∀b o,X.s₀.heap.get? b=some o->b∉X.ex->b∉ch:=λ b o e a C=>by
  rcases (h b C).1 with z | z
  .exact a z
  .exact absurd (Qm (Qg e) z) (R9 _)
 have j:∀x c,X.env.cells.lookup x=some c->∀v,s.heap.IsCell c v->h'.IsCell c v:=λ x c e v ⟨o,D,P⟩=>by
  have K:c∉ch:=λ z=>(h c z).2.2.1 x c e rfl
  by_cases T:c∈X.fs
  .let⟨sl,q⟩:=A c o (I.yE x c e) T K D (I.freeC x c e);exact⟨_,q,P⟩
  .exact⟨o,g c o (I.yE x c e) T K D (I.freeC x c e),P⟩
 refine⟨I.ok,I.os,hg,⟨λ b o e n C a=>?_,λ b o e n C a=>?_,λ b o e n a=>?_,λ b o e a=>?_,λ b y e=>E b y (I.base.tups b y e),λ b o y e=>gS b o y (I.base.gS b o y e),λ b L e=>?_⟩,?_,λ x c e=>?_,?_,λ x c e=>?_,λ p S=>?_,O,I.len⟩
 .exact g b o (U b o e) C (N b o e a) (I.base.keep b o e n C a) (I.base.free b o e n a)
 .let⟨sl,t⟩:=I.base.slot b o e n C a;let⟨W,J⟩:=A b _ (U b o e) C (N b o e a) t (I.base.free b o e n a);exact⟨W,J⟩
 .let⟨F,t⟩:=I.base.there b o e a;exact f b F (N b o e a) t (I.base.free b o e n a)
 .let⟨F,t⟩:=I.base.there b o e a;exact B b F (N b o e a) t
 .let⟨m1,t⟩:=I.base.iN b L e;let⟨m2,J⟩:=iN b _ t;exact⟨m1++m2,by rw[J,Array.append_assoc]⟩
 .let⟨m,hn,hl⟩:=I.loc;refine⟨m,Z m hn,λ i x v t J e3=>?_⟩;let⟨u,r,l⟩:=hl i x v t J e3;refine⟨u,r,?_⟩;rcases l with l | ⟨k,c,e,z⟩
  .exact .inl l
  .exact .inr ⟨k,c,e,j x c e _ z⟩
 .let⟨v,z⟩:=I.cell x c e;exact⟨v,j x c e v z⟩
 .let⟨m,⟨o,_,_,D,_⟩,_⟩:=I.loc;exact f _ o (λ z=>(h _ z).2.1 rfl) D I.free
 .let⟨v,o,D,P⟩:=I.cell x c e;exact f c o (λ z=>(h c z).2.2.1 x c e rfl) D (I.freeC x c e)
 .let⟨e,n,R,Q,d⟩:=I.pin p S;have K:p.1∉ch:=λ z=>(h p.1 z).2.2.2 p S rfl;exact⟨g p.1 p.2 R Q K e n,f p.1 p.2 K e n,R,Q,d⟩
theorem Inv.un(I:Inv X aa Y H s)(u:Un X.fs [] H H' s.heap h')(c:gb X.prog X.w H' h'):Inv X aa Y H' {s with heap:=h',toks:=t'}:=by
 let⟨m,⟨o,v,x,h,r⟩,_⟩:=id I.loc;let⟨p,l⟩:=u.any h I.free 's';exact I.step (g':=s.gens) (d':=s.drawn) (ch:=[]) (λ _ z=>nomatch z) (λ b o _ d _ e n=>u.keep b o e n d 's') (λ b o _ d _ e n=>u.slot b o e n d 's') (λ b o _ e n=>u.free b o e n 's') (λ b o _ e=>u.there b o e 's') u.tups u.gS u.iN (λ t k=>by
  let⟨q,f,g,a,j⟩:=k;rw[h] at a;cases a;exact⟨_,f,g,l,j⟩) c I.bare
theorem Inv.call{g':Array GenState}{d':Drawn}(I:Inv X aa Y H s)(u:Un (frs X.stack) ch H H' s.heap h')(g:gb X.prog X.w H' h')(v:AllBare g')
  (f:∀b∈ch,(b∈X.ex\/X.s₀⁻¹<=b)/\b≠X.env.locals/\(∀x c,X.env.cells.lookup x=some c->c≠b)/\∀p∈X.pn++aa,p.1≠b) :
  Inv X aa Y H' {s with heap:=h',gens:=g',drawn:=d',toks:=t'}:=by
 let⟨m,⟨o,D,E,l,r⟩,_⟩:=id I.loc;let⟨A,h⟩:=u.any l I.free λ z=>(f _ z).2.1 rfl;exact I.step (ch:=ch) f (λ b o h y a e n=>u.keep b o e n (λ z=>(Qv.mp (I.jH b z)).elim h y) a) (λ b o _ _ a e n=>u.any e n a) (λ b o a e n=>u.free b o e n a) (λ b o a e=>u.there b o e a) u.tups u.gS u.iN (λ C t=>by
  let⟨B,j,k,d,q⟩:=t;rw[l] at d;cases d;exact⟨_,j,k,h,q⟩) g v
theorem Inv.turned{it:Addr}(I:Inv X aa Y H s)(k:∀b o,b≠it->s.heap.get? b=some o->h'.get? b=some o)(h:H it=none)(d:it≠X.env.locals)
  (y:it∈X.ex\/X.s₀⁻¹<=it) (w:∀x c,X.env.cells.lookup x=some c->c≠it) (t:∀p∈X.pn++aa,p.1≠it):Inv X aa Y H {s with heap:=h',toks:=t'}:=by
 have f:∀b u,H b=some u->b≠it:=λ b u e z=>by rw[z,h] at e;cases e
 refine I.step (g':=s.gens) (d':=s.drawn) (ch:=[it]) (λ b l=>?_) (λ b o _ _ a e _=>k b o (λ z=>a (by simp[z])) e) (λ b o _ _ a e _=>⟨o.slots,k b o (λ z=>a (by simp[z])) e⟩) (λ _ _ _ _ n=>n)
  (λ b o a e=>⟨o,k b o (λ z=>a (by simp[z])) e⟩) (λ _ _ e=>e) (λ _ _ _ e=>e) (λ b C e=>⟨#[],by rw[e];simp⟩) (λ m j=>?_) (λ b u e=>?_) I.bare
 .have e:b=it:=by simpa using l
  subst e;exact⟨y,d,w,t⟩
 .let⟨o,A,B,g,r⟩:=j;exact⟨o,A,B,k _ o (Ne.symm d) g,r⟩
 .refine(I.hok b u e).stay (λ c v a q=>k c v ?_ q) (λ _ q=>q) λ _ _ q=>q;rcases a with z | z
  .rw[z];exact f b u e
  .exact f c _ z
theorem Inv.tok(I:Inv X aa Y H s)(t:Nat):Inv X aa Y H {s with toks:=t}:=I.un (h':=s.heap) (t':=t) Un.refl I.hok
theorem Inv.kept(I:Inv X aa Y H s)(k:∀b u,s.heap.get? b=some u->h'.get? b=some u):Inv X aa Y H {s with heap:=h',toks:=t'}:=I.un (Un.kept k) (I.hok.kept k)
theorem Inv.laid{a:Addr}{o:HO}(I:Inv X aa Y H s)(k:∀b u,s.heap.get? b=some u->h'.get? b=some u)(d:s⁻¹<=a)(c:bA X.prog X.w (upd H a o) h' a o) :
  Inv X aa Y (upd H a o) {s with heap:=h',toks:=t'}:=I.un (Un.laid k d (I.hok.fresh d)) (I.hok.laid k d c)
theorem Inv.write{x e:Addr}{o:HO}(I:Inv X aa Y H s)(c:JC (H x))(d:e=x\/H e=@(.own x))(k:∀b u,b≠e->s.heap.get? b=some u->h'.get? b=some u)(f:∃u,h'.get? e=some u)
  (a:bA X.prog X.w (upd H x o) h' x o):Inv X aa Y (upd H x o) {s with heap:=h',toks:=t'}:=I.un (Un.write c d k f) (I.hok.write c d k f a)
theorem Inv.uO{a:List (Addr×Obj)}(I:Inv X aa Y H s)(h:∀p∈a,s.heap.get? p.1=some p.2/\H p.1=none/\p.1≠X.env.locals/\p.1∉X.fs/\∀v,p.2.data≠.cell v):Inv X a Y H s:=
 ⟨I.ok,I.os,I.bare,I.base,I.loc,I.cell,I.free,I.freeC,λ p b=>(Qz.mp b).elim (λ z=>I.pin p (Q8 _ z)) (h p),I.hok,I.len⟩
theorem lC{N:List Str}(c:N.Nodup){j:Nat}{x:Str}(a:N[i]?=some x)(b:N[j]?=some x):i=j:=by
 let⟨g,e⟩:=Qc.mp a;let⟨f,d⟩:=Qc.mp b;exact(Uy c).mp (e.trans d.symm)
theorem nO{A:Around}{E:Value->Shared->Prop}{x:Str}{v:V}{u:Value}{Q:Unit->Shared->Prop}(I:Inv X aa Y H s)(hN:X.N.Nodup)(hi:X.N[i]?=some x)(B:Loc X.env.scope x)(r:RelV v u)
  (h:∀s',Inv X aa (Y.set i (some v)) H s'->(∃a,Heap.SameBut a s.heap s'.heap/\(a=X.env.locals\/X.env.cells.lookup x=some a))->Q () s') (hf:X.fn x=true\/X.env.scope.names.lookup x=some .local:=by first | exact .inl rfl | exact .inr rfl | assumption):wpAny M A (storeName X.env x u) Q E s:=by
 let⟨m,hn,hl⟩:=id I.loc;have R:(X.env.scope.kind==.class||(X.env.scope.kind==.module&&X.env.locals != X.env.globals))=false:=by rw[I.ok.kind];rfl
 have P:i<Y.length:=by rw[I.len];exact(Qc.mp hi).1
 have yE:=I.yE;have g:∀{a:Addr} {h':Heap},(∃o,s.heap.get? a=some o/\H a=none)->Heap.SameBut a s.heap h'->gb X.prog X.w H h':=λ {a h'} ha f b ob e=>by
  let⟨_,_,C⟩:=ha;refine(I.hok b ob e).stay (λ c U t q=>(f.2 c ?_).trans q) (λ _ q=>q) λ _ _ q=>q;rintro rfl;rcases t with rfl | t
  .rw[C] at e;cases e
  .rw[C] at t;cases t
 rcases B with F | F
 .refine wpAny_storeName_local F hn (λ h' hn' f=>?_) R;let⟨oL,_,_,hoL,_⟩:=id hn;refine h _ ⟨I.ok,I.os,I.bare,⟨λ b o e n K B=>?_,λ b o e n K B=>?_,I.base.free,λ b o e B=>?_,I.base.tups,I.base.gS,I.base.iN⟩,⟨_,hn',λ j y v' l D e3=>?_⟩,λ y c e=>?_,I.free,I.freeC,λ p hp=>?_,g ⟨oL,hoL,I.free⟩ f,~~~I.len⟩ ⟨_,f,.inl rfl⟩
  .exact(f.2 b (Qo (Qm (Qg e) I.ok.above))).trans (I.base.keep b o e n K B)
  .let⟨sl,l⟩:=I.base.slot b o e n K B;exact⟨sl,(f.2 b (Qo (Qm (Qg e) I.ok.above))).trans l⟩
  .let⟨o',l⟩:=I.base.there b o e B;exact⟨o',(f.2 b (Qo (Qm (Qg e) I.ok.above))).trans l⟩
  .by_cases G:j=i
   .subst G;rw[hi] at l;cases l;rw[QG P] at D;cases D;exact⟨u,r,.inl ⟨F,by simp⟩⟩
   .rw[QA (Ne.symm G)] at D;let⟨u',r',q⟩:=hl j y v' l D e3;refine⟨u',r',?_⟩;rcases q with⟨k,e⟩ | ⟨k,c,e,z⟩
    .refine .inl ⟨k,?_⟩;have:y≠x:=λ e=>G (lC hN l (e▸hi));simp[this,e]
    .exact .inr ⟨k,c,e,z.sameBut f (yE y c e)⟩
  .let⟨U,z⟩:=I.cell y c e;exact⟨U,z.sameBut f (yE y c e)⟩
  .let⟨e,n,W,nf,d⟩:=I.pin p hp;exact⟨(f.2 p.1 W).trans e,n,W,nf,d⟩
 .have J:X.fn x=true:=by
   rcases hf with z | z
   .exact z
   .rw[z] at F;cases F
  let⟨c,t⟩:=I.ok.has x (.inl F);let⟨U,z⟩:=I.cell x c t;refine wpAny_storeName_cell I.ok.kind F t z (λ h' T f=>?_);let⟨oc,O,L⟩:=id z;refine h {s with heap:=h'} ⟨I.ok,I.os,I.bare,⟨λ b o e n K B=>?_,λ b o e n K B=>?_,I.base.free,λ b o e B=>?_,I.base.tups,I.base.gS,I.base.iN⟩,⟨m,hn.sameBut f (Ne.symm (yE x c t)),λ j y v' l D e3=>?_⟩,λ y Z e=>?_,I.free,I.freeC,λ p hp=>?_,g ⟨oc,O,I.freeC x c t⟩ f,~~~I.len⟩ ⟨c,f,.inr t⟩
  .exact(f.2 b (Qo (Qm (Qg e) (I.ok.cab x c J t)))).trans (I.base.keep b o e n K B)
  .let⟨sl,l⟩:=I.base.slot b o e n K B;exact⟨sl,(f.2 b (Qo (Qm (Qg e) (I.ok.cab x c J t)))).trans l⟩
  .let⟨o',l⟩:=I.base.there b o e B;exact⟨o',(f.2 b (Qo (Qm (Qg e) (I.ok.cab x c J t)))).trans l⟩
  .by_cases G:j=i
   .subst G;rw[hi] at l;cases l;rw[QG P] at D;cases D;exact⟨u,r,.inr ⟨.inl F,c,t,T⟩⟩
   .rw[QA (Ne.symm G)] at D;let⟨u',r',q⟩:=hl j y v' l D e3;refine⟨u',r',?_⟩;rcases q with q | ⟨k,Z,e,z'⟩
    .exact .inl q
    .refine .inr ⟨k,Z,e,z'.sameBut f ?_⟩;rintro rfl;exact G (lC hN l (I.ok.inj _ _ _ e t▸hi))
  .by_cases S:Z=c
   .subst S;exact⟨_,T⟩
   .let⟨w2,z2⟩:=I.cell y Z e;exact⟨w2,z2.sameBut f S⟩
  .let⟨e,n,W,nf,d⟩:=I.pin p hp;refine⟨(f.2 p.1 ?_).trans e,n,W,nf,d⟩;intro q;rw[q,O] at e;have q':oc=p.2:=QN e;exact d U (by rw[<-q'];exact L)
theorem lD{A:Around}{E:Value->Shared->Prop}{x:Str}{v:V}{u:Value}{Q:Unit->Shared->Prop}(I:Inv X aa Y H s)(d:X.N.Nodup)(hi:X.N[i]?=some x)(b:Loc X.env.scope x)(r:RelV v u)
  (h:∀a,Inv X aa (Y.set i (some v)) H a->Q () a) (c:X.fn x=true\/X.env.scope.names.lookup x=some .local:=by first | exact .inl rfl | exact .inr rfl | assumption):wpAny M A (storeName X.env x u) Q E s:=
 nO I d hi b r (λ a e _=>h a e) c
theorem Inv.DV{a:Shared}(I:Inv X aa Y H s)(ho:a.os=s.os)(u:Un (frs X.stack) ch H H' s.heap a.heap)(d:gb X.prog X.w H' a.heap)(h:AllBare a.gens)
  (f:∀b∈ch,(b∈X.ex\/X.s₀⁻¹<=b)/\b≠X.env.locals/\(∀x c,X.env.cells.lookup x=some c->c≠b)/\∀p∈X.pn++aa,p.1≠b):Inv X aa Y H' a:=by
 let⟨h',g',d',t',g⟩:=a;have e:g=s.os:=ho;subst e;exact I.call (g':=g') (t':=t') (d':=d') u d h f
end
abbrev XK:=Value->Option Addr->Hp->Prop
abbrev St:=List (Option V)
abbrev VK:=V->Hp->Prop
abbrev TE:=St->Hp->VK->Prop
abbrev TT:=St->Hp->(Bool->Hp->Prop)->Prop
abbrev TA:=St->Hp->(List V->Hp->Prop)->Prop
set_option genInjectivity false in
structure Ends where
 nx:St->Hp->Prop
 rt:VK
 bk:St->Hp->Prop:=λ _ _=>False
 ct:St->Hp->Prop:=λ _ _=>False
abbrev TS:=Ends->St->Hp->Prop
def EP(X:Cx)(c:List (Addr×Obj))(Y:St)(Q:VK)(u:Value)(b:Shared):Prop:=∃v a,Inv X c Y a b/\RelV v u/\Q v a
def TP(X:Cx)(d:List (Addr×Obj))(Y:St)(Q:Bool->Hp->Prop)(b:Bool)(c:Shared):Prop:=∃a,Inv X d Y a c/\Q b a
def AP(X:Cx)(d:List (Addr×Obj))(Y:St)(Q:List V->Hp->Prop)(us:List Value)(c:Shared):Prop:=∃a b,Inv X d Y b c/\Vals a us/\Q a b
def SP(X:Cx)(d:List (Addr×Obj))(D:Ends)(f:Flow)(c:Shared):Prop:=
 match f with
 |.next=>∃a b,Inv X d a b c/\D.nx a b
 |.brk=>∃a b,Inv X d a b c/\D.bk a b
 |.cont=>∃a b,Inv X d a b c/\D.ct a b
 |.ret u=>∃v a b,Inv X d a b c/\RelV v u/\D.rt v b
def PE(X:Cx)(e:Expr)(t:TE):Prop:=
 ∀(a:List (Addr×Obj)) (s:Shared) (Y:St) (H:Hp) (Q:VK),Inv X a Y H s->t Y H Q->wpAny (model X.prog X.w) X.A (eval e X.env) (EP X a Y Q) X.xe s
def PT(X:Cx)(e:Expr)(t:TT):Prop:=
 ∀(a:List (Addr×Obj)) (s:Shared) (Y:St) (H:Hp) (Q:Bool->Hp->Prop),Inv X a Y H s->t Y H Q->wpAny (model X.prog X.w) X.A (isTrue e X.env (eval e X.env)) (TP X a Y Q) X.xe s
def PW(X:Cx)(e:Expr)(t:TT):Prop:=
 ∀(a:Sem Value) (b:List (Addr×Obj)) (s:Shared) (Y:St) (H:Hp) (Q:Bool->Hp->Prop),Inv X b Y H s->t Y H Q->wpAny (model X.prog X.w) X.A (isTrue e X.env a) (TP X b Y Q) X.xe s
theorem PW.pt{X:Cx}{e:Expr}{t:TT}(h:PW X e t):PT X e t:=h _
def PA(X:Cx)(es:List Expr)(t:TA):Prop:=
 ∀(a:Pos) (b:List (Addr×Obj)) (s:Shared) (Y:St) (H:Hp) (Q:List V->Hp->Prop),Inv X b Y H s->t Y H Q->wpAny (model X.prog X.w) X.A (spliced (backTo a (starEach es X.env))) (AP X b Y Q) X.xe s
def PS(X:Cx)(st:Stmt)(t:TS):Prop:=
 ∀(a:List (Addr×Obj)) (s:Shared) (Y:St) (H:Hp) (D:Ends),Inv X a Y H s->t D Y H->wpAny (model X.prog X.w) X.A (exec st X.env) (SP X a D) X.xe s
def iE(X:Cx)(st:List Stmt)(t:TS):Prop:=
 ∀(a:List (Addr×Obj)) (s:Shared) (Y:St) (H:Hp) (D:Ends),Inv X a Y H s->t D Y H->wpAny (model X.prog X.w) X.A (execs st X.env) (SP X a D) X.xe s
theorem bP{b:Type}{t:Sem b}{Q Q':b->Shared->Prop}{A:Around}{E:Value->Shared->Prop}{s:Shared}(h:wpAny M A t Q E s)(c:∀a s,Q a s->Q' a s):wpAny M A t Q' E s:=Qw h c λ _ _ x=>x
end L2
namespace L2
open PySem PySem.Spec PyProof.Rows List
variable{H:Hp}{aa:List (Addr×Obj)}{pos:Pos}{s:Shared}{u:Value}{Y:St}
section
variable{X:Cx}
theorem bin{a b:Expr}{ta tb:TE}(r:PE X a ta)(q:PE X b tb){R:V->V->Hp->Prop}(I:Inv X aa Y H s)(h:ta Y H λ x i=>tb Y i λ y c=>R x y c)
  {j:Type} {Q:j->Shared->Prop} {f:Value->Value->Sem j}
  (p:∀v u g x y c,Inv X aa Y c g->RelV x v->RelV y u->R x y c->wpAny (model X.prog X.w) X.A (f v u) Q X.xe g) :
  wpAny (model X.prog X.w) X.A (eval a X.env) (λ v e=>wpAny (model X.prog X.w) X.A (eval b X.env) (λ u d=>wpAny (model X.prog X.w) X.A (f v u) Q X.xe d) X.xe e) X.xe s:=by
 refine bP (r aa s Y H _ I h) λ v k ⟨x,i,z,m,o⟩=>?_;refine bP (q aa k Y i _ z o) λ u g ⟨y,c,t,l,n⟩=>?_;exact p v u g x y c t m l n
def Mu(i:Nat):TE:=fun Y H Q=>∃v,Y[i]?=some (some v)/\Q v H
def tC(v:V):TE:=λ _ H Q=>Q v H
theorem sX{i:Nat}{x:Str}(n:X.N[i]?=some x)(g:DU X.env.scope x)(d:(x==("__debug__":Str))=false:=by decide)(f:(x==("__classdict__":Str))=false:=by decide):PE X (.Name x pos) (Mu i):=by
 intro aa s Y H Q I h;let⟨v,e,h⟩:=h;let⟨m,j,k⟩:=I.loc;let⟨u,r,l⟩:=k i x v n e g;have b:EP X aa Y Q u s:=⟨v,H,I,r,h⟩;rcases l with⟨a,hm⟩ | ⟨a,c,hc,hcell⟩
 .exact wpAny_Name (wpAny_loadName_local I.ok.kind a j hm b) d
 .rcases a with a | a
  .exact wpAny_Name (wpAny_loadName_cell I.ok.kind a hc hcell b) d
  .exact wpAny_Name (wpAny_loadName_free I.ok.kind a hc hcell b f) d
theorem E9{i j pos}:PE X (.Constant (.int i) j pos) (tC (.int i)):=λ _ _ _ H _ I h=>wpAny_Constant_int ⟨.int i,H,I.tok _,⟨_,rfl⟩,h⟩
theorem JF{b j pos}:PE X (.Constant (.bool b) j pos) (tC (.bl b)):=λ _ _ _ H _ I h=>Constant_bool ⟨.bl b,H,I,rfl,h⟩
theorem Fb{j pos}:PE X (.Constant .none j pos) (tC .non):=λ _ _ _ H _ I h=>Constant_none ⟨.non,H,I,rfl,h⟩
theorem yF{x j pos}:PE X (.Constant (.str x) j pos) (tC (.str x)):=λ _ _ _ H _ I h=>Calls.Constant_str ⟨.str x,H,I.tok _,⟨_,rfl⟩,h⟩
def Gl(X:Cx)(x:Str):Prop:=X.env.kindOf x=some .globalImplicit
theorem dR{E:Value->Shared->Prop}{x:Str}{Q:Value->Shared->Prop}(I:Inv X aa Y H s)(b:Gl X x)(a:X.mg x=some u)(h:Q u s)
  (c:(x==("__debug__":Str))=false:=by decide):wpAny (model X.prog X.w) X.A (eval (.Name x pos) X.env) Q E s:=
 Tw I.ok.kind b (Calls.loadGlobal_global (by rw[I.ok.glob];exact I.mod.glob.keeps I.bk) a h) c
theorem i6{E:Value->Shared->Prop}{x:Str}{Q:Value->Shared->Prop}(I:Inv X aa Y H s)(d:Gl X x)(c:X.mg x=none)(a:bootBuiltins x=some u)(h:Q u s)
  (b:x≠"__name__":=by decide) (e:(x==("__debug__":Str))=false:=by decide):wpAny (model X.prog X.w) X.A (eval (.Name x pos) X.env) Q E s:=by
 let⟨i,g,f⟩:=I.mod.blt;exact Tw I.ok.kind d (Calls.loadGlobal_builtin (by rw[I.ok.glob];exact I.mod.glob.keeps I.bk) c (by rw[I.ok.blt];exact g.keeps I.bk) ((f x b).trans a) h) e
theorem ja{x:Str}{v:V}(b:Gl X x)(a:X.mg x=some u)(r:RelV v u)(c:(x==("__debug__":Str))=false:=by decide):PE X (.Name x pos) (tC v):=
 λ _ _ _ H _ I h=>dR I b a ⟨v,H,I,r,h⟩ c
theorem BB{x:Str}{v:V}(d:Gl X x)(c:X.mg x=none)(a:bootBuiltins x=some u)(r:RelV v u)(b:x≠"__name__":=by decide)(e:(x==("__debug__":Str))=false:=by decide):PE X (.Name x pos) (tC v):=
 λ _ _ _ H _ I h=>i6 I d c a ⟨v,H,I,r,h⟩ b e
variable{a b:Expr}{ta tb:TE}{pos:Pos}
variable{tA LI:TT}{rest:List Expr}
def Mv(t u:TT):TT:=fun Y H Q=>t Y H λ c d=>if c=true then u Y d Q else Q false d
def OQ(t u:TT):TT:=fun Y H Q=>t Y H λ c d=>if c=true then Q true d else u Y d Q
def Mw(t:TT):TT:=fun Y H Q=>t Y H λ c d=>Q (!c) d
theorem BC(d:PT X a tA):PW X (.BoolOp .And [a] pos) tA:=by
 intro f aa s Y H Q I h;refine isTrue_and (bP (d aa s Y H Q I h) λ c g e=>?_);cases c with
 |true=>exact isTrue_and_nil e
 |false=>exact e
theorem Fc(d:PT X a tA):PW X (.BoolOp .Or [a] pos) tA:=by
 intro f aa s Y H Q I h;refine isTrue_or (bP (d aa s Y H Q I h) λ c g e=>?_);cases c with
 |false=>exact isTrue_or_nil e
 |true=>exact e
theorem Fd(k:PT X a tA)(j:PW X (.BoolOp .And (b::rest) pos) LI):PW X (.BoolOp .And (a::b::rest) pos) (Mv tA LI):=by
 intro g aa s Y H Q I h;refine isTrue_and (bP (k aa s Y H _ I h) λ c i ⟨f,e,d⟩=>?_);cases c with
 |true=>exact j g aa i Y f Q e d
 |false=>exact⟨f,e,d⟩
theorem JG(k:PT X a tA)(j:PW X (.BoolOp .Or (b::rest) pos) LI):PW X (.BoolOp .Or (a::b::rest) pos) (OQ tA LI):=by
 intro g aa s Y H Q I h;refine isTrue_or (bP (k aa s Y H _ I h) λ c i ⟨f,e,d⟩=>?_);cases c with
 |true=>exact⟨f,e,d⟩
 |false=>exact j g aa i Y f Q e d
theorem Fe(d:PT X a tA):PT X (.UnaryOp .Not a pos) (Mw tA):=by
 intro aa s Y H Q I h;exact isTrue_not (d aa s Y H (λ c e=>Q (!c) e) I h)
def JH(ta tb:TE):TE:=fun Y H Q=>ta Y H λ x d=>∃c,x=.bl c/\if c=true then tb Y d Q else Q (.bl false) d
def JI(ta:TE):TE:=fun Y H Q=>ta Y H λ x d=>∃c,x=.bl c/\Q (.bl (!c)) d
theorem yG{op}{t:TE}(h:PE X a t):PE X (.BoolOp op [a] pos) t:=λ aa s Y H Q I c=>BoolOp_one (h aa s Y H Q I c)
theorem Ff(k:PE X a ta)(j:PE X (.BoolOp .And (b::rest) pos) tb):PE X (.BoolOp .And (a::b::rest) pos) (JH ta tb):=by
 intro aa s Y H Q I h;refine BoolOp_and (bP (k aa s Y H _ I h) λ v g ⟨x,f,e,i,d⟩=>?_);let⟨c,rfl,d⟩:=d;cases i;refine Rb ?_;cases c with
 |true=>exact j aa g Y f Q e d
 |false=>exact⟨.bl false,f,e,rfl,d⟩
theorem Fg(f:PE X a ta):PE X (.UnaryOp .Not a pos) (JI ta):=by
 intro aa s Y H Q I h;refine UnaryOp_ (bP (f aa s Y H _ I h) λ v j ⟨x,i,g,e,d⟩=>?_);let⟨c,rfl,d⟩:=d;cases e;exact not_of (Rb ⟨.bl (!c),i,g,rfl,d⟩)
def OR(t:TT)(ta tb:TE):TE:=fun Y H Q=>t Y H λ c d=>if c=true then ta Y d Q else tb Y d Q
theorem yH{c:Expr}(j:PT X c tA)(l:PE X a ta)(k:PE X b tb):PE X (.IfExp c a b pos) (OR tA ta tb):=by
 intro aa s Y H Q I h;refine wpAny_IfExp (bP (j aa s Y H _ I h) λ d e ⟨i,g,f⟩=>?_);cases d with
 |true=>exact l aa e Y i Q g f
 |false=>exact k aa e Y i Q g f
end
end L2
namespace L2
open PySem PySem.Spec PyProof.Rows List
variable{K:ae}{P:Program}{X:Cx}{e tg:Expr}{s:Shared}{u:Value}{w:World}
def gU(K:ae)(H:Hp)(a:Addr)(xs:List V):Prop:=
 Rd H a (.lst xs)\/
  ∃(o:Obj) (b:Array Value) (n:Nat),K.lookup a=some o/\o.cls=.type "list"/\o.dict=none/\o.data=.seq b n/\b.size<=sizeLine/\Vals xs b.toList
def ef(K:ae)(H:Hp)(a:Addr)(xs:List V):Prop:=
 Rd H a (.tup xs)\/
  ∃(o:Obj) (b:Array Value) (n:Nat),K.lookup a=some o/\o.cls=.type "tuple"/\o.data=.seq b n/\b.size<=sizeLine/\Vals xs b.toList
def Mx:Value->Option V
 |.none=>some .non
 |.bool b=>some (.bl b)
 |.int i _=>some (.int i)
 |.str x _=>some (.str x)
 |.bytes b _=>some (.byt b)
 |.float b _=>some (.gR b)
 |.ref a=>some (.ref a)
 |.type n=>some (.ty n)
 |_=>none
theorem RelV.abs{x:V}(r:RelV x u):Mx u=some x:=by
 cases x with
 |non=>cases r;rfl
 |bl _=>cases r;rfl
 |int _=>let⟨t,rfl⟩:=r;rfl
 |str _=>let⟨t,rfl⟩:=r;rfl
 |byt _=>let⟨t,rfl⟩:=r;rfl
 |gR _=>let⟨t,rfl⟩:=r;rfl
 |ref _=>cases r;rfl
 |ty _=>cases r;rfl
theorem RelV.inj{x y:V}(r:RelV x u)(q:RelV y u):x=y:=QN (r.abs.symm.trans q.abs)
theorem Vals.inj{xs ys:List V}{us:List Value}(h:Vals xs us)(g:Vals ys us):xs=ys:=by
 induction h generalizing ys with
 |nil=>cases g;rfl
 |cons r t c=>cases g with | cons b a=>rw[r.inj b,c a]
section
variable{X:Cx}{aa:List (Addr×Obj)}{Y:St}{H:Hp}{s:Shared}{a:Addr}{xs ys:List V}
theorem ef.of(h:H a=@(.tup xs)):ef K H a xs:=.inl (.inl h)
theorem Inv.list(I:Inv X aa Y H s)(h:gU X.K H a xs):∃its:List Value,Vals xs its/\PlainL s.heap a its.toArray/\xs.length<=sizeLine:=by
 rcases h with h | ⟨o,its,n,b,hc,hd,hs,c,r⟩
 .let⟨z,its,n,r,e⟩:=h.ok I.hok;exact⟨its,r,⟨_,n,e,rfl,rfl,rfl⟩,z⟩
 .refine⟨its.toList,r,⟨o,n,I.fR a o b,hc,hd,~~~hs⟩,?_⟩;have e:=r.length;erw[Sx] at e;omega
theorem Inv.tuple(I:Inv X aa Y H s)(h:ef X.K H a xs):∃its:List Value,Vals xs its/\IsTup s.heap a its.toArray/\xs.length<=sizeLine:=by
 rcases h with h | ⟨o,its,n,b,hc,hs,c,r⟩
 .let⟨z,its,r,p⟩:=h.ok I.hok;exact⟨its,r,p,z⟩
 .refine⟨its.toList,r,⟨o,I.fR a o b,hc,n,~~~hs⟩,?_⟩;have e:=r.length;erw[Sx] at e;omega
theorem Inv.qK(I:Inv X aa Y H s)(h:gU X.K H a xs)(h':gU X.K H a ys):xs=ys:=by
 let⟨c,r,⟨o,n,e,_,_,d⟩,_⟩:=I.list h;let⟨b,i,⟨k,l,f,_,_,g⟩,_⟩:=I.list h';rw[e] at f;cases f;rw[d] at g;injection g with j _
 have:c=b:=by simpa using RU Array.toList j
 subst this;exact r.inj i
theorem Inv.nP(I:Inv X aa Y H s)(h:ef X.K H a xs)(h':ef X.K H a ys):xs=ys:=by
 let⟨c,r,⟨o,e,_,n,d⟩,_⟩:=I.tuple h;let⟨b,i,⟨k,f,_,l,g⟩,_⟩:=I.tuple h';rw[e] at f;cases f;rw[d] at g;injection g with j _
 have:c=b:=by simpa using RU Array.toList j
 subst this;exact r.inj i
end
abbrev Cx.iO(X:Cx)(E:Value->Shared->Prop):Cx:={X with xe:=E}
abbrev Cx.fP(X:Cx):Cx:=X.iO λ _ _=>False
theorem Cx.Ok.iO(a:X.Ok)(E:Value->Shared->Prop):(X.iO E).Ok:=
 ⟨a.mod,a.kind,a.glob,a.blt,a.above,a.inj,a.has,a.cab,a.hd,a.frames,a.stk,a.exf,a.bs,a.bsz,a.noex,a.exfs,a.iZ,a.frf⟩
theorem Cx.Ok.dj{E:Value->Shared->Prop}(a:(X.iO E).Ok):X.Ok:=
 ⟨a.mod,a.kind,a.glob,a.blt,a.above,a.inj,a.has,a.cab,a.hd,a.frames,a.stk,a.exf,a.bs,a.bsz,a.noex,a.exfs,a.iZ,a.frf⟩
section
variable{X:Cx}{aa:List (Addr×Obj)}{Y:St}{H:Hp}{s:Shared}{E:Value->Shared->Prop}
theorem Inv.iO(I:Inv X aa Y H s)(E:Value->Shared->Prop):Inv (X.iO E) aa Y H s:=⟨I.ok.iO E,I.os,I.bare,I.base,I.loc,I.cell,I.free,I.freeC,I.pin,I.hok,I.len⟩
theorem Inv.dj(I:Inv (X.iO E) aa Y H s):Inv X aa Y H s:=⟨I.ok.dj,I.os,I.bare,I.base,I.loc,I.cell,I.free,I.freeC,I.pin,I.hok,I.len⟩
theorem SP.dj{D:Ends}{f:Flow}{c:Shared}(h:SP (X.iO E) aa D f c):SP X aa D f c:=by
 cases f with
 |next=>let⟨a,b,I,q⟩:=h;exact⟨a,b,I.dj,q⟩
 |brk=>let⟨a,b,I,q⟩:=h;exact⟨a,b,I.dj,q⟩
 |cont=>let⟨a,b,I,q⟩:=h;exact⟨a,b,I.dj,q⟩
 |ret u=>let⟨v,a,b,I,r,q⟩:=h;exact⟨v,a,b,I.dj,r,q⟩
theorem PE.fP{t:TE}(h:PE X.fP e t):PE X e t:=λ aa s Y H Q I a=>
 Qw (h aa s Y H Q (I.iO _) a) (λ _ _ ⟨v,c,b,r,q⟩=>⟨v,c,b.dj,r,q⟩) λ _ _ z=>False.elim z
theorem PT.fP{t:TT}(h:PT X.fP e t):PT X e t:=λ aa s Y H Q I a=>
 Qw (h aa s Y H Q (I.iO _) a) (λ _ _ ⟨c,b,q⟩=>⟨c,b.dj,q⟩) λ _ _ z=>False.elim z
theorem iE.fP{st:List Stmt}{t:TS}(h:iE X.fP st t):iE X st t:=λ aa s Y H D I a=>
 Qw (h aa s Y H D (I.iO _) a) (λ _ _ q=>q.dj) λ _ _ z=>False.elim z
end
section
variable{X:Cx}{st:Stmt}{rest:List Stmt}{t u:TS}{e:Expr}{te:TE}{pos:Pos}
def DW:TS:=λ D Y H=>D.nx Y H
def Mz(t u:TS):TS:=λ D Y H=>t {D with nx:=u D} Y H
theorem uP:iE X [] DW:=λ _ _ Y H _ I h=>Up ⟨Y,H,I,h⟩
theorem yI(g:PS X st t)(d:iE X rest u):iE X (st::rest) (Mz t u):=by
 intro b s Y H D I h;refine wpAny_execs_cons (bP (g b s Y H {D with nx:=u D} I h) λ f c q=>?_);cases f with
 |next=>
  let⟨a,j,i,q⟩:=q;exact d b c a j D i q
 |ret v=>exact q
 |brk=>exact q
 |cont=>exact q
theorem BD(a:PS X st t):iE X [st] t:=by
 intro b s Y H D I h;refine wpAny_execs_cons (bP (a b s Y H D I h) λ f c q=>?_);cases f with
 |next=>exact Up q
 |ret v=>exact q
 |brk=>exact q
 |cont=>exact q
def Fj:TS:=λ D Y H=>D.bk Y H
def JJ:TS:=λ D Y H=>D.ct Y H
theorem BE:PS X (.Pass pos) DW:=λ _ _ Y H _ I h=>wpAny_Pass ⟨Y,H,I,h⟩
theorem yJ:PS X (.Break pos) Fj:=λ _ _ Y H _ I h=>wpAny_Break ⟨Y,H,I,h⟩
theorem qL:PS X (.Continue pos) JJ:=λ _ _ Y H _ I h=>wpAny_Continue ⟨Y,H,I,h⟩
theorem Inv.quiet{a:List (Addr×Obj)}{Y:St}{H:Hp}(I:Inv X a Y H s):interactive X.env=false:=by simp[interactive,I.ok.kind]
def JK(te:TE):TS:=λ D Y H=>te Y H λ _ a=>D.nx Y a
theorem pC(c:PE X e te)(b:swapsWith e none pos.line X.env=pure false:=by rfl):PS X (.Expr e pos) (JK te):=by
 intro d s Y H D I h;exact wpAny_Expr_any (bP (c d s Y H _ I h) λ v i ⟨x,g,f,j,a⟩=>⟨Y,g,f,a⟩) I.quiet b
def MA(te:TE):TS:=λ D Y H=>te Y H D.rt
theorem sY(c:PE X e te):PS X (.Return (some e) pos) (MA te):=by
 intro d s Y H D I h;exact wpAny_Return_some (bP (c d s Y H _ I h) λ v i ⟨x,g,f,a,b⟩=>⟨x,Y,g,f,a,b⟩)
def JL:TS:=λ D _ H=>D.rt .non H
theorem BF:PS X (.Return none pos) JL:=λ _ _ Y H _ I h=>wpAny_Return_none ⟨.non,Y,H,I,rfl,h⟩
def MB(c:TT)(t u:TS):TS:=λ D Y H=>c Y H λ b a=>if b=true then t D Y a else u D Y a
theorem JM{c:Expr}{a b:List Stmt}{g:TT}(m:PT X c g)(o:iE X a t)(n:iE X b u):PS X (.If c a b pos) (MB g t u):=by
 intro f s Y H D I h;refine wpAny_If (bP (m f s Y H _ I h) λ d i ⟨l,k,j⟩=>?_);cases d with
 |true=>exact o f i Y l D k j
 |false=>exact n f i Y l D k j
def Fl:TS:=λ _ _ _=>False
theorem yK:PS X st Fl:=λ _ _ _ _ _ _ h=>h.elim
end
abbrev TG:=V->St->Hp->(St->Hp->Prop)->Prop
abbrev Bq:=List V->St->Hp->(St->Hp->Prop)->Prop
def PG(X:Cx)(a:Expr)(t:TG):Prop:=
 ∀(c:List (Addr×Obj)) (s:Shared) (Y:St) (H:Hp) (v:V) (u:Value) (Q:St->Hp->Prop),Inv X c Y H s->RelV v u->t v Y H Q->
  wpAny (model X.prog X.w) X.A (assign a X.env u) (λ _ f=>∃b d,Inv X c b d f/\Q b d) X.xe s
def sV(X:Cx)(ts:List Expr)(t:Bq):Prop:=
 ∀(d:List (Addr×Obj)) (s:Shared) (Y:St) (H:Hp) (b:List V) (c:List Value) (Q:St->Hp->Prop),Inv X d Y H s->Vals b c->t b Y H Q->
  wpAny (model X.prog X.w) X.A (assignInOrder ((assignEach ts X.env).map (·.2)) c) (λ _ g=>∃a f,Inv X d a f g/\Q a f) X.xe s
abbrev Fo:=V->V->V->Hp->(Hp->Prop)->Prop
def Fp(X:Cx)(t:Fo):Prop:=
 ∀(c:List (Addr×Obj)) (s:Shared) (Y:St) (H:Hp) (o i v:V) (a b u:Value) (Q:Hp->Prop),Inv X c Y H s->RelV o a->RelV i b->RelV v u->t o i v H Q->
  wpAny (model X.prog X.w) X.A (setItem a b u) (λ _ f=>∃d,Inv X c Y d f/\Q d) X.xe s
section
variable{X:Cx}{pos:Pos}
def DX(i:Nat):TG:=λ v Y H Q=>Q (Y.set i (some v)) H
theorem BG{i:Nat}{x:Str}(c:X.N.Nodup)(hi:X.N[i]?=some x)(a:Loc X.env.scope x)(b:X.fn x=true\/X.env.scope.names.lookup x=some .local:=by first | exact .inl rfl | exact .inr rfl | assumption):PG X (.Name x pos) (DX i):=by
 intro g s Y H v u Q I r h;exact wpAny_assign_Name (lD I c hi a r (λ f d=>⟨_,H,d,h⟩) b)
def MC:Bq:=λ a Y H Q=>a=[]/\Q Y H
def JN(t:TG)(u:Bq):Bq:=λ b Y H Q=>∃v r,b=v::r/\t v Y H fun a c=>u r a c Q
theorem BH:sV X [] MC:=by
 intro c s Y H a b Q I r h;let⟨e,h⟩:=h;subst e;cases r;exact assignInOrder_nil ⟨Y,H,I,h⟩
theorem yL{es:List Expr}{t:TG}{u:Bq}(j:PG X e t)(i:sV X es u)
  (g:(assignEach (e::es) X.env).map (·.2)=assign e X.env::(assignEach es X.env).map (·.2):=by rfl):sV X (e::es) (JN t u):=by
 intro b s Y H n p Q I r h;let⟨v,o,k,h⟩:=h;subst k;cases r with
 |cons r d=>
  rw[g];refine assignInOrder_cons (bP (j b s Y H _ _ _ I r h) λ _ c ⟨a,m,l,f⟩=>?_);exact i b c a m _ _ Q l d f
def ME(K:ae)(n:Nat)(t:Bq):TG:=λ v Y H Q=>∃a b,v=.ref a/\ef K H a b/\b.length=n/\t b Y H Q
theorem Fq{es:List Expr}{k:Nat}{t:Bq}{n:Nat}(y:X.calm=true)(h:sV X es t)
  (q:(assignEach es X.env).length=n:=by rfl) (d:(assignEach es X.env).findIdx? (·.1)=none:=by rfl):PG X (.Tuple es k pos) (ME X.K n t):=by
 intro g s Y H v u Q I r c;let⟨a,i,A,p,x,c⟩:=c;subst A;cases r;let⟨j,f,m,C⟩:=I.tuple p;refine assign_Tuple_tuple (I.ok.hd y) m (by simp[q,<-x,f.length]) d λ z l=>?_;have B:Inv X g Y H {s with heap:=z}:=I.kept (t':=s.toks) λ b o e=>l b o (Qo (Qg e)) e;exact h g _ Y H i _ Q B (~~~f) c
def MF(a b:TE)(t:Fo):TG:=λ v Y H Q=>a Y H λ o f=>b Y f λ i d=>t o i v d λ c=>Q Y c
theorem Ft{o i:Expr}{d f:TE}{t:Fo}(ho:PE X o d)(hi:PE X i f)(q:Fp X t)
  (z:∀v,assign (.Subscript o i pos) X.env v=(do
   let a <-holding [v] (eval o X.env)
   let b <-holding [v,a] (eval i X.env)
   standAt pos
   holding [v,a,b] (setItem a b v)
   release [v,a,b] []):=by intro _;rfl):PG X (.Subscript o i pos) (MF d f t):=by
 intro c s Y H v u Q I r h;rw[z];refine Qa (Q9 (bP (ho c s Y H _ I h) λ a j ⟨x,F,C,l,p⟩=>?_));refine Qa (Q9 (bP (hi c j Y F _ C p) λ b g ⟨y,E,B,k,n⟩=>?_));refine Qa (Ra (Qa (Q9 (bP (q c g Y E x y v a b u _ B l k r n) λ _ G ⟨D,A,m⟩=>?_))));exact wpAny_release ⟨Y,D,A,m⟩
def JO(a:TE)(g:TG):TS:=λ D Y H=>a Y H λ x b=>g x Y b D.nx
theorem sZ{a:TE}{g:TG}(l:PE X e a)(k:PG X tg g)(j:swapsWithSole [tg] e pos.line X.env=pure false:=by rfl)(i:swappedStores [tg] e X.env=pure none:=by rfl)
  (m:(assignEach [tg] X.env).map (·.2)=[assign tg X.env]:=by rfl):PS X (.Assign [tg] e pos) (JO a g):=by
 intro b s Y H D I h;refine wpAny_Assign_stores (bP (l b s Y H _ I h) λ v c ⟨x,o,n,d,f⟩=>?_) j i;rw[m];exact bP (k b c Y o x v _ n d f) λ _ p q=>q
theorem Fv{i:Nat}{x:Str}{b:TE}{a:Pos}(l:X.N.Nodup)(hi:X.N[i]?=some x)(f:Loc X.env.scope x)(k:PE X e b)(g:swapsWith e @(.Name x a) pos.line X.env=pure false:=by rfl)(j:X.fn x=true\/X.env.scope.names.lookup x=some .local:=by first | exact .inl rfl | exact .inr rfl | assumption) :
  PS X (.Assign [.Name x a] e pos) (JO b (DX i)):=by
 intro m s Y H D I h;refine wpAny_Assign_Name (bP (k m s Y H _ I h) λ v r ⟨y,p,o,c,d⟩=>?_) g;exact lD o l hi f c (λ q n=>⟨_,p,n,d⟩) j
end
set_option genInjectivity false in
structure It where
 go:Nat->Hp->Prop
 yld:Nat->Hp->V->Hp->Prop
 stop:Nat->Hp->Prop
def jI(X:Cx)(a:List (Addr×Obj))(H:Hp)(b:Addr):Prop:=
 H b=none/\b≠X.env.locals/\b∉X.fs/\(b∈X.ex\/X.s₀⁻¹<=b)/\(∀x c,X.env.cells.lookup x=some c->c≠b)/\∀p∈X.pn++a,p.1≠b
theorem Inv.qM{d:List (Addr×Obj)}{Y:St}{H f:Hp}{b:Addr}(I:Inv X d Y H s)(a:s⁻¹<=b)(h:f b=none):jI X d f b:=by
 refine⟨h,Ry (Qm I.lt a),I.Mt a,.inr (Qk I.sz a),λ x c e z=>?_,λ p g z=>?_⟩
 .let⟨v,q⟩:=I.cell x c e;exact absurd (Qm q.lt (by rw[z];exact a)) (R9 _)
 .exact absurd (Qm (Qg (I.pin p g).1) (by rw[z];exact a)) (R9 _)
structure Turn(P:Program)(w:World)(K:ae)(tg:Expr)(PZ:It)(fp:List Addr)(it:Addr)(tn:Nat->Heap->Prop):Prop where
 mem:it∈fp
 obj:∀i h,tn i h->∀b∈fp,∃o,h.get? b=some o/\∀v,o.data≠.cell v
 keep:∀i h h',tn i h->(∀b∈fp,∀o,h.get? b=some o->h'.get? b=some o)->tn i h'
 item:∀(X:Cx),X.prog=P->X.w=w->X.K=K->X.calm=true->∀(i:Nat) (aa:List (Addr×Obj)) (s:Shared) (Y:St) (H:Hp) (E:Value->Shared->Prop),Inv X aa Y H s->(∀b∈fp,jI X aa H b)->tn i s.heap->PZ.go i H->
  wpAny (model P w) X.A (pyNext (.ref it)) (λ r s1=>∃u,r=some u/\
   wpAny (model P w) X.A (letOwnedTupleGo tg (.ref it) u) (λ _ s2=>∃x H',Inv X aa Y H' s2/\RelV x u/\PZ.yld i H x H'/\tn (i+1) s2.heap/\∀b∈fp,H' b=none) E s1) E s
 done:∀(X:Cx),X.prog=P->X.w=w->X.K=K->X.calm=true->∀(i:Nat) (aa:List (Addr×Obj)) (s:Shared) (Y:St) (H:Hp) (E:Value->Shared->Prop),Inv X aa Y H s->(∀b∈fp,jI X aa H b)->tn i s.heap->PZ.stop i H->
  wpAny (model P w) X.A (pyNext (.ref it)) (λ r s1=>r=none/\Inv X aa Y H s1) E s
 self:∀(A:Around) (i:Nat) (s:Shared) (Q:Value->Shared->Prop) (E:Value->Shared->Prop),tn i s.heap->Q (.ref it) s->wpAny (model P w) A (pyIter (.ref it)) Q E s
abbrev TI:=St->Hp->(It->Hp->Prop)->Prop
def N6(X:Cx)(i:List (Addr×Obj))(Y:St)(tg:Expr)(R:It->Hp->Prop)(a:Value)(f:Shared):Prop:=
 ∃(g:Addr) (h:List Addr) (d:Nat->Heap->Prop) (j:It) (c:Hp),a=.ref g/\Inv X i Y c f/\Turn X.prog X.w X.K tg j h g d/\d 0 f.heap/\(∀b∈h,jI X i c b)/\R j c
def PI(X:Cx)(tg a:Expr)(c:TI):Prop:=
 ∀(b:List (Addr×Obj)) (s:Shared) (Y:St) (H:Hp) (R:It->Hp->Prop),Inv X b Y H s->c Y H R->
  wpAny (model X.prog X.w) X.A (eval a X.env) (λ v d=>wpAny (model X.prog X.w) X.A (pyIter v) (N6 X b Y tg R) X.xe d) X.xe s
theorem uQ{M:Model}{A:Around}{E:Value->Shared->Prop}{it:Addr}{o:Obj}{n:String}{vs:Array Value}{Q:Unit->Shared->Prop}(ho:s.heap.get? it=some o)(d:o.cls=.type n)(c:o.data=.fields vs)
  (b:["enumerate","zip","dict_itemiterator","dict_reverseitemiterator","odict_iterator","itertools.zip_longest","itertools.pairwise"].contains n=false) (a:Q () s):wpAny M A (letOwnedTupleGo tg (.ref it) u) Q E s:=by
 unfold letOwnedTupleGo;cases tg<;>first
  |exact Qj a
  |(cases u<;>first
    |exact Qj a
    |(refine Qa (wpAny_load ho ?_);rw[d,c];show wpAny M A (if (["enumerate","zip","dict_itemiterator","dict_reverseitemiterator","odict_iterator","itertools.zip_longest","itertools.pairwise"].contains n&&vs[0]?==@(rawInt _))=true then _ else _) Q E s;rw[Qu (by intro h;rw[b,Bool.false_and] at h;cases h)];exact Qj a))
def LJ(K:ae)(a:Addr):It:=
 ⟨λ i H=>∃b x,gU K H a b/\b[i]?=some x,λ i H x c=>c=H/\∀b,gU K H a b->b[i]?=some x,λ i H=>∃b,gU K H a b/\b.length<=i⟩
def MG(K:ae)(a:Addr):It:=
 ⟨λ i H=>∃b x,ef K H a b/\b[i]?=some x,λ i H x c=>c=H/\∀b,ef K H a b->b[i]?=some x,λ i H=>∃b,ef K H a b/\b.length<=i⟩
def LK(lo:Int)(n:Nat):It:=⟨λ i _=>i<n,λ i H x a=>a=H/\x=.int (lo+i),λ i _=>n<=i⟩
theorem wJ(a it:Addr):Turn P w K tg (LJ K a) [it] it (λ i h=>h.IsListIter it a i) where
 mem:=by simp
 obj:=λ i h st b f=>by
  have e:b=it:=by simpa using f
  subst e;let⟨o,e,c,d⟩:=st;exact⟨o,e,λ v z=>by rw[d] at z;cases z⟩
 keep:=λ i h l st k=>st.at λ o e=>k it 's' o e
 item:=by
  intro X r hw t hc i B s Y H E I hf st q;subst r hw t;let⟨xs,x,j,n⟩:=q;let⟨its,m,p,F⟩:=I.list j;let⟨u,J,D⟩:=m.get n;let⟨f0,f1,f2,A,f4,y⟩:=hf it 's';refine T9 st p.isList (x:=u) (~~~J) λ l g C=>?_;have M:Inv X B Y H {s with heap:=l}:=I.turned (t':=s.toks) (λ b o f e=>(C.2 b f).trans e) f0 f1 A f4 y;let⟨o,e,c,d⟩:=id g;exact⟨u,rfl,uQ (s:={s with heap:=l}) e c d 'd' ⟨x,H,M,D,⟨rfl,λ N G=>by rw[I.qK G j];exact n⟩,g,λ b f=>(hf b f).1⟩⟩
 done:=by
  intro X r hw t hc i B s Y H E I hf st q;subst r hw t;let⟨xs,j,n⟩:=q;let⟨its,m,p,F⟩:=I.list j;let⟨f0,f1,f2,A,f4,y⟩:=hf it 's';have O:=m.length;exact wpAny_pyNext_list_end (I.ok.hd hc) st p.isList (by simp;omega) λ l L=>⟨rfl,I.turned (t':=s.toks) (λ b o f e=>L b o f e) f0 f1 A f4 y⟩
 self:=λ _ _ _ _ _ st h=>wpAny_pyIter_listiter st h
theorem s8(a it:Addr):Turn P w K tg (MG K a) [it] it (λ i h=>h.IsTupleIter it a i) where
 mem:=by simp
 obj:=λ i h st b f=>by
  have e:b=it:=by simpa using f
  subst e;let⟨o,e,c,d⟩:=st;exact⟨o,e,λ v z=>by rw[d] at z;cases z⟩
 keep:=λ i h l st k=>st.at λ o e=>k it 's' o e
 item:=by
  intro X r hw t hc i B s Y H E I hf st q;subst r hw t;let⟨xs,x,j,n⟩:=q;let⟨its,m,p,F⟩:=I.tuple j;let⟨u,J,D⟩:=m.get n;let⟨f0,f1,f2,A,f4,y⟩:=hf it 's';refine wpAny_pyNext_tuple_item st (show s.heap.IsTuple a its.toArray from p) (x:=u) (~~~J) λ l g C=>?_;have M:Inv X B Y H {s with heap:=l}:=I.turned (t':=s.toks) (λ b o f e=>(C.2 b f).trans e) f0 f1 A f4 y;let⟨o,e,c,d⟩:=id g;exact⟨u,rfl,uQ (s:={s with heap:=l}) e c d 'd' ⟨x,H,M,D,⟨rfl,λ N G=>by rw[I.nP G j];exact n⟩,g,λ b f=>(hf b f).1⟩⟩
 done:=by
  intro X r hw t hc i B s Y H E I hf st q;subst r hw t;let⟨xs,j,n⟩:=q;let⟨its,m,p,F⟩:=I.tuple j;let⟨f0,f1,f2,A,f4,y⟩:=hf it 's';have O:=m.length;exact wpAny_pyNext_tuple_end (I.ok.hd hc) st (show s.heap.IsTuple a its.toArray from p) (by simp;omega) λ l L=>⟨rfl,I.turned (t':=s.toks) (λ b o f e=>L b o f e) f0 f1 A f4 y⟩
 self:=λ _ _ _ _ _ st h=>wpAny_pyIter_tupleiter st h
theorem s9(it:Addr)(lo:Int)(n:Nat):Turn P w K tg (LK lo n) [it] it (λ i h=>IsRangeIter h it (lo+(i:Nat)*1) ((n:Int) - (i:Nat)) 1) where
 mem:=by simp
 obj:=λ i h st b a=>by
  have e:b=it:=by simpa using a
  subst e;exact⟨_,st,λ v z=>by
   have r:Data.fields _=Data.cell v:=z;cases r⟩
 keep:=λ i h d st k=>k it 's' _ st
 item:=by
  intro X g hw j hc i q s Y H E I hf st f;subst g hw j;let⟨f0,f1,f2,m,f4,l⟩:=hf it 's';have W:=Walks.range (prog:=X.prog) (w:=X.w) (I.ok.hd hc) it lo 1 n;refine W.item i s _ _ f st λ v d p x c kk=>?_;let⟨t,rfl⟩:=x;have A:Inv X q Y H {s with heap:=d,toks:=p}:=I.turned (λ b o a e=>kk b o (~~~a) e) f0 f1 m f4 l;refine⟨_,rfl,uQ (s:={s with heap:=d,toks:=p}) (n:="range_iterator") c rfl rfl 'd' ⟨.int (lo+i),H,A,⟨t,?_⟩,⟨rfl,rfl⟩,c,λ b a=>(hf b a).1⟩⟩;rw[Int.mul_one]
 done:=by
  intro X g hw j hc i q s Y H E I hf st f;subst g hw j;let⟨f0,f1,f2,m,f4,l⟩:=hf it 's';exact wpAny_pyNext_range_end (I.ok.hd hc) st (by have:n<=i:=f;omega) λ d y=>⟨rfl,I.turned (t':=s.toks) (λ b o a e=>y b o a e) f0 f1 m f4 l⟩
 self:=λ _ _ _ _ _ st h=>wpAny_pyIter_rangeiter st h
end L2
namespace L2
open PySem PySem.Spec PyProof.Rows List
variable{H:Hp}{fp:List Addr}{aa:List (Addr×Obj)}{s:Shared}{Y:St}
section
variable{X:Cx}{tg:Expr}
def JP(K:ae)(d:TE):TI:=fun Y H R=>d Y H λ x b=>∃a,x=.ref a/\(∃c,gU K b a c)/\R (LJ K a) b
def MH(K:ae)(d:TE):TI:=fun Y H R=>d Y H λ x b=>∃a,x=.ref a/\(∃c,ef K b a c)/\R (MG K a) b
theorem BI{l:Expr}{f:TE}(m:PE X l f):PI X tg l (JP X.K f):=by
 intro aa s Y H R I h;refine bP (m aa s Y H _ I h) λ v c ⟨x,r,d,g,i⟩=>?_;let⟨a,e,⟨t,k⟩,q⟩:=i;subst e;cases g;let⟨j,u,p,w⟩:=d.list k;refine SY p.isList ?_;refine⟨c⁻¹,[c⁻¹],_,_,r,rfl,d.kept (t':=c.toks) λ b o e=>Qd _ e,wJ a _,⟨_,Qp _ rfl,rfl,rfl⟩,λ b n=>?_,q⟩;have e:b=c⁻¹:=by simpa using n
 subst e;exact d.qM (Qf _) (d.hok.fresh (Qf _))
theorem Fw{l:Expr}{g:TE}(m:PE X l g):PI X tg l (MH X.K g):=by
 intro aa s Y H R I h;refine bP (m aa s Y H _ I h) λ v c ⟨x,r,d,i,j⟩=>?_;let⟨a,e,⟨t,k⟩,q⟩:=j;subst e;cases i;let⟨f,u,p,w⟩:=d.tuple k;refine Tz (show c.heap.IsTuple a f.toArray from p) ?_;refine⟨c⁻¹,[c⁻¹],_,_,r,rfl,d.kept (t':=c.toks) λ b o e=>Qd _ e,s8 a _,⟨_,Qp _ rfl,rfl,rfl⟩,λ b n=>?_,q⟩;have e:b=c⁻¹:=by simpa using n
 subst e;exact d.qM (Qf _) (d.hok.fresh (Qf _))
theorem yM{R:It->Hp->Prop}{E:Value->Shared->Prop}{lo hi:Int}{t u v:Tok}{tk:Nat}(I:Inv X aa Y H s)(h:-(2^62)<=lo)(g:lo<2^62)(f:-(2^62)<=hi)(d:hi<2^62)
  (q:R (LK lo (hi - lo).toNat) H):wpAny (model X.prog X.w) X.A (pyIter (.ref s⁻¹)) (N6 X aa Y tg R) E {s with heap:=s.heap.push {cls:=.type "range",data:=.fields #[.int lo t,.int hi u,.int 1 v]},toks:=tk}:=by
 refine wpAny_pyIter_range (IsRange.new ..) (small_one h g f d) ?_;have a:Inv X aa Y H {s with heap:=s.heap.push {cls:=.type "range",data:=.fields #[.int lo t,.int hi u,.int 1 v]},toks:=tk}:=I.kept λ b o e=>Qd _ e;refine⟨(s.heap.push {cls:=.type "range",data:=.fields #[.int lo t,.int hi u,.int 1 v]}).objs.size,[(s.heap.push {cls:=.type "range",data:=.fields #[.int lo t,.int hi u,.int 1 v]}).objs.size],_,_,H,rfl,
  a.kept (t':=tk) λ b o e=>Qd _ e,s9 _ lo (hi - lo).toNat,?_,λ b c=>?_,q⟩
 .have j:lo+((0:Nat):Int)*1=lo:=by simp
  have i:(((hi - lo).toNat:Nat):Int) - ((0:Nat):Int)=Builtin.Range.rangeSize lo hi 1:=by rw[rangeSize_one];split<;>omega
  show IsRangeIter _ _ (lo+((0:Nat):Int)*1) ((((hi - lo).toNat:Nat):Int) - ((0:Nat):Int)) 1;rw[j,i];exact Qp _ rfl
 .have e:b=(s.heap.push {cls:=.type "range",data:=.fields #[.int lo t,.int hi u,.int 1 v]}).objs.size:=by simpa using c
  subst e;exact a.qM (Qf _) (a.hok.fresh (Qf _))
def JQ(ta:TA):TI:=fun Y H R=>ta Y H λ a b=>∃j:Int,a=[.int j]/\-(2^62)<=j/\j<2^62/\R (LK 0 j.toNat) b
theorem wK{a:Expr}{ta:TA}{p pos:Pos}(k:Gl X "range")(i:X.mg "range"=none)(l:PA X [a] ta)(g:starEach [a] X.env=[(false,eval a X.env)]:=by rfl):PI X tg (.Call (.Name "range" p) [a] [] pos) (JQ ta):=by
 intro aa s Y H R I h;refine Call_ (i6 I k i boot_range (RE (bP (l pos aa s Y H _ I h) λ o u ⟨n,v,m,d,b⟩=>?_) g rfl));let⟨j,e,b,f,q⟩:=b;subst e;cases d with
 |cons r c=>
  cases c;let⟨t,rfl⟩:=r;exact call_range_1 (yM m 'o' 'o' b f (~~~q))
def MI(f:TI)(g:TG)(tb:TS):TS:=λ D Y H=>f Y H λ d j=>∃W:Nat->Nat->St->Hp->Prop,(∃m,W 0 m Y j)/\∀i m Y H,W i m Y H->
 (d.stop i H/\D.nx Y H)\/(d.go i H/\∃N:St->Hp->Prop,(∀a b,N a b->∃e,e<m/\W (i+1) e a b)/\∀x b,d.yld i H x b->g x Y b fun c h=>tb {D with nx:=N,ct:=N,bk:=D.nx} c h)
def lE(fp:List Addr)(h:Heap):List (Addr×Obj):=fp.filterMap λ b=>(h.get? b).map λ o=>(b,o)
theorem gA{h:Heap}{b:Addr}{o:Obj}(a:b∈fp)(e:h.get? b=some o):(b,o)∈lE fp h:=TF.mpr ⟨b,a,by rw[e];rfl⟩
theorem wL{h:Heap}{p:Addr×Obj}(a:p∈lE fp h):p.1∈fp/\h.get? p.1=some p.2:=by
 let⟨b,c,e⟩:=TF.mp a;cases q:h.get? b with
 |none=>rw[q] at e;cases e
 |some o=>
  rw[q] at e;have d:(b,o)=p:=QN e;subst d;exact⟨c,q⟩
theorem Inv.pinned(I:Inv X aa Y H s)(g:∀b∈fp,jI X aa H b)(ho:∀b∈fp,∃o,s.heap.get? b=some o/\∀v,o.data≠.cell v):Inv X (aa++lE fp s.heap) Y H s:=
 I.uO λ p f=>(Qz.mp f).elim (λ z=>I.pin p (QL _ z)) λ z=>by
  let⟨a,e⟩:=wL z;let⟨j,i,h,_⟩:=g p.1 a;let⟨o,c,d⟩:=ho p.1 a;rw[e] at c;cases c;exact⟨e,j,i,h,d⟩
theorem Inv.jb{a:List (Addr×Obj)}(I:Inv X (aa++a) Y H s):Inv X aa Y H s:=I.uO λ p b=>I.pin p (QL _ (Q8 _ b))
theorem Fx{j:Expr}{body:List Stmt}{R:TI}{g:TG}{tb:TS}{pos:Pos}(G:PassesOwn (model X.prog X.w) X.A X.env X.xe)(hc:X.calm=true)(hi:PI X tg j R)(hg:PG X tg g)(k:iE X body tb)
  (hs:∀x,foldedSetIterable j X.env x=pure x:=by intro _;rfl):PS X (.For tg j body [] pos) (MI R g tb):=by
 intro aa s Y H D I h;refine wpAny_For (bP (hi aa s Y H _ I h) λ v s1 h1=>bP h1 λ itv s2 h2=>?_) hs;let⟨it,fp,S,PZ,H2,e,I2,T,M,f2,W,⟨m0,w0⟩,C⟩:=h2;subst e;have c:∀{y:Hp},(∀b∈fp,y b=none)->∀b∈fp,jI X aa y b:=λ hn b k=>⟨hn b k,(f2 b k).2⟩;refine codeAny_forLoop_any (λ n Z=>∃i a y,Inv X aa a y Z/\S i Z.heap/\(∀b∈fp,y b=none)/\W i n a y) ?_ m0 ⟨0,Y,H2,I2,M,λ b k=>(f2 b k).1,w0⟩;rintro n V ⟨i,K,L,I3,E,J,w3⟩;rcases C i n K L w3 with⟨stop,qn⟩ | ⟨go,N,hN,step⟩
 .refine SD G (bP (T.done X rfl rfl rfl hc i aa V K L X.xe I3 (c J) E stop) λ r s4 ⟨P,I4⟩=>?_);subst P;exact Up ⟨K,L,I4,qn⟩
 .refine SD G (bP (T.item X rfl rfl rfl hc i aa V K L X.xe I3 (c J) E go) λ r s4 ⟨u,P,h4⟩=>?_);subst P;refine SD G (bP h4 λ _ U ⟨x,H5,I5,r5,y5,B,Q⟩=>?_);have OS:=I5.pinned (c Q) (T.obj _ _ B);refine SD G (bP (hg _ U K H5 x u _ OS r5 (step x H5 y5)) λ _ s6 ⟨Y6,H6,I6,q6⟩=>?_);refine SD G (bP (k _ s6 Y6 H6 _ I6 q6) λ f O z=>?_);have l:∀{p:St} {t:Hp},Inv X (aa++lE fp U.heap) p t O->N p t->Exists λ m=>m<n/\∃i a y,Inv X aa a y O/\S i O.heap/\(∀b∈fp,y b=none)/\W i m a y:=λ {p t} q F=>by
   let⟨m',hm,w7⟩:=hN p t F;refine⟨m',hm,i+1,p,t,q.jb,T.keep _ _ _ B λ b k o e=>(q.pin (b,o) (QL _ (QL _ (gA k e)))).1,λ b k=>?_,w7⟩;let⟨o,e,d⟩:=T.obj _ _ B b k;exact(q.pin (b,o) (QL _ (QL _ (gA k e)))).2.1
  cases f with
  |next=>let⟨p,t,q,F⟩:=z;exact l q F
  |cont=>let⟨p,t,q,F⟩:=z;exact l q F
  |brk=>let⟨p,t,q,z⟩:=z;exact⟨p,t,q.jb,z⟩
  |ret v=>let⟨x7,p,t,q,r7,z⟩:=z;exact⟨x7,p,t,q.jb,r7,z⟩
end
end L2
namespace L2
open PySem PySem.Spec PyProof.Rows List
variable{f:Value->Value->Sem Value}{op:CmpOp}
abbrev R2:=V->V->Hp->VK->Prop
def gf(X:Cx)(f:Value->Value->Sem Value)(r:R2):Prop:=
 ∀(a:List (Addr×Obj)) (s:Shared) (Y:St) (H:Hp) (x y:V) (v u:Value) (Q:VK),Inv X a Y H s->RelV x v->RelV y u->r x y H Q->
  wpAny (model X.prog X.w) X.A (f v u) (EP X a Y Q) X.xe s
def MJ(X:Cx)(f:Value->Sem Value)(r:V->Hp->VK->Prop):Prop:=
 ∀(a:List (Addr×Obj)) (s:Shared) (Y:St) (H:Hp) (x:V) (v:Value) (Q:VK),Inv X a Y H s->RelV x v->r x H Q->
  wpAny (model X.prog X.w) X.A (f v) (EP X a Y Q) X.xe s
def cG(X:Cx)(f:Value)(r:List V->Hp->VK->Prop):Prop:=
 ∀(c:List (Addr×Obj)) (s:Shared) (Y:St) (H:Hp) (a:List V) (b:List Value) (Q:VK),Inv X c Y H s->Vals a b->r a H Q->
  wpAny (model X.prog X.w) X.A (call f b) (EP X c Y Q) X.xe s
def MK(X:Cx)(r:V->Hp->(Bool->Hp->Prop)->Prop):Prop:=
 ∀(a:List (Addr×Obj)) (s:Shared) (Y:St) (H:Hp) (x:V) (v:Value) (Q:Bool->Hp->Prop),Inv X a Y H s->RelV x v->r x H Q->
  wpAny (model X.prog X.w) X.A (truthy v) (TP X a Y Q) X.xe s
def LN(r:R2)(ta tb:TE):TE:=fun Y H Q=>ta Y H λ x b=>tb Y b λ y a=>r x y a Q
def OT(r:V->Hp->VK->Prop)(ta:TE):TE:=fun Y H Q=>ta Y H λ x a=>r x a Q
def rI(C:Int->Int->Prop)(g:Int->Int->V):R2:=λ x y H Q=>∃i j,x=.int i/\y=.int j/\C i j/\Q (g i j) H
def BJ(g:Int->Int->V):R2:=λ x y H Q=>∃i j,x=.int i/\y=.int j/\Q (g i j) H
def rU(g:Int->V):V->Hp->VK->Prop:=λ x H Q=>∃i,x=.int i/\Q (g i) H
section
variable{X:Cx}{a b c:Expr}{ta tb tc:TE}{pos:Pos}
theorem Fy(t:PE X a ta)(r:PE X b tb){j:List (Addr×Obj)}{s:Shared}{Y:St}{H:Hp}{R:V->V->Hp->Prop}(I:Inv X j Y H s)
  (h:ta Y H λ x k=>tb Y k λ y d=>R x y d) {Q:Value->Shared->Prop}
  (q:∀v u i x y d,Inv X j Y d i->RelV x v->RelV y u->R x y d->wpAny (model X.prog X.w) X.A (f v u) Q X.xe i) :
  wpAny (model X.prog X.w) X.A (eval a X.env) (λ v g=>wpAny (model X.prog X.w) X.A (eval b X.env) (λ u e=>wpAny (model X.prog X.w) X.A (f v u) Q X.xe e) X.xe g) X.xe s:=by
 refine bP (t j s Y H _ I h) λ v l ⟨x,k,B,n,p⟩=>?_;refine bP (r j l Y k _ B p) λ u i ⟨y,d,z,m,o⟩=>?_;exact q v u i x y d z n m o
theorem JR{op:Operator}{r:R2}(ho:gf X (binaryOp op) r)(j:PE X a ta)(i:PE X b tb):PE X (.BinOp a op b pos) (LN r ta tb):=by
 intro k s Y H Q I h;exact wpAny_BinOp (Fy j i I h λ v u d x y m l g e q=>ho k d Y m x y v u Q l g e q)
theorem JS{op:UnaryOp}{r:V->Hp->VK->Prop}(ho:MJ X (unaryOp op) r)(j:PE X a ta):PE X (.UnaryOp op a pos) (OT r ta):=by
 intro d s Y H Q I h;exact UnaryOp_ (bP (j d s Y H _ I h) λ v e ⟨x,l,k,g,i⟩=>ho d e Y l x v Q k g i)
theorem Io{C:Int->Int->Prop}{g:Int->Int->Int}
  (d:∀(i j:Int) (t u:Tok) (s:Shared) (Q:Value->Shared->Prop) (E:Value->Shared->Prop),C i j->Q (.int (g i j) s.toks) {s with toks:=s.toks+1}->wpAny (model X.prog X.w) X.A (f (.int i t) (.int j u)) Q E s) :
  gf X f (rI C λ i j=>.int (g i j)):=by
 intro n s Y H x y v u Q I l k h;let⟨i,j,rfl,rfl,m,q⟩:=h;let⟨t,rfl⟩:=l;let⟨e,rfl⟩:=k;exact d i j t e s _ _ m ⟨.int (g i j),H,I.tok _,⟨_,rfl⟩,q⟩
theorem Fz{g:Int->Int->Int}
  (d:∀(i j:Int) (t u:Tok) (s:Shared) (Q:Value->Shared->Prop) (E:Value->Shared->Prop),Q (.int (g i j) s.toks) {s with toks:=s.toks+1}->wpAny (model X.prog X.w) X.A (f (.int i t) (.int j u)) Q E s) :
  gf X f (BJ λ i j=>.int (g i j)):=by
 intro m s Y H x y v u Q I l k h;let⟨i,j,rfl,rfl,q⟩:=h;let⟨t,rfl⟩:=l;let⟨e,rfl⟩:=k;exact d i j t e s _ _ ⟨.int (g i j),H,I.tok _,⟨_,rfl⟩,q⟩
theorem BK{g:Int->Int->Bool}
  (d:∀(i j:Int) (t u:Tok) (s:Shared) (Q:Value->Shared->Prop) (E:Value->Shared->Prop),Q (.bool (g i j)) s->wpAny (model X.prog X.w) X.A (f (.int i t) (.int j u)) Q E s) :
  gf X f (BJ λ i j=>.bl (g i j)):=by
 intro m s Y H x y v u Q I l k h;let⟨i,j,rfl,rfl,q⟩:=h;let⟨t,rfl⟩:=l;let⟨e,rfl⟩:=k;exact d i j t e s _ _ ⟨.bl (g i j),H,I,rfl,q⟩
def JT(i j:Int):Prop:=0<j/\j<1073741824
def JU(i j:Int):Prop:=0<=j/\j<=1000000/\i.natAbs<2^64
def BL(i j:Int):Prop:=(-(2^64)<i/\i<2^64)\/(-(2^64)<j/\j<2^64)
theorem BL.ok{i j:Int}(h:BL i j):IntMulOk i j:=by
 rcases h with⟨e,d⟩ | ⟨e,d⟩
 .exact .of_left (intBits_le_64 e d)
 .exact .of_right (intBits_le_64 e d)
theorem tu(k:Nat):(0:Int)<=2^k:=by
 rw[two_pow_cast];exact Int.natCast_nonneg _
theorem FE:gf X (binaryOp .Add) (BJ λ i j=>.int (i+j)):=Fz λ _ _ _ _ _ _ _ q=>add_int q
theorem FF:gf X (binaryOp .Sub) (BJ λ i j=>.int (i - j)):=Fz λ _ _ _ _ _ _ _ q=>sub_int q
theorem FG:gf X (binaryOp .Mult) (rI BL λ i j=>.int (i*j)):=Io λ _ _ _ _ _ _ _ d q=>mul_int q d.ok
theorem BN:gf X (binaryOp .FloorDiv) (rI JT λ i j=>.int (i / j)):=Io λ i j _ _ _ _ _ d q=>by
 have g:(0:Int)<j:=d.1;have e:j<1073741824:=d.2;exact floordiv_int 'o' (by rw[Sk i 'o'];exact q) (.inl (Ua 'o'))
theorem FH:gf X (binaryOp .Mod) (rI (λ _ j=>0<j) λ i j=>.int (i%j)):=Io λ i j _ _ _ _ _ d q=>by
 have e:(0:Int)<j:=d;exact mod_int' 'o' (by rw[TH i 'o'];exact q)
theorem FI:gf X (binaryOp .Pow) (rI JU λ i j=>.int (i^j.toNat)):=Io λ _ _ _ _ _ _ _ d q=>pow_int_small d.1 d.2.1 d.2.2 q
theorem FJ:gf X (binaryOp .LShift) (rI JU λ i j=>.int (i*2^j.toNat)):=Io λ _ _ _ _ _ _ _ d q=>lshift_int_small d.1 d.2.1 d.2.2 q
theorem FL:gf X (binaryOp .RShift) (rI (λ _ j=>0<=j) λ i j=>.int (i / 2^j.toNat)):=Io λ i j _ _ _ _ _ d q=>
 rshift_int d (by rw[Sk i (tu _)];exact q)
theorem FN:gf X (binaryOp .BitAnd) (BJ λ i j=>.int (Builtin.bitAnd i j)):=Fz λ _ _ _ _ _ _ _ q=>and_int q
theorem OU{f:Value->Sem Value}{g:Int->Int}
  (d:∀(i:Int) (t:Tok) (s:Shared) (Q:Value->Shared->Prop) (E:Value->Shared->Prop),Q (.int (g i) s.toks) {s with toks:=s.toks+1}->wpAny (model X.prog X.w) X.A (f (.int i t)) Q E s) :
  MJ X f (rU λ i=>.int (g i)):=by
 intro j s Y H x v Q I e h;let⟨i,rfl,q⟩:=h;let⟨t,rfl⟩:=e;exact d i t s _ _ ⟨.int (g i),H,I.tok _,⟨_,rfl⟩,q⟩
theorem FO:MJ X (unaryOp .USub) (rU λ i=>.int (-i)):=OU λ _ _ _ _ _ q=>neg_int q
end
section
variable{X:Cx}{a b c:Expr}{ta tb tc:TE}{pos:Pos}
theorem pD{g:List (Addr×Obj)}{Y:St}{H:Hp}{s:Shared}{Q:VK}{k d:Bool}(I:Inv X g Y H s)(q:Q (.bl k) H)(e:k=d):EP X g Y Q (.bool d) s:=by
 subst e;exact⟨.bl k,H,I,rfl,q⟩
theorem JV:gf X (compareOp .Lt) (BJ λ i j=>.bl (decide (i<j))):=BK λ _ _ _ _ _ _ _ q=>lt_int q
theorem JW:gf X (compareOp .LtE) (BJ λ i j=>.bl (decide (i<=j))):=BK λ _ _ _ _ _ _ _ q=>le_int q
theorem JX:gf X (compareOp .Gt) (BJ λ i j=>.bl (decide (j<i))):=BK λ _ _ _ _ _ _ _ q=>gt_int q
theorem JY:gf X (compareOp .GtE) (BJ λ i j=>.bl (decide (j<=i))):=BK λ _ _ _ _ _ _ _ q=>ge_int q
theorem wM:gf X (compareOp .In) (λ x y H Q=>∃i j,x=.str i/\y=.str j/\Q (.bl (!(Builtin.Str.occurrences j i 0 j.length 1).isEmpty)) H):=by
 intro k s Y H x y v u Q I e d h;let⟨i,j,rfl,rfl,q⟩:=h;let⟨t,rfl⟩:=e;let⟨g,rfl⟩:=d;exact in_str (pD I q rfl)
theorem FP:gf X (compareOp .Is) (λ x y H Q=>y=.non/\Q (.bl (decide (x=.non))) H):=by
 intro g s Y H x y v u Q I d e h;let⟨rfl,q⟩:=h;cases e;refine is_none_gen (pD I q ?_);cases x<;>first
  |(cases d;rfl)
  |(let⟨t,rfl⟩:=d;rfl)
theorem BO:gf X (compareOp .IsNot) (λ x y H Q=>y=.non/\Q (.bl (!decide (x=.non))) H):=by
 intro g s Y H x y v u Q I d e h;let⟨rfl,q⟩:=h;cases e;refine isnot_none_gen (pD I q ?_);cases x<;>first
  |(cases d;rfl)
  |(let⟨t,rfl⟩:=d;rfl)
theorem uR{r:R2}(ho:gf X (compareOp op) r)(k:PE X a ta)(j:PE X b tb)(i:behindInMarks op b=false):PE X (.Compare a [op] [b] pos) (LN r ta tb):=by
 intro l s Y H Q I h;exact wpAny_Compare1 (Fy k j I h λ v u d x y n m g e q=>ho l d Y n x y v u Q m g e q) i
def DY(t:TE):TT:=fun Y H Q=>t Y H λ x d=>∃k,x=.bl k/\Q k d
theorem uT{r:R2}(ho:gf X (compareOp op) r)(w:PE X a ta)(t:PE X b tb)(q:behindInMarks op b=false):PT X (.Compare a [op] [b] pos) (DY (LN r ta tb)):=by
 intro d s Y H Q I h;refine wpAny_isTrue_Compare1 (bP (w d s Y H _ I h) λ v i ⟨x,F,C,m,p⟩=>bP (t d i Y F _ C p) λ u g ⟨y,E,B,l,o⟩=>
  bP (ho d g Y E x y v u _ B m l o) λ c G ⟨z,D,A,j,k,e,n⟩=>?_) q
 subst e;cases j;exact Rb ⟨D,A,n⟩
def tB(r g:R2)(ta tb tc:TE):TE:=fun Y H Q=>ta Y H λ x j=>tb Y j λ y i=>r x y i λ z d=>∃k,z=.bl k/\
 (if k=true then tc Y d λ e h=>g y e h Q else Q (.bl false) d)
theorem yN{g:CmpOp}{r m:R2}(ho:gf X (compareOp op) r)(j:gf X (compareOp g) m)(O:PE X a ta)(N:PE X b tb)(M:PE X c tc)
  (L:lastMarks [op,g] [b,c]=false:=by with_unfolding_all rfl):PE X (.Compare a [op,g] [b,c] pos) (tB r m ta tb tc):=by
 intro i s Y H Q I h;refine Compare_chain (bP (O i s Y H _ I h) λ v C ⟨x,V,S,F,K⟩=>chain_link (bP (N i C Y V _ S K) λ u B ⟨y,U,R,l,J⟩=>
  bP (ho i B Y U x y v u _ R F l J) λ d A ⟨z,p,o,E,k,e,n⟩=>?_)) L
 subst e;cases E;refine Rb ?_;cases k with
 |false=>exact ite_ff ⟨.bl false,p,o,rfl,n⟩
 |true=>exact ite_tt (chain_last (bP (M i A Y p _ o n) λ t w ⟨q,T,P,D,G⟩=>j i w Y T y q u t Q P l D G))
theorem yO{g:CmpOp}{r m:R2}(ho:gf X (compareOp op) r)(j:gf X (compareOp g) m)(S:PE X a ta)(R:PE X b tb)(P:PE X c tc)
  (O:lastMarks [op,g] [b,c]=false:=by with_unfolding_all rfl):PT X (.Compare a [op,g] [b,c] pos) (DY (tB r m ta tb tc)):=by
 intro i s Y H Q I h;refine isTrue_chain (bP (S i s Y H _ I h) λ v C ⟨x,H1,I1,G,M⟩=>test_link (bP (R i C Y H1 _ I1 M) λ u B ⟨y,H2,Z,l,L⟩=>
  bP (ho i B Y H2 x y v u _ Z G l L) λ d A ⟨z,p,o,F,k,e,n⟩=>?_)) O
 subst e;cases F;refine Rb ?_;cases k with
 |false=>
  let⟨k',U,N⟩:=n;cases U;exact ite_ff ⟨p,o,N⟩
 |true=>
  refine ite_tt (test_last (bP (P i A Y p _ o n) λ t w ⟨q,H4,W,E,K⟩=>bP (j i w Y H4 y q u t _ W l E K) λ d' s5 ⟨z2,H5,V,D,k2,T,J⟩=>?_));subst T;cases D;exact Rb ⟨H5,V,J⟩
def BP(K:ae)(x:V)(H:Hp)(k:Bool):Prop:=
 match x with
 |.non=>k=false
 |.bl b=>k=b
 |.int i=>k=(i != 0)
 |.str y=>y.length<=sizeLine/\k=((y.length:Int) != 0)
 |.byt y=>y.size<=sizeLine/\k=((y.size:Int) != 0)
 |.ref p=>(∃d,gU K H p d/\k=!d.isEmpty)\/(∃d,ef K H p d/\k=!d.isEmpty)\/∃e,H p=some (.dK e)/\k=!e.isEmpty
 |_=>False
theorem tD{e:Type}{d:List (e×V)}{vs:List (e×Value)}(r:KV d vs):(!vs.isEmpty)=!d.isEmpty:=by
 cases r<;>rfl
theorem lF{xs:List V}{its:List Value}(r:Vals xs its):(!its.toArray.isEmpty)=!xs.isEmpty:=by
 cases r<;>simp
theorem gV:(sizeLine:Nat)<2^63:=by rw[RP];decide
theorem yP:MK X (λ x H Q=>∃k,BP X.K x H k/\Q k H):=by
 intro G s Y H x v Q I n h;let⟨k,e,q⟩:=h;have F:=gV;have E:sizeLine=16777216:=RP;cases x with
 |non=>
  cases n;have d:k=false:=e;subst d;exact truthy_none ⟨H,I,q⟩
 |bl b=>
  cases n;have d:k=b:=e;subst d;exact Rb ⟨H,I,q⟩
 |int i=>
  let⟨t,rfl⟩:=n;have d:k=(i != 0):=e;subst d;exact PySem.P.truthy_int ⟨H,I,q⟩
 |str y=>
  let⟨t,rfl⟩:=n;obtain⟨C,d⟩:y.length<=sizeLine/\k=((y.length:Int) != 0):=e;subst d;exact PySem.P.truthy_str 'o' ⟨H,I.tok _,q⟩
 |byt y=>
  let⟨t,rfl⟩:=n;obtain⟨C,d⟩:y.size<=sizeLine/\k=((y.size:Int) != 0):=e;subst d;exact PySem.W.truthy_bytes 'o' ⟨H,I.tok _,q⟩
 |ref p=>
  cases n;have d:(∃l,gU X.K H p l/\k=!l.isEmpty)\/(∃l,ef X.K H p l/\k=!l.isEmpty)\/∃g,H p=some (.dK g)/\k=!g.isEmpty:=e;rcases d with⟨l,o,d⟩ | ⟨l,o,d⟩ | ⟨g,o,d⟩
  .subst d;let⟨A,r,z,B⟩:=I.list o;have j:=r.length;exact wpAny_truthy_list z.isList (by erw[Qi];omega) ⟨H,I.tok _,by rw[lF r];exact q⟩
  .subst d;let⟨A,r,z,B⟩:=I.tuple o;have j:=r.length;exact truthy_tuple z (by erw[Qi];omega) ⟨H,I.tok _,by rw[lF r];exact q⟩
  .subst d;obtain⟨B,D,u,r,m⟩:g.length<=sizeLine/\(p==sysModules)=false/\∃u,KV g u/\s.heap.DictOf (bw X.prog X.w) p u:=I.hok p _ o;have j:g.length=u.length:=TZ r;exact wpAny_truthy_dict D m 'o' ⟨H,I.tok _,by rw[tD r];exact q⟩
 |_=>exact(show False from e).elim
theorem yQ(n:PE X a ta)(m:∀d,isTrue a X.env d=(do let v <-d;standAt a.pos;holding [v] (truthy v))) :
  PT X a (fun Y H Q=>ta Y H λ x g=>∃k,BP X.K x g k/\Q k g):=by
 intro e s Y H Q I h;exact isTrue_plain (bP (n e s Y H _ I h) λ v i ⟨x,p,o,j,l⟩=>yP e i Y p x v Q o j l) (m _)
theorem tF:gf X (binaryOp .Add) (λ x y H Q=>∃i j,x=.str i/\y=.str j/\i.length+j.length<=sizeLine/\Q (.str (i++j)) H):=by
 intro m s Y H x y v u Q I g e h;let⟨i,j,rfl,rfl,k,q⟩:=h;let⟨t,rfl⟩:=g;let⟨d,rfl⟩:=e;exact add_str (λ d l=>⟨.str (i++j),H,I.tok _,⟨_,rfl⟩,q⟩) k
theorem vals1{x:V}{us:List Value}(r:Vals [x] us):∃u,us=[u]/\RelV x u:=by
 cases r with
 |cons e d=>cases d;exact⟨_,rfl,e⟩
theorem vals2{x y:V}{us:List Value}(r:Vals [x,y] us):∃u d,us=[u,d]/\RelV x u/\RelV y d:=by
 cases r with
 |cons i h=>
  cases h with
  |cons g e=>cases e;exact⟨_,_,rfl,i,g⟩
theorem yR:cG X (.builtin "abs") (λ xs H Q=>∃i,xs=[.int i]/\Q (.int (if i<0 then -i else i)) H):=by
 intro g s Y H xs d Q I r h;let⟨i,rfl,q⟩:=h;let⟨u,rfl,t,rfl⟩:=vals1 r;exact call_abs_int λ u e=>⟨.int (if i<0 then -i else i),H,I.tok _,⟨_,rfl⟩,q⟩
theorem wN(e:X.calm=true):cG X (.builtin "max") (λ xs H Q=>∃i j,xs=[.int i,.int j]/\Q (.int (if j>i then j else i)) H):=by
 intro p s Y H xs l Q I r h;let⟨i,j,rfl,q⟩:=h;let⟨u,g,rfl,⟨t,rfl⟩,⟨n,rfl⟩⟩:=vals2 r;refine max_two_ints (I.ok.hd e) λ o m k=>⟨_,H,I.kept k,?_,q⟩
 by_cases d:j>i
 .rw[Qn d,Qn d];exact⟨_,rfl⟩
 .rw[Qu d,Qu d];exact⟨_,rfl⟩
theorem wO(e:X.calm=true):cG X (.builtin "min") (λ xs H Q=>∃i j,xs=[.int i,.int j]/\Q (.int (if j<i then j else i)) H):=by
 intro p s Y H xs l Q I r h;let⟨i,j,rfl,q⟩:=h;let⟨u,g,rfl,⟨t,rfl⟩,⟨n,rfl⟩⟩:=vals2 r;refine min_two_ints (I.ok.hd e) λ o m k=>⟨_,H,I.kept k,?_,q⟩
 by_cases d:j<i
 .rw[Qn d,Qn d];exact⟨_,rfl⟩
 .rw[Qu d,Qu d];exact⟨_,rfl⟩
theorem nQ:cG X (.type "int") (λ xs H Q=>(∃i,xs=[.int i]/\Q (.int i) H)\/∃k,xs=[.bl k]/\Q (.int (if k then 1 else 0)) H):=by
 intro g s Y H xs e Q I r h;rcases h with⟨i,rfl,q⟩ | ⟨k,rfl,q⟩
 .let⟨u,rfl,t,rfl⟩:=vals1 r;exact call_int_int ⟨.int i,H,I,⟨_,rfl⟩,q⟩
 .let⟨u,rfl,d⟩:=vals1 r;cases d;exact call_int_bool ⟨.int (if k then 1 else 0),H,I.tok _,⟨_,rfl⟩,q⟩
theorem qN:cG X (.builtin "divmod") (λ xs H Q=>∃i j,xs=[.int i,.int j]/\JT i j/\∀p,H p=none->Q (.ref p) (upd H p (.tup [.int (i / j),.int (i%j)]))):=by
 intro v s Y H xs k Q I r h;let⟨i,j,rfl,⟨n,m⟩,q⟩:=h;let⟨u,g,rfl,⟨t,rfl⟩,⟨l,rfl⟩⟩:=vals2 r;refine divmod_int 'o' ?_ (.inl (Ua 'o'));rw[Sk i 'o',TH i 'o'];have d:H s⁻¹=none:=I.hok.fresh (Qf _);refine⟨.ref s⁻¹,_,?_,rfl,q _ d⟩;refine I.laid (λ b o e=>Qd _ e) (Qf _) ⟨by erw[QO,Sl];rw[RP];decide,[.int (i / j) s.toks,.int (i%j) (s.toks+1)],.cons ⟨_,rfl⟩ %[|⟨_,rfl⟩],?_⟩;exact⟨_,Qp s.heap rfl,rfl,0,rfl⟩
end
end L2
namespace L2
open PySem PySem.Spec PyProof.Rows List
variable{C:Addr}
structure qO(h:Heap)(x dx C:Addr)(mA:Str->Option Value):Prop where
 obj:h.get? x=@(PySem.W.instObj C dx)
 ns:h.Ns1 dx mA
 ne:dx≠x
theorem wQ{h:Heap}{dx:Addr}{d:Str->Option Value}(n:h.Ns1 dx d):∃c,h.get? dx=some c/\∀name,PySem.W.lookIn name c=some (d name):=by
 let⟨o,f,p,i,l,k,_,j⟩:=n;refine⟨o,i,λ name=>?_⟩;have e:=j name;unfold nsFind findBy at e;rw[<-Array.find?_toList] at e;unfold PySem.W.lookIn;rw[l];dsimp only;split
 .ext y q;rw[q] at e;exact RU some e
 .ext q;rw[q] at e;have a:f.toList.any (·.refKey)=false:=by
   rw[UH];intro y g;let⟨z,t,b⟩:=k y (Array.mem_toList_iff.mp g);simp[DictEntry.refKey,b]
  have m:¬f.toList.any (·.refKey)=true:=by rw[a];exact SK
  rw[Qu m];exact RU some e
theorem qO.look{h:Heap}{x dx:Addr}{b:Str->Option Value}(I:qO h x dx C b):∃a,PySem.W.InstAt h x (PySem.W.instObj C dx) C (some a)/\∀name,PySem.W.lookIn name a=some (b name):=
 let ⟨a,c,d⟩:=wQ I.ns
 ⟨a,⟨I.obj,rfl,rfl,c⟩,d⟩
section
variable{prog:Program}{w:World}{A:Around}{E:Value->Shared->Prop}{s:Shared}{K:ae}{x dx C f:Addr}{mA:Str->Option Value}{name:Str}{v:Value}
theorem get_map{a:Bool}{Q:Value->Shared->Prop}(X:K.In s.heap)(I:qO s.heap x dx C mA)(g:PySem.W.plainGet K C name=true)(e:PySem.W.hasDictIn K C=true)
  (i:PySem.W.findIn K (.ref C) name=some none) (c:mA name=some v) (b:PySem.W.handedIn v=true) (h:Q v {s with toks:=s.toks+1}) :
  wpAny (model prog w) A (getAttr (.ref x) name a) Q E s:=by
 let⟨k,j,d⟩:=I.look;exact PySem.W.get_value X j (To g).1 (PySem.W.findObj_own e i rfl (by rw[d,c])) b h
theorem yS{b:Sem Bool}{Q:Value×List Value->Shared->Prop}(X:K.In s.heap)(I:qO s.heap x dx C mA)(a:PySem.W.plainGet K C name=true)
  (i:PySem.W.findIn K (.ref C) name=@(some (.ref f))) (e:PySem.W.isFn K (.ref f)=true) (d:mA name=none) (h:Q (.ref f,[.ref x]) s) :
  wpAny (model prog w) A (getMethod (.ref x) name b) Q E s:=by
 let⟨c,j,g⟩:=I.look;exact PySem.W.method_fn X j (To a).1 (To a).2 i (Q6.mp e) (by show (PySem.W.lookIn name c).map (·.isSome)=some false;rw[g,d];rfl) h
theorem BQ{ns:List Str}{Q:Unit->Shared->Prop}(X:K.In s.heap)(I:qO s.heap x dx C mA)
  (m:PySem.W.findIn K (.ref C) "__setattr__"=@(some (.builtin "object.__setattr__"))) (n:PySem.W.plainOver K C=true) (l:PySem.W.takerIn K C name=some none) (o:PySem.W.hasDictIn K C=true)
  (hw:PySem.Within mA ns) (hsz:ns.length<=sizeLine)
  (h:∀h',qO h' x dx C (λ y=>if y=name then some v else mA y)->Heap.SameBut dx s.heap h'->Q () {s with heap:=h',toks:=s.toks+2}) :
  wpAny (model prog w) A (setAttr (.ref x) name v) Q E s:=by
 let⟨z,j,D⟩:=I.look;refine PySem.W.set_plain X j m (PySem.W.osa_open (s:={s with toks:=s.toks+1}) (r:=none) X j n l λ b=>?_);let⟨F,p,g⟩:=PySem.W.any_some o;have k:s.heap.get? x=some ⟨.ref C,some dx,.plain,#[]⟩:=I.obj;refine Qa (Qj (Qa (Qa (wpAny_loadPart k (Qa (PySem.W.Looks.here (s:={s with toks:=s.toks+1}) (PySem.W.looks_clsIn X p) ?_))))));rw[g];refine Qj (a:=some dx) (Qa (Qj (Qa ?_)));refine wpAny_nsSet1 (s:={s with toks:=s.toks+1}) I.ns λ h' d c=>?_;let⟨B,q,t,e,u,i⟩:=d.count (PySem.Within.cons name v hw);refine Qa (wpAny_lookBehind e (by rw[u];exact pastItsLine_dict (Qk i (by rw[QO];omega))) ?_);exact Qj (h _ ⟨(c.2 _ (Ne.symm I.ne)).trans I.obj,d,I.ne⟩ c)
theorem qP{R:Result->Shared->Prop}{vs:List Value}{b:List (Str×Value)}(X:K.In s.heap)(c:PySem.W.makesIn K C=true)
  (hi:PySem.W.findIn K (.ref C) "__init__"=@(some (.ref f))) (e:PySem.W.typeIn K (.ref f)=@(.type "function"))
  (h:codeAny (model prog w) (A.under (.builtin "type.__call__" ⟨.ref C::vs,b⟩)) (.call (.ref f) ⟨.ref (s⁻¹+1)::vs,b⟩) (PySem.W.InitBack (s⁻¹+1) R)
   {s with heap:=(s.heap.push PySem.W.emptyDict).push (PySem.W.instObj C s⁻¹)}) :
  codeAny (model prog w) A (.call (.ref C) ⟨vs,b⟩) R s:=by
 let⟨j,g,d,t,i⟩:=s;exact PySem.W.make_core (PySem.W.makes_of X c) (Q3 X hi) (λ a=>PySem.W.bind_fn X a e) (.inl rfl) h
end
def eL(f:Str)(v:V):List (Str×V)->List (Str×V)
 | []=>[(f,v)]
 |(g,x)::r=>if g=f then (g,v)::r else (g,x)::eL f v r
theorem j5(f g:Str)(v:V):∀c:List (Str×V),(eL f v c).lookup g=if g=f then some v else c.lookup g
 | []=>by
  show List.lookup g [(f,v)]=_
  by_cases h:g=f
  .have a:(g==f)=true:=Q6.mpr h;erw[List.lookup,a,Qn h]
  .have a:(g==f)=false:=RD.mpr h;erw[List.lookup,a,Qu h]
 |(k,x)::r=>by
  have d:=j5 f g v r;rw[show eL f v ((k,x)::r)=(if k=f then (k,v)::r else (k,x)::eL f v r) from rfl]
  by_cases b:k=f
  .rw[Qn b]
   by_cases h:g=k
   .have a:(g==k)=true:=Q6.mpr h;erw[List.lookup,a,Qn (h.trans b)]
   .have a:(g==k)=false:=RD.mpr h;erw[List.lookup,a,Qu (λ e:g=f=>h (e.trans b.symm))]
  .rw[Qu b]
   by_cases h:g=k
   .have a:(g==k)=true:=Q6.mpr h;erw[List.lookup,a,Qu (λ e:g=f=>b (h.symm.trans e))]
   .have a:(g==k)=false:=RD.mpr h;erw[List.lookup,a];exact d
theorem jJ(f:Str)(v:V):∀b:List (Str×V),f∈(eL f v b).map (·.1)/\∀g,g∈b.map (·.1)->g∈(eL f v b).map (·.1)
 | []=>⟨by simp[eL],λ g h=>by simp at h⟩
 |(k,x)::r=>by
  let⟨d,c⟩:=jJ f v r;rw[show eL f v ((k,x)::r)=(if k=f then (k,v)::r else (k,x)::eL f v r) from rfl]
  by_cases a:k=f
  .rw[Qn a];subst a;exact⟨by simp,λ g h=>by simpa using h⟩
  .rw[Qu a];refine⟨?_,λ g h=>?_⟩
   .rw[QF];exact QC _ d
   .rw[QF] at h ⊢;rcases Qv.mp h with e | e
    .exact Qv.mpr (.inl e)
    .exact QC _ (c g e)
theorem j6(f:Str)(v:V):∀b:List (Str×V),(eL f v b).length<=b.length+1
 | []=>by simp[eL]
 |(k,x)::r=>by
  have c:=j6 f v r;rw[show eL f v ((k,x)::r)=(if k=f then (k,v)::r else (k,x)::eL f v r) from rfl]
  by_cases a:k=f
  .rw[Qn a,QO,QO];omega
  .rw[Qu a,QO,QO];omega
theorem fQ.some_of{v:V}{o:Option Value}(r:fQ (some v) o):∃u,o=some u/\RelV v u:=by
 cases o with
 |none=>exact(show False from r).elim
 |some u=>exact⟨u,rfl,r⟩
theorem fQ.none_of{o:Option Value}(r:fQ none o):o=none:=by
 cases o with
 |none=>rfl
 |some u=>exact(show False from r).elim
theorem nR{v:V}{u:Value}(r:RelV v u):PySem.W.handedIn u=true:=by
 cases v with
 |non=>cases (show u=Value.none from r);rfl
 |bl b=>cases (show u=Value.bool b from r);rfl
 |int i=>let⟨t,e⟩:=(show ∃t,u=Value.int i t from r);cases e;rfl
 |str x=>let⟨t,e⟩:=(show ∃t,u=Value.str x t from r);cases e;rfl
 |byt b=>let⟨t,e⟩:=(show ∃t,u=Value.bytes b t from r);cases e;rfl
 |gR b=>let⟨t,e⟩:=(show ∃t,u=Value.float b t from r);cases e;rfl
 |ref a=>cases (show u=Value.ref a from r);rfl
 |ty n=>cases (show u=Value.type n from r);rfl
section
variable{P:Program}{w:World}{H H':Hp}{h h':Heap}{a C dx:Addr}{fs fs':List (Str×V)}
theorem BR(c:gb P w H h)(e:H a=@(.ins C dx fs)):∃b,qO h a dx C b/\(∀f,fQ (fs.lookup f) (b f))/\PySem.Within b (fs.map (·.1))/\fs.length<=1000/\H dx=some (.own a):=by
 let⟨d,z,i,g,b,n,r,q⟩:=(show bA P w H h a (.ins C dx fs) from c a _ e);exact⟨b,⟨g,n,i⟩,r,q,z,d⟩
end
structure yt(K:ae)(C:Addr):Prop where
 pg:PySem.W.plainGet K C Str.empty=true
 hd:PySem.W.hasDictIn K C=true
 po:PySem.W.plainOver K C=true
 sa:PySem.W.findIn K (.ref C) "__setattr__"=@(some (.builtin "object.__setattr__"))
theorem yt.get{K:ae}(c:yt K C)(f:Str):PySem.W.plainGet K C f=true:=c.pg
def gW(K:ae)(C:Addr)(f:Str):Prop:=PySem.W.findIn K (.ref C) f=some none
theorem gW.JZ{K:ae}{f:Str}(n:gW K C f):PySem.W.takerIn K C f=some none:=by
 unfold PySem.W.takerIn;rw[show PySem.W.findIn K (.ref C) f=some none from n];rfl
structure Meth(K:ae)(C:Addr)(m:Str)(f:Addr):Prop where
 at_:PySem.W.findIn K (.ref C) m=@(some (.ref f))
 fn:PySem.W.isFn K (.ref f)=true
 kp:PySem.W.keepIn K (.ref f)=true
section
variable{X:Cx}{aa:List (Addr×Obj)}{Y:St}{H:Hp}{s:Shared}{a C dx:Addr}{fs:List (Str×V)}{f:Str}{v:V}{A:Around}{E:Value->Shared->Prop}
theorem tH{y:V}{u:Value}{Q:Unit->Shared->Prop}(I:Inv X aa Y H s)(e:H a=@(.ins C dx fs))(c:yt X.K C)(n:gW X.K C f)(L:fs.length<1000)(p:RelV y u)
  (h:∀j,Inv X aa Y (upd H a (.ins C dx (eL f y fs))) j->Q () j):wpAny (model X.prog X.w) A (setAttr (.ref a) f u) Q E s:=by
 let⟨k,O,r,i,_,l⟩:=BR I.hok e;have t:(fs.map (·.1)).length<=sizeLine:=by rw[Qq,RP];omega
 refine BQ I.fR O c.sa c.po n.JZ c.hd i t λ G d m=>h _ ?_;have D:∃o,G.get? dx=some o:=let ⟨o,_,_,J,_⟩:=d.ns;⟨o,J⟩;refine I.write (x:=a) (e:=dx) (by rw[e];exact True.intro) (.inr l) (λ b q F z=>(m.2 b F).trans z) D ?_;refine⟨by rw[aq O.ne];exact l,?_,O.ne,d.obj,_,d.ns,λ g=>?_,λ g B=>?_⟩
 .have:=j6 f y fs;omega
 .show fQ ((eL f y fs).lookup g) (if g=f then some u else k g);rw[j5]
  by_cases q:g=f
  .rw[Qn q,Qn q];exact p
  .rw[Qu q,Qu q];exact r g
 .by_cases q:g=f
  .rw[q];exact(jJ f y fs).1
  .refine(jJ f y fs).2 g (i g λ z=>B ?_);show (if g=f then some u else k g)=none;rw[Qu q];exact z
theorem Inv.made(I:Inv X aa Y H s):Inv X aa Y (upd (upd H s⁻¹ (.own (s⁻¹+1))) (s⁻¹+1) (.ins C s⁻¹ []))
  {s with heap:=(s.heap.push PySem.W.emptyDict).push (PySem.W.instObj C s⁻¹)}:=by
 have d:(s.heap.push PySem.W.emptyDict).get? s⁻¹=some PySem.W.emptyDict:=Qp s.heap rfl;have j:((s.heap.push PySem.W.emptyDict).push (PySem.W.instObj C s⁻¹)).get? (s⁻¹+1)=some (PySem.W.instObj C s⁻¹):=by
  have:=Qp (s.heap.push PySem.W.emptyDict) (o:=PySem.W.instObj C s⁻¹) rfl
  rwa [RA] at this
 have i:(s.heap.push PySem.W.emptyDict).Ns s⁻¹ (λ _=>none):=⟨PySem.W.emptyDict,#[],_,d,rfl,(λ e h=>absurd h 's'),λ _=>rfl⟩;have k:=I.laid (a:=s⁻¹) (o:=.own (s⁻¹+1)) (h':=s.heap.push PySem.W.emptyDict) (t':=s.toks) (λ b u q=>Qd _ q) (Qf _) ⟨_,d⟩;refine k.laid (a:=s⁻¹+1) (o:=.ins C s⁻¹ []) (t':=s.toks) (λ b u q=>Qd _ q) (UI (RA _ _)) ?_;have c:s⁻¹≠s⁻¹+1:=Qo (RV _);refine⟨by rw[aq c,aB],RB _,c,j,λ _=>none,(Heap.Ns1.of_empty i).at λ o q=>Qd _ q,λ _=>True.intro,λ y g=>absurd rfl g⟩
theorem uU{prog:Program}{w:World}{env:Env}{e:Expr}{pos:Pos}{Q:Value->Shared->Prop}(c:attributeBase e f env (eval e env)=eval e env)
  (h:wpAny (model prog w) A (eval e env) (λ o b=>wpAny (model prog w) A (getAttr o f true) Q E b) E s):wpAny (model prog w) A (eval (.Attribute e f pos) env) Q E s:=
 Attribute_any_ h (by rw[arm_eval_Attribute,c])
end
def ML(K:ae)(ta e:TE)(f:Str):TS:=λ D Y H=>e Y H λ y g=>ta Y g λ x d=>∃a C c b,x=.ref a/\d a=some (.ins C c b)/\yt K C/\gW K C f/\b.length<1000/\
 D.nx Y (upd d a (.ins C c (eL f y b)))
section
variable{X:Cx}{o e value:Expr}{f:Str}{pos pos' tpos:Pos}{ta tv:TE}
theorem FQ(r:PE X o ta)(m:PE X value tv)(p:swapsWith value @(.Attribute o f pos') pos.line X.env=pure false):PS X (.Assign [.Attribute o f pos'] value pos) (ML X.K ta tv f):=by
 intro b s Y H D I h;refine S6 (bP (m b s Y H _ I h) λ u d ⟨y,B,A,g,q⟩=>bP (r b d Y B _ A q) λ k F ⟨x,L,z,i,a,C,J,G,t,v,c,n,l,j⟩=>?_) p;subst t;obtain rfl:k=Value.ref a:=i;exact tH z v c n l g λ E w=>⟨Y,_,w,j⟩
end
end L2
namespace L2
open PySem PySem.Spec PyProof.Rows List
variable{C f:Addr}{H:Hp}{K:ae}{P:Program}{Q:VK}{kindOf:Str->Option NameKind}{kw:List (Str×Value)}{mg:Str->Option Value}{s:Shared}{us:List Value}{vs:List V}{w:World}
structure bV(k:Nat)(A:Around):Prop where
 hd:A.handled=none
 dp:A.depth+3*k+5<recursionLimit
 un:A.units+16*k+200<cLine
 gd:A.guards=some []:=by rfl
theorem bV.mono{j k:Nat}{A:Around}(r:bV k A)(h:j<=k):bV j A:=⟨r.hd,by have:=r.dp;omega,by have:=r.un;omega,r.gd⟩
theorem bV.deeper{k:Nat}{A:Around}(r:bV (k+1) A)(env:Env):bV k (A.deeper env):=
 ⟨r.hd,by have:=r.dp;show A.depth+1+3*k+5<_;omega,by have:=r.un;show A.units+3+16*k+200<_;omega,r.gd⟩
theorem tK{A:Around}:(A.under (.builtin "type.__call__" ⟨.ref C::us,kw⟩)).depth=A.depth+1:=by
 first | rfl | simp[Around.under,Code.weight,Code.isCreation,Code.isGuard,Code.isCaller,Code.frames,Code.isFrame,guardIds]
theorem tM{A:Around}:(A.under (.builtin "type.__call__" ⟨.ref C::us,kw⟩)).units=A.units+1:=by
 first | rfl | simp[Around.under,Code.cUnits,Code.frames,Code.isFrame]
theorem qQ{A:Around}:(A.under (.builtin "type.__call__" ⟨.ref C::us,kw⟩)).guards=A.guards:=by
 first | rfl | (simp[Around.under,Code.guards,Code.isGuard,guardIds,pushGuards];done) | (cases h:A.guards<;>simp[Around.under,Code.guards,Code.isGuard,guardIds,pushGuards,h])
theorem bV.make{k:Nat}{A:Around}(r:bV (k+1) A)(C:Addr)(us:List Value)(kw:List (Str×Value)):bV k (A.under (.builtin "type.__call__" ⟨.ref C::us,kw⟩)):=
 ⟨r.hd,by have:=r.dp;rw[tK];omega,by have:=r.un;rw[tM];omega,by rw[qQ];exact r.gd⟩
theorem bV.depth{k:Nat}{A:Around}(r:bV k A):A.depth<recursionLimit:=by have:=r.dp;omega
theorem bV.units{k:Nat}{A:Around}(r:bV k A):A.units+64<cLine:=by have:=r.un;omega
def yT:TA:=λ _ H Q=>Q [] H
def yU(ta:TE)(b:TA):TA:=fun Y H Q=>ta Y H λ x d=>b Y d λ a c=>Q (x::a) c
section
variable{X:Cx}{e:Expr}{es:List Expr}{te:TE}{t:TA}{pos:Pos}
theorem gB:PA X [] yT:=λ _ _ _ _ H Q I h=>Calls.spliced_nil ⟨[],H,I,.nil,h⟩
theorem dm(m:PE X e te)(l:PA X es t)(k:starEach (e::es) X.env=(false,eval e X.env)::starEach es X.env:=by rfl):PA X (e::es) (yU te t):=by
 intro pos a s Y H Q I h;rw[k];show wpAny _ _ (spliced ((false,eval e X.env)::backTo pos (starEach es X.env))) _ _ s;refine Calls.spliced_cons (bP (m a s Y H _ I h) λ u c ⟨x,q,o,g,j⟩=>?_);exact bP (l pos a c Y q _ o j) λ us r ⟨b,p,n,d,i⟩=>⟨x::b,p,n,.cons g d,i⟩
def MN(t:TA):TE:=fun Y H Q=>t Y H λ a b=>a.length<=sizeLine/\∀p,b p=none->Q (.ref p) (upd b p (.tup a))
def MO(t:TA):TE:=fun Y H Q=>t Y H λ a b=>a.length<=sizeLine/\∀p,b p=none->Q (.ref p) (upd b p (.lst a))
theorem yV{i}(h:PA X es t):PE X (.Tuple es i pos) (MN t):=by
 intro l s Y H Q I j;refine wpAny_Tuple_spliced (bP (h pos l s Y H _ I j) λ us a ⟨g,d,c,r,z,q⟩=>⟨by rw[<-r.length];exact z,?_⟩);have k:d a⁻¹=none:=c.hok.fresh (Qf _);refine⟨.ref a⁻¹,upd d a⁻¹ (.tup g),c.laid (t':=a.toks) (λ b u e=>Qd _ e) (Qf _) ?_,rfl,q _ k⟩;exact⟨z,us,r,⟨_,Qp _ rfl,rfl,_,rfl⟩⟩
theorem FT(h:PA X es t):PE X (.List es pos) (MO t):=by
 intro k s Y H Q I i;refine wpAny_List_spliced (bP (h pos k s Y H _ I i) λ us a ⟨g,d,c,r,z,q⟩=>⟨by rw[<-r.length];exact z,?_⟩);have j:d a⁻¹=none:=c.hok.fresh (Qf _);refine⟨.ref a⁻¹,upd d a⁻¹ (.lst g),c.laid (t':=a.toks) (λ b u e=>Qd _ e) (Qf _) ?_,rfl,q _ j⟩;exact⟨z,us,0,r,Qp _ rfl⟩
end
abbrev Sp:=List V->Hp->VK->XK->Prop
abbrev uV:=List Env->Hp->Shared->XK->Value->Shared->Prop
structure tN(P:Program)(w:World)(K:ae)(mg:Str->Option Value)(base:Heap)(A:Around)(outer:List Env)(s:Shared)(H:Hp):Prop where
 frames:A.frames=some outer
 mod:Mod K mg base
 bs:∀b o,base.get? b=some o->s.heap.get? b=some o/\H b=none
 bsz:base.objs.size<=s⁻¹
 iZ:s.heap.FunFrames base outer
 frf:∀b∈frs outer,H b=none
 hok:gb P w H s.heap
 bare:AllBare s.gens
def CE(outer:List Env)(P:Program)(w:World)(H:Hp)(s:Shared)(Q:VK)(u:Value)(a:Shared):Prop:=
 ∃v b,a.os=s.os/\AllBare a.gens/\Un (frs outer) [] H b s.heap a.heap/\gb P w b a.heap/\RelV v u/\Q v b
def CR(CX:uV)(outer:List Env)(P:Program)(w:World)(H:Hp)(s:Shared)(Q:VK)(E:XK)(r:Result)(a:Shared):Prop:=
 match r with
 |.ok (.ret u)=>CE outer P w H s Q u a
 |.ok _=>False
 |.error e=>CX outer H s E e a
structure cg(P:Program)(w:World)(K:ae)(mg:Str->Option Value)(base:Heap)(CX:uV)(k:Nat)(f:Addr)(fd:FuncData)(ps:List Str)(sp:Sp):Prop where
 len:∀vs H Q E,sp vs H Q E->vs.length=ps.length
 run:∀(A:Around) (outer:List Env) (s:Shared) (H:Hp) (args:Args) (us:List Value) (vs:List V) (Q:VK) (E:XK),bV k A->tN P w K mg base A outer s H->BindsTo s fd args (ps.zip us)->Vals vs us->sp vs H Q E->
  codeAny (model P w) A (.call (.ref f) args) (CR CX outer P w H s Q E) s
theorem cg.imp{base:Heap}{CX:uV}{k:Nat}{d:FuncData}{c:List Str}{sp e:Sp}(F:cg P w K mg base CX k f d c sp)
  (h:∀vs H Q E,e vs H Q E->sp vs H Q E):cg P w K mg base CX k f d c e:=
 ⟨λ vs H Q E q=>F.len vs H Q E (h _ _ _ _ q),λ A a s H b us vs Q E j l m g i=>F.run A a s H b us vs Q E j l m g (h _ _ _ _ i)⟩
theorem tN.make{base:Heap}{A:Around}{outer:List Env}(e:tN P w K mg base A outer s H)(C:Addr)(us:List Value)(kw:List (Str×Value)) :
  tN P w K mg base (A.under (.builtin "type.__call__" ⟨.ref C::us,kw⟩)) outer s H:=⟨by first | exact e.frames | (simpa[Around.under,Code.envs,Code.isFrame,pushEnvs] using e.frames),e.mod,e.bs,e.bsz,e.iZ,e.frf,e.hok,e.bare⟩
section
variable{X:Cx}{aa:List (Addr×Obj)}{Y:St}{H:Hp}{s s':Shared}
theorem Inv.yW(I:Inv X aa Y H s):tN X.prog X.w X.K X.mg X.base X.A X.stack s H:=
 ⟨I.ok.frames,I.ok.mod,I.bs,Qk I.ok.bsz I.sz,I.stack,I.kN,I.hok,I.bare⟩
theorem Inv.after{u:Value}(I:Inv X aa Y H s)(h:CE X.stack X.prog X.w H s Q u s'):EP X aa Y Q u s':=by
 let⟨v,l,j,a,i,e,r,q⟩:=h;let⟨k,g,d,t,c⟩:=s';obtain rfl:c=s.os:=j;exact⟨v,l,I.call (h':=k) (g':=g) (d':=d) (t':=t) (ch:=[]) i e a (λ b z=>absurd z 's'),r,q⟩
end
def DZ(sp:Sp)(a:List V)(E:XK)(t:TA):TE:=fun Y H Q=>t Y H λ vs b=>sp (vs++a) b Q E
def J0(C:Addr)(sp:Sp)(c:List V)(E:XK)(t:TA):TE:=fun Y H Q=>t Y H λ vs b=>∀x a,b x=none->b a=none->a≠x->
 sp (.ref x::(vs++c)) (upd (upd b a (.own x)) x (.ins C a [])) (λ v d=>v=.non/\Q (.ref x) d) E
def Binds(K:ae)(c:FuncData)(a:List Str)(b:List Value):Prop:=
 ∀(s:Shared) (us:List Value),K.In s.heap->(us++b).length=a.length->BindsTo s c ⟨us,[]⟩ (a.zip (us++b))
theorem Binds.all{c:FuncData}{a:List Str}(h:∀us:List Value,us.length=a.length->bindArgs c ⟨us,[]⟩=pure (a.zip us)):Binds K c a []:=λ s us _ b=>by
 rw[Rm] at b ⊢;exact .of_eq (h us b)
def Passes(CX:uV)(X:Cx)(E:XK):Prop:=∀(b:List (Addr×Obj)) (Y:St) (H:Hp) (s:Shared) (e:Value) (a:Shared),Inv X b Y H s->CX X.stack H s E e a->X.xe e a
section
variable{X:Cx}{CX:uV}{k:Nat}{f C:Addr}{fd:FuncData}{ps:List Str}{sp:Sp}{iP:List V}{ds:List Value}{E:XK}{x m:Str}{p pos apos:Pos}{e o:Expr}{es:List Expr}{ta:TE}{t:TA}
theorem pF{b:List (Addr×Obj)}{Y:St}(F:cg X.prog X.w X.K X.mg X.base CX k f fd ps sp)(i:bV k X.A)(n:Binds X.K fd ps ds)(l:Vals iP ds)(g:Passes CX X E)
  (I:Inv X b Y H s) (r:Vals vs us) (h:sp (vs++iP) H Q E):wpAny (model X.prog X.w) X.A (call (.ref f) us) (EP X b Y Q) X.xe s:=by
 have c:Vals (vs++iP) (us++ds):=r.append l;have j:(us++ds).length=ps.length:=by rw[<-c.length];exact F.len _ _ _ _ h
 refine TJ (Rz (F.run X.A X.stack s H ⟨us,[]⟩ (us++ds) (vs++iP) Q E i I.yW (n s us I.fR j) c h) λ r d a=>?_);cases r with
 |error e=>exact g b Y H s e d I a
 |ok q=>
  cases q with
  |ret u=>exact I.after a
  |next=>exact False.elim a
  |brk=>exact False.elim a
  |cont=>exact False.elim a
theorem BS(F:cg X.prog X.w X.K X.mg X.base CX k f fd ps sp)(g:bV k X.A)(l:Gl X x)(i:X.mg x=@(.ref f))(j:PySem.W.keepIn X.K (.ref f)=true)(v:Binds X.K fd ps ds)(u:Vals iP ds)(d:Passes CX X E)
  (y:PA X (e::es) t) (b:(x==("__debug__":Str))=false:=by decide) (n:starEach (e::es) X.env=(false,eval e X.env)::starEach es X.env:=by rfl) (a:(backTo pos (starEach es X.env)).any (·.1)=false:=by rfl) :
  PE X (.Call (.Name x p) (e::es) [] pos) (DZ sp iP E t):=by
 intro z s Y H Q I h;refine Q4 (dR I l i ?_ b);refine Rw (h₀:=X.base) I.ok.mod.kin j (bP (y pos z s Y H _ I h) λ us B ⟨vs,D,c,r,q⟩=>⟨c.fR,?_⟩) n a;exact pF F g v u d c r q
theorem yX(F:cg X.prog X.w X.K X.mg X.base CX k f fd ps sp)(c:bV k X.A)(i:Gl X x)(d:X.mg x=@(.ref f))(g:PySem.W.keepIn X.K (.ref f)=true)(l:Binds X.K fd ps ds)(j:Vals iP ds)(b:Passes CX X E)
  (a:(x==("__debug__":Str))=false:=by decide):PE X (.Call (.Name x p) [] [] pos) (DZ sp iP E yT):=by
 intro n s Y H Q I h;refine Q4 (dR I i d ?_ a);exact PySem.W.callWith_K0 I.fR g (pF (us:=[]) F c l j b I .nil h)
structure Mk(K:ae)(C f:Addr):Prop where
 makes:PySem.W.makesIn K C=true
 init:PySem.W.findIn K (.ref C) "__init__"=@(some (.ref f))
 fn:PySem.W.isFn K (.ref f)=true
 kp:PySem.W.keepIn K (.ref C)=true
theorem yY{c:List (Addr×Obj)}{Y:St}(M:Mk X.K C f)(F:cg X.prog X.w X.K X.mg X.base CX k f fd ps sp)(q:bV (k+1) X.A)(B:Binds X.K fd ps ds)(z:Vals iP ds)
  (n:Passes CX X E) (I:Inv X c Y H s) (r:Vals vs us)
  (h:∀x dx,H x=none->H dx=none->dx≠x->sp (.ref x::(vs++iP)) (upd (upd H dx (.own x)) x (.ins C dx [])) (λ v L=>v=.non/\Q (.ref x) L) E) :
  wpAny (model X.prog X.w) X.A (call (.ref C) us) (EP X c Y Q) X.xe s:=by
 have g:=h (s⁻¹+1) s⁻¹ (I.hok.fresh (Ru _)) (I.hok.fresh (Qf _)) (Qo (RV _));have b:=Inv.made (C:=C) I;have d:Vals (V.ref (s⁻¹+1)::(vs++iP)) (Value.ref (s⁻¹+1)::(us++ds)):=.cons rfl (r.append z);have y:(Value.ref (s⁻¹+1)::us++ds).length=ps.length:=by
  have e:=d.length;rw[F.len _ _ _ _ g] at e;exact e.symm
 refine TJ (qP (f:=f) I.fR M.makes M.init (Q6.mp M.fn) (Rz (F.run _ X.stack _ _ ⟨Value.ref (s⁻¹+1)::us,[]⟩ (Value.ref (s⁻¹+1)::(us++ds)) _ _ E (q.make C us [])
  (b.yW.make C us []) (B _ (Value.ref (s⁻¹+1)::us) b.fR y) d g) λ r i a=>?_))
 cases r with
 |error e=>exact n c Y _ _ e i b a
 |ok D=>
  cases D with
  |ret u=>
   let⟨v,N,J,j,G,l⟩:=b.after a;subst G;exact⟨j,⟨V.ref (s⁻¹+1),N,J,rfl,l⟩⟩
  |next=>exact False.elim a
  |brk=>exact False.elim a
  |cont=>exact False.elim a
theorem BU(M:Mk X.K C f)(F:cg X.prog X.w X.K X.mg X.base CX k f fd ps sp)(g:bV (k+1) X.A)(j:Gl X x)(i:X.mg x=@(.ref C))(u:Binds X.K fd ps ds)(n:Vals iP ds)(d:Passes CX X E)
  (v:PA X (e::es) t) (b:(x==("__debug__":Str))=false:=by decide) (l:starEach (e::es) X.env=(false,eval e X.env)::starEach es X.env:=by rfl) (a:(backTo pos (starEach es X.env)).any (·.1)=false:=by rfl) :
  PE X (.Call (.Name x p) (e::es) [] pos) (J0 C sp iP E t):=by
 intro y s Y H Q I h;refine Q4 (dR I j i ?_ b);refine Rw (h₀:=X.base) I.ok.mod.kin M.kp (bP (v pos y s Y H _ I h) λ us z ⟨vs,B,c,r,q⟩=>⟨c.fR,?_⟩) l a;exact yY M F g u n d c r q
end
structure gC(N P:List Str)(sc:Scope):Prop where
 kind:sc.kind=.function
 co:sc.isCoroutine=false
 gen:sc.isGenerator=false
 nd:N.Nodup
 pre:N.take P.length=P
 par:∀x∈P,sc.names.lookup x=some .local\/sc.names.lookup x=some .cell
 nofree:∀y∈sc.names,y.2≠.free
theorem nS{x:Str}:∀{a:List (Str×Value)} {m:Str->Option Value},(∀v,(x,v)∉a)->bindL kindOf a m x=m x
 | [],_,_=>rfl
 |(n,v)::r,m,h=>by
  unfold bindL;rw[nS λ w hw=>h w (QC _ hw)];split
  .have:x≠n:=by rintro rfl;exact h v QM
   simp[this]
  .rfl
theorem nU{x:Str}:∀{a:List (Str×Value)} {m:Str->Option Value},(∀v,(x,v)∉a)->bindC kindOf a m x=m x
 | [],_,_=>rfl
 |(n,v)::r,m,h=>by
  unfold bindC;rw[nU λ w hw=>h w (QC _ hw)];split
  .rfl
  .have:x≠n:=by rintro rfl;exact h v QM
   simp[this]
theorem nV{x:Str}{v:Value}:∀{P:List Str} {vs:List Value} {i:Nat} {m:Str->Option Value},P.Nodup->P[i]?=some x->vs[i]?=some v->kindOf x=some .local->
  bindL kindOf (P.zip vs) m x=some v
 | [],_,_,_,_,h,_,_=>by simp at h
 |_::_,[],_,_,_,_,h,_=>by simp at h
 |p::P,w::vs,0,m,nd,b,a,c=>by
  simp at b a;subst b;subst a;show bindL kindOf ((p,w)::P.zip vs) m p=_;unfold bindL;rw[nS λ v d=>(SH.mp nd).1 (of_mem_zip d).1,Qn c];simp
 |p::P,w::vs,i+1,m,nd,b,a,c=>by
  show bindL kindOf ((p,w)::P.zip vs) m x=_;unfold bindL;exact nV (i:=i) (SH.mp nd).2 (~~~b) (~~~a) c
theorem nW{x:Str}{v:Value}:∀{P:List Str} {vs:List Value} {i:Nat} {m:Str->Option Value},P.Nodup->P[i]?=some x->vs[i]?=some v->kindOf x≠some .local->
  bindC kindOf (P.zip vs) m x=some v
 | [],_,_,_,_,h,_,_=>by simp at h
 |_::_,[],_,_,_,_,h,_=>by simp at h
 |p::P,w::vs,0,m,nd,b,a,c=>by
  simp at b a;subst b;subst a;show bindC kindOf ((p,w)::P.zip vs) m p=_;unfold bindC;rw[nU λ v d=>(SH.mp nd).1 (of_mem_zip d).1,Qu c];simp
 |p::P,w::vs,i+1,m,nd,b,a,c=>by
  show bindC kindOf ((p,w)::P.zip vs) m x=_;unfold bindC;exact nW (i:=i) (SH.mp nd).2 (~~~b) (~~~a) c
def start(N:List Str)(vs:List V):St:=vs.map some++List.replicate (N.length - vs.length) none
def jc(CX:uV)(P:Program)(w:World)(K:ae)(mg:Str->Option Value)(base:Heap)(N:List Str)(qual:Str)(scope:Scope)(f:Addr)(cd:Value)(A:Around)(outer:List Env)(s:Shared)(H:Hp)(E:XK):Cx where
 prog:=P
 w:=w
 K:=K
 mg:=mg
 base:=base
 A:=A.deeper (envOfC qual scope s⁻¹ f cd)
 N:=N
 s₀:=s
 H₀:=H
 env:=envOfC qual scope s⁻¹ f cd
 outer:=outer
 stack:=envOfC qual scope s⁻¹ f cd::outer
 ex:=[]
 calm:=true
 fn:=λ _=>true
 pn:=[]
 xe:=λ e b=>wpAny (model P w) (A.deeper (envOfC qual scope s⁻¹ f cd)) (leaving (envOfC qual scope s⁻¹ f cd) e) (λ _ a=>CX outer H s E e a) (λ c a=>CX outer H s E c a) b
theorem qR{a:Scope}{n:Nat}{x:Str}(h:a.names.lookup x=some .cell):∃c,(cellsFrom n a.names []).lookup x=some c:=by
 have q:=S0 a.names n [] (.inl h);exact RS.mp q
theorem wR{CX:uV}{base:Heap}{N j:List Str}{qual:Str}{scope:Scope}{B:Value}{A:Around}{outer:List Env}{F:Shared}{E:XK}
  (S:gC N j scope) (O:A.handled=none) (g:tN P w K mg base A outer s H) (U:vs.length=j.length) (r:Vals vs us)
  (x:InCallC s s⁻¹ (bindL (envOfC qual scope s⁻¹ f B).kindOf (j.zip us) λ _=>none) (cellsFrom (s⁻¹+1) scope.names []) (bindC (envOfC qual scope s⁻¹ f B).kindOf (j.zip us) λ _=>none) F) :
  Inv (jc CX P w K mg base N qual scope f B A outer s H E) [] (start N vs) H F:=by
 have M:j.length<=N.length:=by have:=RU List.length S.pre;rw[Rf] at this;omega
 let⟨t,T,rfl,I⟩:=x.done;have D:∀b:Addr,b∉(jc CX P w K mg base N qual scope f B A outer s H E).ex:=λ b z=>absurd (show b∈([]:List Addr) from z) 's';refine⟨⟨g.mod,S.kind,rfl,rfl,Qf _,λ y z c t d=>?_,λ y l=>?_,λ y c _ h=>?_,λ _=>O,Around.frames_deeper g.frames,.inr ⟨rfl,rfl⟩,λ b z=>absurd z (D b),g.bs,g.bsz,λ b _ _=>D b,λ b z=>absurd z (D b),g.iZ,g.frf⟩,
  rfl,g.bare,Un.kept I,⟨_,x.toInCall.ns,λ i y v t d X=>?_⟩,λ y c h=>⟨_,x.cell y c h⟩,g.hok.fresh (Qf _),λ y c h=>?_,λ p m=>absurd (show p∈([]:List (Addr×Obj)) from m) 's',g.hok.kept I,?_⟩
 .exact name_of_addr x.apart (QT t) (QT d)
 .have l:scope.names.lookup y=some .cell\/scope.names.lookup y=some .free:=l;rcases l with l | l
  .exact qR l
  .exact absurd rfl (S.nofree _ (QT l))
 .exact Rl (x.above y c (QT h))
 .have o:i<vs.length:=by
   unfold start at d
   by_cases o:i<vs.length
   .exact o
   .rw[Qy (~~~o)] at d;rw[getElem?_replicate] at d;split at d<;>cases d
  have R:vs[i]?=some v:=by
   unfold start at d;rw[Qh (~~~o),S1] at d;cases e:vs[i]? with
   |none=>rw[e] at d;cases d
   |some a=>rw[e] at d;cases d;rfl
  let⟨u,G,L⟩:=r.get R;have m:j[i]?=some y:=by
   rw[<-S.pre,RT 'o'];exact t
  have J:j.Nodup:=by rw[<-S.pre];exact S.nd.sublist (take_sublist _ _)
  refine⟨u,L,?_⟩;rcases S.par y (QW m) with k | k
  .exact .inl ⟨k,nV J m G k⟩
  .let⟨c,e⟩:=qR (n:=s⁻¹+1) k;refine .inr ⟨.inl k,c,e,?_⟩;have q:=x.cell y c e;rw[nW J m G (by show scope.names.lookup y≠_;rw[k];decide)] at q;exact q
 .exact g.hok.fresh (Rl (x.above y c (QT h)))
 .unfold start;show _=N.length;rw[QU,Qq,length_replicate];omega
theorem D0{CX:uV}{base:Heap}{k:Nat}{name qual:Str}{c:Arguments}{body:List Stmt}{scope:Scope}{Y X B U a ct oc:Value}{an od:Option Addr}
  {J:Array (Option Value)} {N D:List Str} {sp:Sp} (lk:K.lookup f=some ⟨oc,od,.func (PySem.W.fnOf name qual c body scope Y X B U an a ct),J⟩) (O:PySem.W.codeIn K a qual=true) (S:gC N D scope)
  (m:∀vs H Q E,sp vs H Q E->vs.length=D.length)
  (j:∀(A:Around) (outer:List Env) (s:Shared) (H:Hp) (vs:List V) (Q:VK) (E:XK),bV k (A.deeper (envOfC qual scope s⁻¹ f a))->sp vs H Q E->
   ∃t,iE (jc CX P w K mg base N qual scope f a A outer s H E) body t/\t {nx:=λ _ h=>Q .non h,rt:=Q} (start N vs) H) :
  cg P w K mg base CX (k+1) f (PySem.W.fnOf name qual c body scope Y X B U an a ct) D sp:=by
 refine⟨m,λ A outer s H Z us vs Q E M z hb r R=>?_⟩;have hl:=m _ _ _ _ R;have KX:K.In s.heap:=z.mod.kin.keeps λ b o e=>(z.bs b o e).1;have L:s.heap.NoLimit:=z.mod.nolimit.keeps λ b o e=>(z.bs b o e).1;have i:∀y∈D.zip us,scope.names.lookup y.1=some .local\/(scope.names.lookup y.1=some .cell/\((cellsFrom (s⁻¹+1) scope.names []).lookup y.1).isSome=true):=λ ⟨n,v⟩ hy=>by
  rcases S.par n (of_mem_zip hy).1 with q | q
  .exact .inl q
  .exact .inr ⟨q,S0 _ _ _ (.inl q)⟩
 refine codeAny_call_function M.depth (KX _ _ lk) rfl S.co S.gen rfl (PySem.W.codeRec_of KX O) (hb _ _ _ _ ?_);refine wpAny_newFunctionEnv_cells S.kind i λ env he T x=>?_;subst he;refine⟨L.keeps x.toInCall.keep,codeAny_func ?_⟩;let⟨t,ht,hq⟩:=j A outer s H vs Q E (M.deeper _) R;have I:Inv (jc CX P w K mg base N qual scope f a A outer s H E) [] (start N vs) H T:=wR S M.hd z hl r x;refine Qw (ht [] T (start N vs) H _ I hq) (λ fl F l=>?_) λ e F l=>l;have p:∀{d:St} {h:Hp} {v:V} {u:Value},Inv (jc CX P w K mg base N qual scope f a A outer s H E) [] d h F->RelV v u->Q v h->CE outer P w H s Q u F:=
  λ {d h v u} g G q=>⟨v,h,g.os,g.bare,g.base,g.hok,G,q⟩
 cases fl with
 |ret u=>
  let⟨v,d,h,g,G,q⟩:=l;exact p g G q
 |next=>
  let⟨d,h,g,q⟩:=l;exact p (v:=V.non) (u:=Value.none) g rfl q
 |brk=>
  let⟨_,_,_,q⟩:=l;exact False.elim q
 |cont=>
  let⟨_,_,_,q⟩:=l;exact False.elim q
end L2
namespace L2
open PySem PySem.Spec PyProof.Rows List
section
variable{X:Cx}{x:Str}{p pos:Pos}{e:Expr}{es:List Expr}{t:TA}{id T:String}{r:List V->Hp->VK->Prop}
def MP(r:List V->Hp->VK->Prop)(t:TA):TE:=fun Y H Q=>t Y H λ a b=>r a b Q
theorem lG(q:cG X (.builtin id) r)(n:Gl X x)(m:X.mg x=none)(k:bootBuiltins x=@(.builtin id))(u:PA X (e::es) t)(l:x≠"__name__":=by decide)(b:(x==("__debug__":Str))=false:=by decide)
  (o:starEach (e::es) X.env=(false,eval e X.env)::starEach es X.env:=by rfl) (a:(backTo pos (starEach es X.env)).any (·.1)=false:=by rfl):PE X (.Call (.Name x p) (e::es) [] pos) (MP r t):=by
 intro c s Y H Q I h;refine Q4 (i6 I n m k ?_ l b);exact PyProof.Rows.callWith_builtin1 (bP (u pos c s Y H _ I h) λ f g ⟨d,w,v,i,j⟩=>q c g Y w d f Q v i j) o a
theorem wU(q:cG X (.type T) r)(n:Gl X x)(m:X.mg x=none)(k:bootBuiltins x=@(.type T))(u:PA X (e::es) t)(l:x≠"__name__":=by decide)(b:(x==("__debug__":Str))=false:=by decide)
  (o:starEach (e::es) X.env=(false,eval e X.env)::starEach es X.env:=by rfl) (a:(backTo pos (starEach es X.env)).any (·.1)=false:=by rfl):PE X (.Call (.Name x p) (e::es) [] pos) (MP r t):=by
 intro c s Y H Q I h;refine Q4 (i6 I n m k ?_ l b);exact RE (bP (u pos c s Y H _ I h) λ f g ⟨d,w,v,i,j⟩=>q c g Y w d f Q v i j) o a
theorem tP(g:cG X (.type T) r)(f:Gl X x)(d:X.mg x=none)(b:bootBuiltins x=@(.type T))(c:x≠"__name__":=by decide)(a:(x==("__debug__":Str))=false:=by decide) :
  PE X (.Call (.Name x p) [] [] pos) (MP r yT):=by
 intro i s Y H Q I h;refine Q4 (i6 I f d b ?_ c a);exact PyProof.Rows.callWith_type0 (g i s Y H [] [] Q I .nil h)
end
end L2
namespace HT
open PySem PyProof.Rows List
def lexLt:List Int->List Int->Bool
 | [],[]=>false
 | [],_::_=>true
 |_::_,[]=>false
 |x::xs,y::ys=>if x=y then lexLt xs ys else decide (x<y)
section
open PySem.SeqAt List
open PySem.AutoSeq1 (wpAny_loadPart')
open PySem.MeetsSeq PySem.MeetsSeq2 PySem.MeetsSeq3 List
end
section
variable{prog:Program}{w:World}{A:Around}{E:Value->Shared->Prop}{s:Shared}
theorem BV{t b:Addr}{vs ws:List Value}{Q:Value->Shared->Prop}(x:IsTup s.heap t vs.toArray)(y:IsTup s.heap b ws.toArray)(o:vs≠[])
  (B:ws=[]->Q (.ref t) s) (z:ws≠[]->Q (.ref s⁻¹) {s with heap:=s.heap.push {cls:=.type "tuple",data:=.seq (vs++ws).toArray}})
  (j:vs.length+ws.length<=sizeLine):wpAny (model prog w) A (binaryOp .Add (.ref t) (.ref b)) Q E s:=by
 let⟨⟨C,r,u,l⟩,i,q,n,p⟩:=id x;let⟨⟨v,g,k,c⟩,a,f,m,d⟩:=id y;simp only at q p f d;subst q p f d;have e:vs.toArray++ws.toArray=(vs++ws).toArray:=by simp
 by_cases h:ws=[]
 .exact Ub ⟨_,i,rfl⟩ ⟨_,a,rfl⟩ T4 UE S2 SR (Sy _ _)
   (tuple_addW1 t b vs.toArray ws.toArray n m r g l c (~~~o) (by simp[h])) ⟨i,a,B h⟩
 .refine Ub ⟨_,i,rfl⟩ ⟨_,a,rfl⟩ T4 UE S2 SR (Sy _ _)
   (tuple_addW2 t b vs.toArray ws.toArray n m r g l c (~~~o) (~~~h) (by rw[Qi,Qi];exact j)) ⟨i,a,?_⟩
  rw[e];exact z h
def cj(n d:Nat):Option Int->Nat
 |none=>d
 |some v=>if v<0 then (v+(n:Int)).toNat else min v.toNat n
theorem FU(n d:Nat)(b:d<=n)(o:Option Int):cj n d o<=n:=by
 cases o with
 |none=>exact b
 |some v=>
  show (if v<0 then (v+(n:Int)).toNat else min v.toNat n)<=n
  by_cases a:v<0
  .rw[Qn a];omega
  .rw[Qu a];exact Nat.min_le_right _ _
theorem uW(v:Int)(n d:Nat):(if v<0 then max (v+(n:Int)) 0 else min v (n:Int))=((cj n d (some v):Nat):Int):=by
 show (if v<0 then max (v+(n:Int)) 0 else min v (n:Int))=(((if v<0 then (v+(n:Int)).toNat else min v.toNat n):Nat):Int)
 by_cases a:v<0
 .erw[Qn a];omega
 .erw[Qu a];omega
theorem tQ(lo hi:Option Int)(n:Nat):Builtin.Slice.sliceAdjust lo hi 1 (n:Int)=(((cj n 0 lo:Nat):Int),((cj n n hi:Nat):Int)):=by
 have a:¬((1:Int)<0):=by omega
 unfold Builtin.Slice.sliceAdjust;erw[a,QY];refine Td ?_ ?_
 .cases lo with
  |none=>rfl
  |some v=>exact uW v n 0
 .cases hi with
  |none=>rfl
  |some v=>exact uW v n n
theorem tR(i j:Nat):Builtin.Slice.slicePlaces (i:Int) (j:Int) 1=j - i:=by
 unfold Builtin.Slice.slicePlaces;have a:(1:Int)>0:=by omega
 erw[a,Qx,Int.ediv_one];split<;>omega
theorem lH{v:Value}{o:Option Int}{Q:Option Int->Shared->Prop}(p:IsPart v o)(h:Q o s):wpAny (model prog w) A (Builtin.Slice.slicePartIndex v) Q E s:=by
 cases p with
 |none=>exact slicePart_none h
 |int i t=>exact slicePart_int h
theorem gh{sl:Addr}{d c:Value}{lo hi:Option Int}{n:Nat}{Q:Int×Int×Nat->Shared->Prop}(g:s.heap.IsSliceOf sl d c .none)(f:IsPart d lo)(e:IsPart c hi)
  (h:Q (((cj n 0 lo:Nat):Int),1,cj n n hi - cj n 0 lo) s):wpAny (model prog w) A (Builtin.Slice.sliceApplied (.ref sl) (pure (n:Int))) Q E s:=by
 let⟨j,a,i,b⟩:=id g;unfold Builtin.Slice.sliceApplied Builtin.Slice.sliceFields;refine Qa (Qa (Q5 a b (x:=d) rfl (Qa (Q5 a b (x:=c) rfl (Qa (Q5 a b (x:=.none) rfl (Qj ?_)))))));refine Qa (slicePart_none ?_);show wpAny _ _ (if ((1:Int)==0)=true then _ else _) _ _ s;rw[Qu 'd'];refine Qa (lH f (Qa (lH e (Qa (Qj ?_)))));show wpAny _ _ (match Builtin.Slice.sliceAdjust lo hi 1 (n:Int) with | (lo,hi)=>pure (lo,(1:Int),Builtin.Slice.slicePlaces lo hi 1)) _ _ s;rw[tQ lo hi n];show wpAny _ _ (pure (((cj n 0 lo:Nat):Int),(1:Int),Builtin.Slice.slicePlaces ((cj n 0 lo:Nat):Int) ((cj n n hi:Nat):Int) 1)) _ _ s;rw[tR];exact Qj h
theorem yZ(xs:Array Value)(i k:Nat):((List.range k).filterMap λ (m:Nat)=>xs[((i:Int)+(m:Int)*1).toNat]?).toArray=((xs.toList.drop i).take k).toArray:=by
 have e:(λ (m:Nat)=>xs[((i:Int)+(m:Int)*1).toNat]?)=λ m=>xs[i+m]?:=by
  funext m;have:((i:Int)+(m:Int)*1).toNat=i+m:=by omega
  rw[this]
 rw[e];have:=pick_run xs i k;rw[filterMap_map] at this;have a:((λ x=>xs[x]?)∘λ x=>i+x)=λ m=>xs[i+m]?:=rfl;rw[a] at this;rw[this]
theorem jd{t sl:Addr}{a:Array Value}{i g:Value}{lo hi:Option Int}{Q:Value->Shared->Prop}(c:IsTup s.heap t a)(j:s.heap.IsSliceOf sl i g .none)(l:IsPart i lo)(k:IsPart g hi)
  (hw:¬(cj a.size 0 lo=0/\cj a.size a.size hi=a.size))
  (h:Q (.ref s⁻¹) {s with heap:=s.heap.push {cls:=.type "tuple",data:=.seq ((a.toList.drop (cj a.size 0 lo)).take (cj a.size a.size hi - cj a.size 0 lo)).toArray}})
  (o:a.size<=sizeLine):wpAny (model prog w) A (getItem (.ref t) (.ref sl)) Q E s:=by
 have b:sizeOk (.seq ((a.toList.drop (cj a.size 0 lo)).take (cj a.size a.size hi - cj a.size 0 lo)).toArray):=by
  show ((a.toList.drop (cj a.size 0 lo)).take (cj a.size a.size hi - cj a.size 0 lo)).toArray.size<=sizeLine;rw[Qi,Rf,SV,Sx];omega
 have x:cj a.size a.size hi<=a.size:=FU _ _ (Qf _) hi;let⟨n,d,f,p⟩:=id j;have r:s.TypeIs (.ref sl) "slice":=⟨n,d,f⟩;unfold getItem
 try with_reducible refine Q9 ?_
 first | refine Qa (Qj ?_) | skip
 refine Qa (wpAny_sequenceKey c.typeIs 'd' ?_);refine Qa (Rg (name:=Str.ofString "__getitem__") c.typeIs Rv
  (RX Rv c.typeIs entry_tuple_getitem ?_ (args_tuple_getitem _ _)))
 show wpAny _ _ (Builtin.Tuple.tupleItemsOf (.ref t) >>= _) _ _ s;refine Qa (tupleItemsOf_ c ?_);refine Qa (UJ r ?_);rw[Qn 'd'];refine Qa (gh j l k ?_);have e:¬((((cj a.size 0 lo:Nat):Int)==0&&(1:Int)==1&&(cj a.size a.size hi - cj a.size 0 lo)==a.size)=true):=by
  intro q;rw[Qe,Qe] at q;have v:((cj a.size 0 lo:Nat):Int)=0:=eq_of_beq q.1.1;have u:cj a.size a.size hi - cj a.size 0 lo=a.size:=eq_of_beq q.2;exact hw ⟨by omega,by omega⟩
 show wpAny _ _ (if (((cj a.size 0 lo:Nat):Int)==0&&(1:Int)==1&&(cj a.size a.size hi - cj a.size 0 lo)==a.size)=true then _ else _) _ _ s;rw[Qu e,yZ]
 first
  |exact Qa (m:=Builtin.Tuple.tupleExact _) (Rn (Qj ⟨_,rfl,Qj h⟩) b)
  |exact Qa (m:=Builtin.Tuple.tupleExact _) (Rn (Qa (Qj (Qj ⟨_,rfl,Qj h⟩))) b)
  |exact Qa (Qa (m:=Builtin.Tuple.tupleExact _) (Rn (Qj (Qj ⟨_,rfl,Qj h⟩)) b))
  |exact Qa (Qa (m:=Builtin.Tuple.tupleExact _) (Rn (Qj ⟨_,rfl,Qj h⟩) b))
end
end HT
namespace L2
open PySem PySem.Spec PyProof.Rows List
abbrev TO:=St->Hp->(Option Int->Hp->Prop)->Prop
def PO(X:Cx)(e:Option Expr)(t:TO):Prop:=
 ∀(a:List (Addr×Obj)) (s:Shared) (Y:St) (H:Hp) (Q:Option Int->Hp->Prop),Inv X a Y H s->t Y H Q->
  wpAny (model X.prog X.w) X.A (evalPart e X.env) (λ u c=>∃o b,Inv X a Y b c/\IsPart u o/\Q o b) X.xe s
def BW:TO:=λ _ H Q=>Q none H
def J2(t:TE):TO:=fun Y H Q=>t Y H λ x a=>∃i,x=.int i/\Q (some i) a
theorem intsAre_of{ns:List Int}:∀{us:List Value},Vals (ns.map V.int) us->IntsAre us ns:=by
 induction ns with
 |nil=>intro us r;rw[Tp] at r;cases r;exact .nil
 |cons n ns c=>
  intro us r;rw[QF] at r;cases r with
  |cons b a=>
   let⟨t,e⟩:=b;subst e;exact .cons n t (c a)
section
variable{X:Cx}{e:Expr}{te:TE}{lo hi:Option Expr}{tl th:TO}{pos p2:Pos}
theorem BX:PO X none BW:=by
 intro a s Y H Q I h;rw[evalPart_none];exact Qj ⟨none,H,I,.none,h⟩
theorem BY(h:PE X e te):PO X (some e) (J2 te):=by
 intro d s Y H Q I c;rw[evalPart_some];refine bP (h d s Y H _ I c) λ u j ⟨x,g,f,a,b⟩=>?_;let⟨i,rfl,q⟩:=b;let⟨t,rfl⟩:=a;exact⟨some i,g,f,.int i t,q⟩
def Ip(X:Cx)(r:V->Option Int->Option Int->Hp->VK->Prop):Prop:=
 ∀(d:List (Addr×Obj)) (s:Shared) (Y:St) (H:Hp) (x:V) (v b a:Value) (lo hi:Option Int) (c:Addr) (Q:VK),Inv X d Y H s->RelV x v->s.heap.IsSliceOf c b a .none->IsPart b lo->IsPart a hi->r x lo hi H Q->
  ∃T f,typeLookup (.type T) "__getitem__"=pure @(.builtin f)/\s.TypeIs v T/\wpAny (model X.prog X.w) X.A (getItem v (.ref c)) (EP X d Y Q) X.xe s
def OV(r:V->Option Int->Option Int->Hp->VK->Prop)(te:TE)(tl th:TO):TE:=fun Y H Q=>te Y H λ x c=>tl Y c λ l b=>th Y b λ u a=>r x l u a Q
theorem y9{r:V->Option Int->Option Int->Hp->VK->Prop}(B:Ip X r)(E:PE X e te)(C:PO X lo tl)(y:PO X hi th):PE X (.Subscript e (.Slice lo hi none p2) pos) (OV r te tl th):=by
 intro c s Y H Q I h;refine Subscript_ (bP (E c s Y H _ I h) λ v j ⟨x,N,L,k,o⟩=>?_);refine wpAny_Slice (bP (C c j Y N _ L o) λ f i ⟨l,M,K,t,n⟩=>bP (y c i Y M _ K n) λ d a ⟨u,g,J,p,m⟩=>?_);rw[evalPart_none];refine Qj ?_;have G:Inv X c Y g {a with heap:=a.heap.push {cls:=.type "slice",data:=.fields #[f,d,.none]}}:=J.kept (t':=a.toks) λ b O q=>Qd _ q;let⟨T,P,F,z,D⟩:=B c {a with heap:=a.heap.push {cls:=.type "slice",data:=.fields #[f,d,.none]}} Y g x v f d l u a⁻¹ Q G k (Heap.IsSliceOf.new ..) t p m;show wpAny (model X.prog X.w) X.A (subscriptTail e (.Slice lo hi none p2) v (.ref a⁻¹)) (EP X c Y Q) X.xe {a with heap:=a.heap.push {cls:=.type "slice",data:=.fields #[f,d,.none]}};exact tail_any (ops:=[.ref a⁻¹,v]) z F D (by with_unfolding_all rfl)
def pG(xs:List V)(lo hi:Option Int):List V:=(xs.drop (HT.cj xs.length 0 lo)).take (HT.cj xs.length xs.length hi - HT.cj xs.length 0 lo)
theorem j7(xs:List V)(lo hi:Option Int):(pG xs lo hi).length<=xs.length:=by
 unfold pG;rw[Rf,SV];omega
def MR(K:ae):V->Option Int->Option Int->Hp->VK->Prop:=λ x lo hi H Q=>∃a b,x=.ref a/\ef K H a b/\
 ¬(HT.cj b.length 0 lo=0/\HT.cj b.length b.length hi=b.length)/\∀p,H p=none->Q (.ref p) (upd H p (.tup (pG b lo hi)))
theorem FW:Ip X (MR X.K):=by
 intro z s Y H x v u t lo hi w Q I j p l k h;let⟨a,d,rfl,m,n,q⟩:=h;cases j;let⟨f,r,i,g⟩:=I.tuple m;have c:f.toArray.size=d.length:=by rw[Qi];exact r.length.symm
 refine⟨"tuple",_,PyProof.Rows.slot_tuple_getitem.lookup,i.typeIs,?_⟩;refine HT.jd i p l k (by rw[c];exact n) ?_ (by rw[c];exact g);rw[c];refine⟨.ref s⁻¹,_,I.laid (t':=s.toks) (o:=.tup (pG d lo hi)) (λ b y q=>Qd _ q) (Qf _) ?_,rfl,q _ (I.hok.fresh (Qf _))⟩;exact⟨Qk (j7 d lo hi) g,_,(r.drop (HT.cj d.length 0 lo)).take (HT.cj d.length d.length hi - HT.cj d.length 0 lo),IsTup.new _ _⟩
def J3(K:ae):R2:=λ x y H Q=>∃a b d c,x=.ref a/\y=.ref b/\ef K H a d/\ef K H b c/\d≠[]/\d.length+c.length<=sizeLine/\
 (c=[]->Q (.ref a) H)/\(c≠[]->∀p,H p=none->Q (.ref p) (upd H p (.tup (d++c))))
theorem Vals.pH{xs:List V}{us:List Value}(r:Vals xs us):us=[]↔xs=[]:=by
 cases r with
 |nil=>simp
 |cons _ _=>simp
theorem BZ:gf X (binaryOp .Add) (J3 X.K):=by
 intro D s Y H x y v u Q I l k h;let⟨a,b,j,i,rfl,rfl,B,A,t,g,n,m⟩:=h;cases l;cases k;let⟨r,d,p,_⟩:=I.tuple B;let⟨f,c,p2,_⟩:=I.tuple A;refine HT.BV p p2 (λ z=>t (d.pH.mp z)) (λ z=>⟨.ref a,H,I,rfl,n (c.pH.mp z)⟩) (λ z=>?_) (by rw[<-d.length,<-c.length];exact g);refine⟨.ref s⁻¹,_,I.laid (t':=s.toks) (o:=.tup (j++i)) (λ b C q=>Qd _ q) (Qf _) ?_,rfl,m (λ w=>z (c.pH.mpr w)) _ (I.hok.fresh (Qf _))⟩;exact⟨by rw[QU];exact g,_,d.append c,IsTup.new _ _⟩
end
end L2
namespace L2
open PySem PySem.Spec PyProof.Rows List
variable{H:Hp}{aa:List (Addr×Obj)}{s:Shared}{Y:St}
def yu(n:Nat)(i:Int):Option Nat:=if 0<=i then (if i<n then some i.toNat else none) else if -(n:Int)<=i then some (i+n).toNat else none
def uY{a:Type}(xs:List a)(i:Int):Option a:=(yu xs.length i).bind λ j=>xs[j]?
theorem uZ{n:Nat}{i:Int}{j:Nat}(h:yu n i=some j):seqIndex? i n=some j/\j<n/\-(n:Int)<=i/\i<n:=by
 unfold yu at h
 by_cases b:0<=i
 .rw[Qn b] at h
  by_cases a:i<n
  .rw[Qn a] at h;have e:i.toNat=j:=QN h;exact⟨by rw[seqIndex_of b a,e],by omega,by omega,a⟩
  .rw[Qu a] at h;cases h
 .rw[Qu b] at h
  by_cases a:-(n:Int)<=i
  .rw[Qn a] at h;have e:(i+n).toNat=j:=QN h;exact⟨by rw[UK 'o' a,e],by omega,a,by omega⟩
  .rw[Qu a] at h;cases h
theorem pI{a:Type}{xs:List a}{i:Int}{v:a}(h:uY xs i=some v):∃j,seqIndex? i xs.length=some j/\xs[j]?=some v/\j<xs.length/\-(xs.length:Int)<=i/\i<xs.length:=by
 unfold uY at h;cases e:yu xs.length i with
 |none=>rw[e] at h;cases h
 |some j=>
  rw[e] at h;let⟨f,d,c,b⟩:=uZ e;exact⟨j,f,h,d,c,b⟩
def kO(b:Expr):Prop:=∀o i,subscripted b false o i=operate [o,i] (getItem o i)
def FY(X:Cx)(r:R2):Prop:=
 ∀(b a:Expr) (aa:List (Addr×Obj)) (s:Shared) (Y:St) (H:Hp) (x y:V) (v u:Value) (Q:VK),Inv X aa Y H s->RelV x v->RelV y u->r x y H Q->
  subscripted a false v u=operate [v,u] (getItem v u)->wpAny (model X.prog X.w) X.A (subscriptTail b a v u) (EP X aa Y Q) X.xe s
def Br(X:Cx)(c:String)(r:V->List V->Hp->VK->Prop):Prop:=
 ∀(aa:List (Addr×Obj)) (s:Shared) (Y:St) (H:Hp) (x:V) (a:List V) (v:Value) (b:List Value) (Q:VK),Inv X aa Y H s->RelV x v->Vals a b->r x a H Q->
  wpAny (model X.prog X.w) X.A (call (.builtin c) (v::b)) (EP X aa Y Q) X.xe s
section
variable{X:Cx}{a b:Expr}{ta tb:TE}{pos:Pos}
theorem D3{r:R2}(g:FY X r)(j:PE X a ta)(i:PE X b tb)(f:kO b):PE X (.Subscript a b pos) (LN r ta tb):=by
 intro aa s Y H Q I h;exact Subscript_ (Fy j i I h λ v u c x y l k e d q=>g a b aa c Y l x y v u Q k e d q (f _ _))
def MS(K:ae):R2:=λ x y H Q=>∃p c i v,x=.ref p/\y=.int i/\gU K H p c/\uY c i=some v/\Q v H
def MT(K:ae):R2:=λ x y H Q=>∃p c i v,x=.ref p/\y=.int i/\ef K H p c/\uY c i=some v/\Q v H
def MU:R2:=λ x y H Q=>∃z i c,x=.str z/\y=.int i/\z.length<=sizeLine/\uY z.cps.toList i=some c/\Q (.str ⟨#[c]⟩) H
theorem B0:FY X (MS X.K):=by
 intro e f aa s Y H x y v u Q I D C h n;let⟨p,N,i,z,rfl,rfl,E,G,q⟩:=h;cases D;let⟨t,rfl⟩:=C;let⟨l,r,k,O⟩:=I.list E;let⟨j,d,M,R,L,J⟩:=pI G;let⟨w,A,g⟩:=r.get M;have F:=r.length;have P:=gV;have c:EP X aa Y Q w s:=⟨z,H,I,g,q⟩
 by_cases o:0<=i
 .have m:i.toNat=j:=by
   rw[seqIndex_of o J] at d;exact QN d
  exact item_listR k.isList o 'o' (by rw[m];simpa using A) c n
 .have m:(i+(l.toArray.size:Int)).toNat=j:=by
   rw[UK 'o' L] at d;rw[Qi,<-F];exact QN d
  exact subscriptTail_builtinR (x:=w) k.isList.typeIs slot_list_getitem.lookup
   (wpAny_getItem_list_neg (Q:=λ r B=>r=w/\EP X aa Y Q r B) k.isList 'o' (by rw[Qi]<;>omega) 'o' (by rw[m];simpa using A) ⟨rfl,c⟩) n
theorem F6:FY X (MT X.K):=by
 intro c d aa s Y H x y v u Q I m l h o;let⟨p,G,i,z,rfl,rfl,A,C,q⟩:=h;cases m;let⟨t,rfl⟩:=l;let⟨n,r,g,J⟩:=I.tuple A;let⟨j,E,D,O,N,M⟩:=pI C;let⟨w,F,e⟩:=r.get D;have B:=r.length;have L:=gV;have f:EP X aa Y Q w s:=⟨z,H,I,e,q⟩;exact subscriptTail_builtinR (x:=w) g.typeIs slot_tuple_getitem.lookup
  (getItem_tuple (j:=j) (Q:=λ r k=>r=w/\EP X aa Y Q r k) g 'o' 'o' (by rw[Qi,<-B];exact E) (~~~F) ⟨rfl,f⟩) o
theorem F7:FY X MU:=by
 intro d e aa s Y H x y v u Q I k g h l;let⟨z,i,c,rfl,rfl,C,n,q⟩:=h;let⟨t,rfl⟩:=k;let⟨B,rfl⟩:=g;let⟨j,f,r,E,p,o⟩:=pI n;have m:z.cps.toList.length=z.length:=by simp[Str.length]
 rw[m] at f p o;have D:=gV;exact tail_any (typeIs_str s z t) slot_str_getitem.lookup (getItem_str (c:=c) (by
  have A:decide (i < -(2^63:Int))=false:=QH 'o';have w:decide (i≥2^63)=false:=QH 'o';rw[A,w,Bool.or_false]) (by rw[f];simpa using r) ⟨.str ⟨#[c]⟩,H,I.tok _,⟨_,rfl⟩,q⟩) l
theorem tS(its:List Value)(n j:Nat)(u:Value):Obj.mapSeq (·.setIfInBounds j u) {cls:=.type "list",data:=.seq its.toArray n}={cls:=.type "list",data:=.seq (its.set j u).toArray n}:=by
 simp[Obj.mapSeq]
theorem Inv.lst{p:Addr}{xs:List V}(I:Inv X aa Y H s)(h:H p=@(.lst xs)) :
  ∃(its:List Value) (n:Nat),Vals xs its/\s.heap.get? p=some {cls:=.type "list",data:=.seq its.toArray n}/\xs.length<=sizeLine:=by
 let⟨z,its,n,r,e⟩:=I.hok p _ h;exact⟨its,n,r,e,z⟩
theorem Inv.F8{p:Addr}{xs ys:List V}{its its':List Value}{n c:Nat}{f:Obj->Obj}(I:Inv X aa Y H s)(h:H p=@(.lst xs))
  (ho:s.heap.get? p=some {cls:=.type "list",data:=.seq its.toArray n}) (d:f {cls:=.type "list",data:=.seq its.toArray n}={cls:=.type "list",data:=.seq its'.toArray c}) (r:Vals ys its') (g:ys.length<=sizeLine) (t:Nat) :
  Inv X aa Y (upd H p (.lst ys)) {s with heap:=s.heap.update p f,toks:=t}:=by
 have e:(s.heap.update p f).get? p=some {cls:=.type "list",data:=.seq its'.toArray c}:=by
  rw[RM f ho (by rw[d]<;>rfl),d]
 refine I.write (x:=p) (e:=p) (by rw[h];trivial) (.inl rfl) (λ b u i q=>(Ro _ _ (Ne.symm i)).trans q) ⟨_,e⟩ ?_;exact⟨g,its',c,r,e⟩
def J4:V->V->V->Hp->(Hp->Prop)->Prop:=λ o i v H Q=>∃p c k j,o=.ref p/\i=.int k/\H p=some (.lst c)/\yu c.length k=some j/\Q (upd H p (.lst (c.set j v)))
theorem set_list:Fp X J4:=by
 intro aa s Y H o i v F G u Q I B C A h;let⟨p,z,k,j,rfl,rfl,l,E,q⟩:=h;cases B;let⟨t,rfl⟩:=C;let⟨c,n,r,e,D⟩:=I.lst l;let⟨d,K,w,m⟩:=uZ E;have f:=r.length;have J:=gV;have y:Inv X aa Y (upd H p (.lst (z.set j v))) {s with heap:=s.heap.update p (Obj.mapSeq (·.setIfInBounds j u))}:=
  I.F8 l e (tS c n j u) (r.set A j) (by rw[RH];exact D) s.toks
 by_cases x:0<=k
 .have g:k.toNat=j:=by
   rw[seqIndex_of x m] at d;exact QN d
  exact PySem.W.ki_setAt e x 'o' (by rw[Qi,<-f];exact m) (by rw[g];exact⟨_,y,q⟩)
 .have g:(k+(c.toArray.size:Int)).toNat=j:=by
   rw[UK 'o' w] at d;rw[Qi,<-f];exact QN d
  exact PySem.W.ki_setBack e 'o' (by rw[Qi,<-f];exact w) 'o' (by rw[g];exact⟨_,y,q⟩)
theorem pJ(lo hi:Option Int)(n:Nat):(sliceBounds lo hi none n).1=((HT.cj n 0 lo:Nat):Int)/\(sliceBounds lo hi none n).2.1=((HT.cj n n hi:Nat):Int)/\(sliceBounds lo hi none n).2.2=1:=by
 refine⟨?_,?_,rfl⟩
 .cases lo with
  |none=>simp[sliceBounds,HT.cj]
  |some i=>
   erw[sliceBounds,HT.cj,Option.getD_none,show (1:Int)>0 by decide,Qx]
   by_cases h:i<0
   .erw[h,Qx]<;>omega
   .erw[h,QY]<;>omega
 .cases hi with
  |none=>simp[sliceBounds,HT.cj]
  |some i=>
   erw[sliceBounds,HT.cj,Option.getD_none,show (1:Int)>0 by decide,Qx]
   by_cases h:i<0
   .erw[h,Qx]<;>omega
   .erw[h,QY]<;>omega
theorem nv(its:List Value)(lo hi:Option Int):slicePick its.toArray lo hi none=((its.drop (HT.cj its.length 0 lo)).take (HT.cj its.length its.length hi - HT.cj its.length 0 lo)).toArray:=by
 let⟨e,d,c⟩:=pJ lo hi its.toArray.size;unfold slicePick;rw[e,d,c];erw[sliceRange_one,pick_run,Qi]<;>rfl
def MV(K:ae):V->Option Int->Option Int->Hp->VK->Prop:=λ x d e H Q=>∃a c,x=.ref a/\gU K H a c/\∀p,H p=none->Q (.ref p) (upd H p (.lst (pG c d e)))
theorem B5:Ip X (MV X.K):=by
 intro aa s Y H x v u t e f w Q I i p k j h;let⟨a,c,rfl,n,q⟩:=h;cases i;let⟨l,r,g,m⟩:=I.list n;have d:=r.length;refine⟨"list",_,slot_list_getitem.lookup,g.isList.typeIs,?_⟩;refine wpAny_getItem_list_slice g.isList p k j .none 's' ?_ (by rw[Qi]<;>omega);rw[nv,<-d];refine⟨.ref s⁻¹,_,I.laid (t':=s.toks) (o:=.lst (pG c e f)) (λ b y q=>Qd _ q) (Qf _) ?_,rfl,q _ (I.hok.fresh (Qf _))⟩;exact⟨Qk (j7 c e f) m,_,0,(r.drop (HT.cj c.length 0 e)).take (HT.cj c.length c.length f - HT.cj c.length 0 e),Qp _ rfl⟩
theorem pK:cG X (.builtin "len") (λ xs H Q=>∃p ys,xs=[.ref p]/\(gU X.K H p ys\/ef X.K H p ys)/\Q (.int ys.length) H):=by
 intro aa s Y H xs k Q I r h;let⟨p,ys,rfl,d,q⟩:=h;let⟨u,rfl,i⟩:=vals1 r;cases i;have l:=gV;rcases d with d | d
 .let⟨g,e,f,j⟩:=I.list d;have c:=e.length;exact Calls.call_len_list f.isList (by erw[Qi]<;>omega) ⟨.int ys.length,H,I.tok _,⟨s.toks+1,by rw[Qi,c]⟩,q⟩
 .let⟨g,e,f,j⟩:=I.tuple d;have c:=e.length;exact len_tuple f (by erw[Qi]<;>omega) ⟨.int ys.length,H,I.tok _,⟨s.toks+1,by rw[Qi,c]⟩,q⟩
theorem pL:cG X (.builtin "len") (λ xs H Q=>∃z,xs=[.str z]/\z.length<=sizeLine/\Q (.int z.length) H):=by
 intro aa s Y H xs c Q I r h;let⟨z,rfl,d,q⟩:=h;let⟨u,rfl,t,rfl⟩:=vals1 r;have e:=gV;exact len_str 'o' ⟨.int z.length,H,I.tok _,⟨_,rfl⟩,q⟩
theorem pM:cG X (.type "list") (λ xs H Q=>∃p ys,xs=[.ref p]/\(gU X.K H p ys\/ef X.K H p ys)/\∀l,H l=none->Q (.ref l) (upd H l (.lst ys))):=by
 intro aa s Y H xs C Q I r h;let⟨p,ys,rfl,k,q⟩:=h;let⟨u,rfl,B⟩:=vals1 r;cases B;have t:∀(c:List Value),Vals ys c->ys.length<=sizeLine->∀(d:Heap) (g:Nat),(∀b A,s.heap.get? b=some A->d.get? b=some A)->
   d.get? s⁻¹=some {cls:=.type "list",dict:=none,data:=.seq c.toArray g,slots:=#[]}->EP X aa Y Q (.ref s⁻¹) {s with heap:=d}:=λ c f j d g i e=>
  ⟨.ref s⁻¹,_,I.laid (t':=s.toks) i (Qf _) (show bA X.prog X.w _ d _ (.lst ys) from⟨j,c,g,f,e⟩),rfl,q _ (I.hok.fresh (Qf _))⟩
 rcases k with k | k
 .let⟨c,f,v,j⟩:=I.list k;have m:=f.length;let⟨o,x,z,n,y⟩:=v.isList;exact call_list_seq p (.inl rfl) x z y (λ d g i e=>t c f j d g i e) (by erw[Qi]<;>omega)
 .let⟨c,f,v,j⟩:=I.tuple k;have m:=f.length;let⟨o,x,z,n,y⟩:=v;exact call_list_seq p (.inr rfl) x z y (λ d g i e=>t c f j d g i e) (by erw[Qi]<;>omega)
theorem ny:cG X (.type "tuple") (λ xs H Q=>∃p ys,xs=[.ref p]/\((gU X.K H p ys/\∀l,H l=none->Q (.ref l) (upd H l (.tup ys)))\/(ef X.K H p ys/\Q (.ref p) H))):=by
 intro aa s Y H xs x Q I r h;let⟨p,ys,rfl,h⟩:=h;let⟨u,rfl,n⟩:=vals1 r;cases n;rcases h with⟨i,q⟩ | ⟨i,q⟩
 .let⟨c,f,g,j⟩:=I.list i;have k:=f.length;refine call_tuple_list g.isList (λ d t=>?_) (by erw[Qi]<;>omega);have m:Inv X aa Y H {s with heap:=d}:=I.kept (t':=s.toks) t;have v:Inv X aa Y (upd H d.objs.size (.tup ys)) {s with heap:=d.push {cls:=.type "tuple",data:=.seq c.toArray}}:=
   m.laid (t':=s.toks) (λ b o e=>Qd _ e) (Qf _) (show bA X.prog X.w _ _ _ (.tup ys) from⟨j,c,f,IsTup.new _ _⟩)
  exact⟨.ref d.objs.size,_,v,rfl,q _ (m.hok.fresh (Qf _))⟩
 .let⟨c,f,g,j⟩:=I.tuple i;exact call_tuple_same g ⟨.ref p,H,I,rfl,q⟩
def qS(K:ae)(T:String)(x:V)(H:Hp):Prop:=match x with
 |.str _=>T="str"
 |.int _=>T="int"
 |.ref p=>(T="list"/\∃d,gU K H p d)\/(T="tuple"/\∃o,K.lookup p=some o/\o.cls=.type "tuple"/\o.dict=none)\/
   (T="dict"/\((∃c,H p=@(.dK c))\/∃c,H p=@(.dT c)))\/(T="set"/\∃S n,H p=@(.set S n))
 |_=>False
theorem za{T:String}{x:V}{v:Value}(I:Inv X aa Y H s)(r:RelV x v)(g:qS X.K T x H) :
  s.TypeIs v T/\∀a,v=.ref a->Exists λ m=>s.heap.get? a=some m/\m.dict=none:=by
 cases x with
 |str z=>
  let⟨t,rfl⟩:=r;cases (show T="str" from g);exact⟨typeIs_str s z t,λ _ e=>nomatch e⟩
 |int i=>
  let⟨t,rfl⟩:=r;cases (show T="int" from g);exact⟨typeIs_int s i t,λ _ e=>nomatch e⟩
 |ref p=>
  cases r;rcases g with⟨rfl,xs,u⟩ | ⟨rfl,o,d,hc,j⟩ | ⟨rfl,d⟩ | ⟨rfl,S,n,d⟩
  .let⟨q,_,l,_⟩:=I.list u;refine⟨l.isList.typeIs,λ a e=>?_⟩;cases e;let⟨o,n,e,c,j,_⟩:=l;exact⟨o,e,j⟩
  .refine⟨⟨o,I.fR p o d,hc⟩,λ a e=>?_⟩;cases e;exact⟨o,I.fR _ o d,j⟩
  .have z:∃o,s.heap.get? p=some o/\o.ExactDict:=by
    rcases d with⟨h,d⟩ | ⟨h,d⟩
    .let⟨_,_,_,_,o,_,_,e,f,_⟩:=I.hok p _ d;exact⟨o,e,f⟩
    .let⟨_,_,_,_,o,_,_,e,f,_⟩:=I.hok p _ d;exact⟨o,e,f⟩
   let⟨o,e,f⟩:=z;refine⟨⟨o,e,f.1⟩,λ a k=>?_⟩;cases k;exact⟨o,e,f.2.1⟩
  .let⟨o,_,_,_,e,f,_⟩:=I.hok p _ d;refine⟨⟨o,e,f.1⟩,λ a k=>?_⟩;cases k;exact⟨o,e,f.2.1⟩
 |_=>exact False.elim g
variable{o e:Expr}{es:List Expr}{to:TE}{t:TA}{name:Str}{apos cpos:Pos}{T id:String}{r:V->List V->Hp->VK->Prop}
end
end L2
namespace L2
open PySem PySem.Spec PyProof.Rows List
variable{us:List Value}
def F9(X:Cx)(c:String)(r:V->List V->Hp->VK->Prop):Prop:=
 ∀(b:List (Addr×Obj)) (s:Shared) (Y:St) (H:Hp) (x:V) (a:List V) (v:Value) (us:List Value) (Q:VK),Inv X b Y H s->RelV x v->Vals a us->r x a H Q->
  wpAny (model X.prog X.w) X.A (call (.builtin c) (v::us)) (EP X b Y Q) X.xe s
theorem Vals.one{x:V}(h:Vals [x] us):∃u,us=[u]/\RelV x u:=by
 cases h with | cons r t=>cases t;exact⟨_,rfl,r⟩
theorem Vals.two{x y:V}(h:Vals [x,y] us):∃u v,us=[u,v]/\RelV x u/\RelV y v:=by
 cases h with | cons r t=>cases t with | cons q t=>cases t;exact⟨_,_,rfl,r,q⟩
theorem Vals.zero:∀{us:List Value},Vals [] us->us=[]
 |_,.nil=>rfl
theorem Vals.dropLast{xs:List V}(h:Vals xs us):Vals xs.dropLast us.dropLast:=by
 induction h with
 |nil=>exact .nil
 |cons r t a=>
  cases t with
  |nil=>exact .nil
  |cons q b=>exact .cons r a
theorem Vals.eraseIdx:∀{xs:List V} {us:List Value} (i:Nat),Vals xs us->Vals (xs.eraseIdx i) (us.eraseIdx i)
 |_,_,_,.nil=>.nil
 |_,_,0,.cons _ t=>t
 |_,_,i+1,.cons r t=>.cons r (Vals.eraseIdx i t)
theorem tT{c:Type}(l:List c):l.eraseIdx (l.length - 1)=l.dropLast:=by
 induction l with
 |nil=>rfl
 |cons a r d=>
  cases r with
  |nil=>rfl
  |cons b r=>
   have e:(a::b::r).length - 1=((b::r).length - 1)+1:=by
    have g:(a::b::r).length=r.length+2:=rfl;have f:(b::r).length=r.length+1:=rfl;omega
   rw[e,eraseIdx_cons_succ,d]
   all_goals rfl
theorem nX{a:Type}:∀(l:List a) (i:Nat),(l.eraseIdx i).length<=l.length
 | [],_=>Qf _
 |_::_,0=>Ru _
 |_::r,i+1=>Nat.succ_le_succ (nX r i)
section
variable{X:Cx}{aa:List (Addr×Obj)}{Y:St}{H:Hp}{s:Shared}{l b:Addr}{xs ys zs:List V}
theorem Inv.tU{its its':List Value}{n:Nat}{f:Array Value->Array Value}{t':Nat}(I:Inv X aa Y H s)(i:H l=@(.lst xs))
  (e:s.heap.get? l=some {cls:=.type "list",data:=.seq its.toArray n}) (g:f its.toArray=its'.toArray) (c:Vals ys its') (a:ys.length<=sizeLine) :
  Inv X aa Y (upd H l (.lst ys)) {s with heap:=s.heap.update l (Obj.mapSeq f),toks:=t'}:=by
 have q:=PySem.IsL.update e f;rw[g] at q;refine I.write (x:=l) (e:=l) (by rw[i];exact trivial) (.inl rfl) (λ j u h d=>(Ro s.heap (Obj.mapSeq f) (Ne.symm h)).trans d) ⟨_,q⟩ ?_;exact⟨a,its',_,c,q⟩
theorem Inv.J5{its:List Value}{t':Nat}(I:Inv X aa Y H s)(c:Vals ys its)(a:ys.length<=sizeLine) :
  Inv X aa Y (upd H s⁻¹ (.lst ys)) {s with heap:=s.heap.push {cls:=.type "list",data:=.seq its.toArray},toks:=t'}:=
 I.laid (λ _ _ q=>Qd _ q) (Qf _) ⟨a,its,0,c,Qp _ rfl⟩
theorem Inv.fresh(I:Inv X aa Y H s):H s⁻¹=none:=I.hok.fresh (Qf _)
theorem Inv.wV(I:Inv X aa Y H s)(a:H l=@(.lst xs)):xs.length<=sizeLine/\∃(its:List Value) (n:Nat),Vals xs its/\xs.length=its.length/\s.heap.get? l=some {cls:=.type "list",data:=.seq its.toArray n}:=by
 let⟨z,its,n,r,e⟩:=I.hok l _ a;exact⟨z,its,n,r,r.length,e⟩
theorem zb{n:Nat}(h:n<=sizeLine):Builtin.List.listTooLong n=false:=by
 unfold Builtin.List.listTooLong;exact QH 'o'
end
section
variable{X:Cx}
def B6:V->List V->Hp->VK->Prop:=λ x b H Q=>∃l a y,x=.ref l/\b=[y]/\H l=some (.lst a)/\a.length<sizeLine/\Q .non (upd H l (.lst (a++[y])))
theorem nY:F9 X "list.append" B6:=by
 intro m s Y H x i v us Q I c d h;let⟨l,g,y,rfl,rfl,b,j,q⟩:=h;cases c;let⟨u,rfl,f⟩:=d.one;let⟨z,a,n,r,k,e⟩:=I.wV b;refine Ud F.slot_list_append ⟨_,e,rfl⟩ F.entry_list_append (F.args_list_append_2 _ _) (PySem.list_append l a.toArray n u (by rw[Qi];omega)) ⟨e,?_⟩;refine⟨.non,_,I.tU (its':=a++[u]) b e 's' (r.append %[|f]) ?_,rfl,q⟩;rw[QU,Su];omega
def B7:V->List V->Hp->VK->Prop:=λ x d H Q=>∃l b c a,x=.ref l/\d=[.ref b]/\H l=some (.lst c)/\H b=some (.lst a)/\c.length+a.length<=sizeLine/\Q .non (upd H l (.lst (c++a)))
theorem wW:F9 X "list.extend" B7:=by
 intro G s Y H x C v us Q I g i h;let⟨l,b,B,y,rfl,rfl,f,p,D,q⟩:=h;cases g;let⟨u,rfl,j⟩:=i.one;cases j;let⟨z,c,n,r,E,e⟩:=I.wV f;let⟨A,a,m,k,o,t⟩:=I.wV p;have d:c.toArray.size+a.toArray.size<=sizeLine:=by rw[Qi,Qi];omega
 have w:¬(!c.toArray.isEmpty&&Builtin.List.listTooLong (c.toArray.size+a.toArray.size))=true:=by
  rw[zb d,Bool.and_false];exact SK
 refine Ud F.slot_list_extend ⟨_,e,rfl⟩ F.entry_list_extend (F.args_list_extend_2 _ _)
  (AutoSeq1.list_extend_list_list_0 l c.toArray n b a.toArray m w (by rw[Qi];omega) 'o') ⟨e,t,?_⟩
 refine⟨.non,_,I.tU (its':=c++a) f e 's' (r.append k) ?_,rfl,q⟩;rw[QU];omega
def MW:V->List V->Hp->VK->Prop:=λ x b H Q=>∃l a y,x=.ref l/\b=[]/\H l=some (.lst a)/\a[a.length - 1]?=some y/\Q y (upd H l (.lst a.dropLast))
theorem Ga:F9 X "list.pop" MW:=by
 intro t s Y H x p v us Q I d f h;let⟨l,o,y,rfl,rfl,c,i,q⟩:=h;cases d;have m:=f.zero;subst m;let⟨z,a,n,r,k,e⟩:=I.wV c;let⟨u,j,g⟩:=r.get i;have b:a.toArray[a.toArray.size - 1]?=some u:=by
  show a.toArray[a.length - 1]?=some u;rw[<-Uu,<-k];exact j
 refine Ud F.slot_list_pop ⟨_,e,rfl⟩ F.entry_list_pop (F.args_list_pop_1 _) (MeetsSeq.list_pop_last l a.toArray n u b (by rw[Qi];omega)) ⟨e,?_⟩;refine⟨y,_,I.tU (its':=a.dropLast) c e ?_ r.dropLast ?_,g,q⟩
 .show a.toArray.eraseIdxIfInBounds (a.toArray.size - 1)=a.dropLast.toArray;rw[Qi,TL,tT]
 .rw[length_dropLast];omega
def Gb:V->List V->Hp->VK->Prop:=λ x b H Q=>∃l a i k y,x=.ref l/\b=[.int i]/\H l=some (.lst a)/\-(2^63)<=i/\i<2^63/\seqIndex? i a.length=some k/\a[k]?=some y/\Q y (upd H l (.lst (a.eraseIdx k)))
theorem zc:F9 X "list.pop" Gb:=by
 intro E s Y H x D v us Q I f g h;let⟨l,d,i,k,y,rfl,rfl,c,C,B,A,m,q⟩:=h;cases f;let⟨u,rfl,j⟩:=g.one;let⟨t,rfl⟩:=j;let⟨z,a,n,r,p,e⟩:=I.wV c;let⟨w,o,b⟩:=r.get m;refine Ud F.slot_list_pop ⟨_,e,rfl⟩ F.entry_list_pop (F.args_list_pop_2 _ _)
  (MeetsSeq.list_pop_at l a.toArray n i t k w (fitsIndex_both C B) (by rw[Qi,<-p];exact A) (by rw[<-Uu];exact o) (by rw[Qi];omega)) ⟨e,?_⟩
 refine⟨y,_,I.tU (its':=a.eraseIdx k) c e ?_ (r.eraseIdx k) ?_,b,q⟩
 .show a.toArray.eraseIdxIfInBounds k=(a.eraseIdx k).toArray;rw[TL]
 .have:=nX d k;omega
end
end L2
namespace L2
open PySem PySem.Spec PyProof.Rows List
variable{H H':Hp}{P:Program}{X:Cx}{kvs:List (List Key×V)}{pos:Pos}{u:Value}{w:World}{xs:List (List Key×Addr×Value)}{y:V}
section
variable{κ:Type}[DecidableEq κ]
def jK(kvs:List (κ×V))(k:κ):Option V:=(kvs.find? λ a=>decide (a.1=k)).map (·.2)
def putK(kvs:List (κ×V))(k:κ)(v:V):List (κ×V):=
 if (kvs.any λ a=>decide (a.1=k))=true then kvs.map (λ a=>if a.1=k then (a.1,v) else a) else kvs++[(k,v)]
theorem lI{p:κ×V}{r:List (κ×V)}{k:κ}(e:p.1=k):jK (p::r) k=some p.2:=by simp[jK,SN,e]
theorem lJ{p:κ×V}{r:List (κ×V)}{k:κ}(e:¬p.1=k):jK (p::r) k=jK r k:=by simp[jK,SN,e]
theorem qT(k:κ):∀kvs:List (κ×V),(kvs.any λ a=>decide (a.1=k))=(jK kvs k).isSome
 | []=>rfl
 |p::r=>by
  rw[Sz]
  by_cases e:p.1=k
  .erw[lI e,QS e,Bool.true_or,Option.isSome_some]
  .rw[lJ e,QH e,UG];exact qT k r
theorem gX(kvs:List (κ×V))(k:κ)(v:V):(putK kvs k v).length<=kvs.length+1:=by
 unfold putK;split
 .rw[Qq];omega
 .rw[QU,QO,Sl];omega
theorem fQ.gi{o:Option V}{u:Option Value}(r:fQ o u):o.isSome=u.isSome:=by
 cases o with
 |none=>cases u with
  |none=>rfl
  |some _=>exact(show False from r).elim
 |some _=>cases u with
  |none=>exact(show False from r).elim
  |some _=>rfl
theorem KV.val{kvs:List (κ×V)}{vs:List (κ×Value)}(r:KV kvs vs)(k:κ):fQ (jK kvs k) (valueAt vs k):=by
 unfold KV at r
 induction r with
 |nil=>exact True.intro
 |@cons p q ps a h t f=>
  let⟨d,g⟩:=h
  by_cases e:p.1=k
  .have c:q.1=k:=d.symm.trans e;have b:valueAt (q::a) k=some q.2:=by simp[valueAt,SN,c]
   rw[lI e,b];exact g
  .have c:¬q.1=k:=λ z=>e (d.trans z);have b:valueAt (q::a) k=valueAt a k:=by simp[valueAt,SN,c]
   rw[lJ e,b];exact f
theorem KV.any{kvs:List (κ×V)}{vs:List (κ×Value)}(r:KV kvs vs)(k:κ):(kvs.any λ a=>decide (a.1=k))=vs.any λ a=>decide (a.1=k):=by
 unfold KV at r
 induction r with
 |nil=>rfl
 |cons h t b=>rw[Sz,Sz,b,h.1]
theorem KV.repl{kvs:List (κ×V)}{vs:List (κ×Value)}(r:KV kvs vs)(k:κ)(c:RelV y u) :
  KV (kvs.map λ a=>if a.1=k then (a.1,y) else a) (vs.map λ a=>if a.1=k then (a.1,u) else a):=by
 unfold KV at r ⊢
 induction r with
 |nil=>exact .nil
 |@cons p q ps g h t d=>
  rw[QF,QF];refine .cons ?_ d;let⟨b,f⟩:=h
  by_cases e:p.1=k
  .rw[Qn e,Qn (b.symm.trans e)];exact⟨b,c⟩
  .rw[Qu e,Qu (λ z=>e (b.trans z))];exact⟨b,f⟩
theorem KV.put{kvs:List (κ×V)}{vs:List (κ×Value)}(r:KV kvs vs)(k:κ)(a:RelV y u):KV (putK kvs k y) (stored vs k u):=by
 unfold putK stored;rw[r.any k]
 by_cases e:(vs.any λ b=>decide (b.1=k))=true
 .rw[Qn e,Qn e];exact r.repl k a
 .rw[Qu e,Qu e];exact Paired.snoc r ⟨rfl,a⟩
theorem KV.length{kvs:List (κ×V)}{vs:List (κ×Value)}(r:KV kvs vs):kvs.length=vs.length:=TZ r
end
theorem nZ{k:Key}(r:RelV (kV k) u):(bw P w).is k u=true:=by
 cases k with
 |inl i=>let⟨t,e⟩:=(show ∃t,u=Value.int i t from r);subst e;exact qH P w i t
 |inr x=>let⟨t,e⟩:=(show ∃t,u=Value.str x t from r);subst e;exact qI P w x t
theorem n5:∀{ks:List Key} {us:List Value},Vals (ks.map kV) us->ItemsAre (bw P w) ks us
 | [],_,r=>by rw[Tp] at r;cases r;exact .nil
 |k::ks,_,r=>by
  rw[QF] at r;cases r with
  |cons h t=>exact .cons (nZ h) (n5 t)
abbrev KT(H:Hp):List (List Key×V)->List (List Key×Addr×Value)->Prop:=Paired λ p q=>p.1=q.1/\H q.2.1=some (.tup (p.1.map kV))/\RelV p.2 q.2.2
theorem KT.val(r:KT H kvs xs)(k:List Key):fQ (jK kvs k) ((atKey xs k).map (·.2)):=by
 induction r with
 |nil=>exact True.intro
 |@cons p q ps a h t f=>
  let⟨d,_,g⟩:=h
  by_cases e:p.1=k
  .have c:q.1=k:=d.symm.trans e;have b:atKey (q::a) k=some q.2:=by simp[atKey,SN,c]
   rw[lI e,b];exact g
  .have c:¬q.1=k:=λ z=>e (d.trans z);have b:atKey (q::a) k=atKey a k:=by simp[atKey,SN,c]
   rw[lJ e,b];exact f
theorem KT.repl(r:KT H kvs xs)(k:List Key)(d:RelV y u) :
  KT H (kvs.map λ b=>if b.1=k then (b.1,y) else b) (xs.map (putAt k u)):=by
 induction r with
 |nil=>exact .nil
 |@cons p q ps i h t f=>
  rw[QF,QF];refine .cons ?_ f;let⟨a,c,g⟩:=h;unfold putAt
  by_cases e:p.1=k
  .rw[Qn e,Qn (a.symm.trans e)];exact⟨a,c,d⟩
  .rw[Qu e,Qu (λ z=>e (a.trans z))];exact⟨a,c,g⟩
theorem KT.put(r:KT H kvs xs)(k:List Key){b:Addr}(d:H b=@(.tup (k.map kV)))(a:RelV y u) :
  KT H (putK kvs k y) (storedH xs k b u):=by
 have e:(kvs.any λ c=>decide (c.1=k))=(atKey xs k).isSome:=by
  rw[qT,(r.val k).gi,TY]
 unfold putK storedH;rw[e]
 by_cases q:(atKey xs k).isSome=true
 .rw[Qn q,Qn q];exact r.repl k a
 .rw[Qu q,Qu q];exact Paired.snoc r ⟨rfl,d,a⟩
theorem KT.keeps(r:KT H kvs xs)(a:∀b ys,H b=some (.tup ys)->H' b=@(.tup ys)):KT H' kvs xs:=
 Paired.E8 r λ _ _ z=>⟨z.1,a _ _ z.2.1,z.2.2⟩
section
variable{P:Program}{w:World}{H:Hp}{h:Heap}{a:Addr}
theorem D4{u:HO}(b:gb P w H h)(e:Rd H a u):bA P w H h a u:=e.ok b
theorem u5{kvs:List (Key×V)}(b:gb P w H h)(e:Rd H a (.dK kvs)):kvs.length<=sizeLine/\(a==sysModules)=false/\∃vs,KV kvs vs/\h.DictOf (bw P w) a vs:=
 show bA P w H h a (.dK kvs) from D4 b e
theorem D5{kvs:List (Key×V)}(b:gb P w H h)(e:H a=@(.dK kvs)):kvs.length<=sizeLine/\(a==sysModules)=false/\∃vs,KV kvs vs/\h.DictOf (bw P w) a vs:=u5 b (.inl e)
theorem pN{ks:List Key}(c:gb P w H h)(e:H a=@(.tup (ks.map kV))):(tupleKind (bw P w)).is h ks a:=by
 let⟨_,b,r,o,g,f,n,d⟩:=(show bA P w H h a (.tup (ks.map kV)) from c a _ e);exact⟨o,b.toArray,n,g,f,d,by simpa using n5 r⟩
theorem zd(d:gb P w H h)(e:Rd H a (.dT kvs)):kvs.length<=sizeLine/\(a==sysModules)=false/\
  ∃xs,KT H kvs xs/\h.DictOfH (tupleKind (bw P w)) a xs:=by
 let⟨z,y,xs,r,o,v,A,s,n,k,j,i⟩:=(show bA P w H h a (.dT kvs) from D4 d e);refine⟨z,y,xs,r,o,v,A,s,n,k,j,λ x b=>?_,i⟩;have c:∀{l:List (List Key×V)} {m:List (List Key×Addr×Value)},KT H l m->∀x∈m,(tupleKind (bw P w)).is h x.1 x.2.1:=by
  intro l m q
  induction q with
  |nil=>intro x b;exact nomatch b
  |@cons p q ps B f t g=>
   intro x b;rcases Qv.mp b with e | b
   .subst e;exact pN d (by rw[<-f.1];exact f.2.1)
   .exact g x b
 exact c r x b
theorem J7(b:gb P w H h)(e:H a=@(.dT kvs)):kvs.length<=sizeLine/\(a==sysModules)=false/\
  ∃xs,KT H kvs xs/\h.DictOfH (tupleKind (bw P w)) a xs:=zd b (.inl e)
end
def B8(H:Hp)(a:Addr)(y:V)(r:Option V):Prop:=
 (∃kvs k,Rd H a (.dK kvs)/\y=kV k/\r=jK kvs k)\/∃kvs k b,Rd H a (.dT kvs)/\y=.ref b/\H b=some (.tup (k.map kV))/\r=jK kvs k
def Ge(H:Hp)(a:Addr)(y v:V)(H':Hp):Prop:=
 (∃kvs k,H a=some (.dK kvs)/\y=kV k/\kvs.length<sizeLine/\H'=upd H a (.dK (putK kvs k v)))\/
 ∃kvs k b,H a=some (.dT kvs)/\y=.ref b/\H b=some (.tup (k.map kV))/\kvs.length<sizeLine/\H'=upd H a (.dT (putK kvs k v))
theorem B8.k{a:Addr}{kvs:List (Key×V)}{k:Key}(e:H a=@(.dK kvs)):B8 H a (kV k) (jK kvs k):=.inl ⟨kvs,k,.inl e,rfl,rfl⟩
theorem Ge.k{a:Addr}{kvs:List (Key×V)}{k:Key}{v:V}(e:H a=@(.dK kvs))(b:kvs.length<sizeLine):Ge H a (kV k) v (upd H a (.dK (putK kvs k v))):=.inl ⟨kvs,k,e,rfl,b,rfl⟩
section
variable{X:Cx}{aa:List (Addr×Obj)}{Y:St}{H:Hp}{s:Shared}{a:Addr}{y v:V}{u r:Value}{o:Option V}{A:Around}{E:Value->Shared->Prop}
theorem Inv.big(I:Inv X aa Y H s):sysModules<s⁻¹:=by
 have h:mainGlobals<s⁻¹:=(I.mod.glob.keeps I.bk).lt;exact UL 'd' h
theorem MY{Q:Value->Shared->Prop}(n:A.units+1<cLine)(I:Inv X aa Y H s)(g:B8 H a y o)(m:RelV y u)(h:∀j,Inv X aa Y H j->Q (.bool o.isSome) j) :
  wpAny (model X.prog X.w) A (compareOp .In u (.ref a)) Q E s:=by
 rcases g with⟨kvs,k,e,f,l⟩ | ⟨kvs,k,b,e,f,p,l⟩
 .subst f;let⟨z,d,t,c,i⟩:=u5 I.hok e;refine wpAny_in_of (nZ m) d i.mapOf ?_;rw[<-(c.val k).gi,<-l];exact h _ (I.tok _)
 .subst f;cases (show u=Value.ref b from m);let⟨z,d,xs,c,i⟩:=zd I.hok e;refine wpAny_in_heap (TM n) (pN I.hok p) d i ?_;have q:=(c.val k).gi;rw[TY] at q;rw[<-q,<-l];exact h _ (I.tok _)
theorem B9{Q:Value->Shared->Prop}(n:A.units+1<cLine)(I:Inv X aa Y H s)(g:B8 H a y o)(m:RelV y u)(h:∀j,Inv X aa Y H j->Q (.bool (!o.isSome)) j) :
  wpAny (model X.prog X.w) A (compareOp .NotIn u (.ref a)) Q E s:=by
 rcases g with⟨kvs,k,e,f,l⟩ | ⟨kvs,k,b,e,f,p,l⟩
 .subst f;let⟨z,d,t,c,i⟩:=u5 I.hok e;refine wpAny_notIn_of (nZ m) d i.mapOf ?_;rw[<-(c.val k).gi,<-l];exact h _ (I.tok _)
 .subst f;cases (show u=Value.ref b from m);let⟨z,d,xs,c,i⟩:=zd I.hok e;refine wpAny_notIn_heap (TM n) (pN I.hok p) d i ?_;have q:=(c.val k).gi;rw[TY] at q;rw[<-q,<-l];exact h _ (I.tok _)
theorem pO{h':Heap}{t':Nat}{c:HO}(I:Inv X aa Y H s)(f:JC (H a))(g:Heap.SameBut a s.heap h')(h:∃q,h'.get? a=some q)(d:bA X.prog X.w (upd H a c) h' a c) :
  Inv X aa Y (upd H a c) {s with heap:=h',toks:=t'}:=
 I.write (x:=a) (e:=a) f (.inl rfl) (λ b q i z=>(g.2 b i).trans z) h d
theorem ze{h':Heap}{kvs:List (Key×V)}{vs:List (Key×Value)}(z:kvs.length<=sizeLine)(c:(a==sysModules)=false)(b:KV kvs vs)(d:h'.DictOf (bw P w) a vs) :
  bA P w H' h' a (.dK kvs):=⟨z,c,vs,b,d⟩
theorem Iq{Q:Unit->Shared->Prop}(M:A.units+1<cLine)(I:Inv X aa Y H s)(g:Ge H a y v H')(D:RelV y u)(F:RelV v r)(h:∀C,Inv X aa Y H' C->Q () C) :
  wpAny (model X.prog X.w) A (setItem (.ref a) u r) Q E s:=by
 rcases g with⟨kvs,k,e,t,l,x⟩ | ⟨kvs,k,b,e,t,K,l,x⟩
 .subst t x;let⟨z,p,L,d,B⟩:=D5 I.hok e;have j:L.length<=sizeLine:=by rw[<-d.length];exact z
  have n:(putK kvs k v).length<=sizeLine:=by have:=gX kvs k v;omega
  refine wpAny_setItem_pairs (hsz:=j) (nZ D) B λ G f m=>h _ ?_;have N:∃q,G.get? a=some q:=let ⟨q,_,_,i,_⟩:=f;⟨q,i⟩;exact pO I (by rw[e];exact True.intro) m N (ze n p (d.put k F) f)
 .subst t x;cases (show u=Value.ref b from D);let⟨z,p,xs,d,B⟩:=J7 I.hok e;have j:xs.length<=sizeLine:=by rw[<-TZ d];exact z
  have n:(putK kvs k v).length<=sizeLine:=by have:=gX kvs k v;omega
  refine wpAny_setItem_heap (hsz:=j) (TM M) (pN I.hok K) B λ G f m=>h _ ?_;let⟨q,U,W,i,T,S,R,_,O⟩:=f;refine pO I (by rw[e];exact True.intro) m ⟨q,i⟩ ⟨n,p,_,(d.put k K F).keeps λ c Z J=>?_,q,U,W,i,T,S,R,O⟩;rw[aq (JB J e (λ z=>nomatch z))];exact J
end
theorem qU(h:Heap)(a:sysModules<h.objs.size):bA P w H (h.push {cls:=.type "dict",data:=.dict #[]}) h.objs.size (.dK []):=
 ⟨RB _,RD.mpr (Ne.symm (Qo a)),[],.nil,Heap.DictOf.new h⟩
def pP:List (TE×TE)->St->Hp->(List (V×V)->Hp->Prop)->Prop
 | [],_,H,Q=>Q [] H
 |(tk,a)::r,Y,H,Q=>tk Y H λ x e=>a Y e λ y d=>pP r Y d λ b c=>Q ((x,y)::b) c
abbrev VV:List (V×V)->List (Value×Value)->Prop:=Paired λ p q=>RelV p.1 q.1/\RelV p.2 q.2
def Ir(X:Cx)(pos:Pos)(b:List (Option Expr))(a:List Expr)(g:List (TE×TE)):Prop:=
 ∀(d:List (Addr×Obj)) (s:Shared) (Y:St) (H:Hp) (Q:List (V×V)->Hp->Prop),Inv X d Y H s->pP g Y H Q->
  wpAny (model X.prog X.w) X.A (evalPairs (pairTrees b a X.env pos)) (λ e f=>∃c H',Inv X d Y H' f/\VV c e/\Q c H') X.xe s
theorem Cb:Ir X pos [] [] []:=λ a s Y H Q I h=>pairTrees_nil_walk ⟨[],H,I,.nil,h⟩
theorem zf{k v:Expr}{ks:List (Option Expr)}{vs:List Expr}{tk c:TE}{d:List (TE×TE)}(q:PE X k tk)(o:PE X v c)(p:Ir X pos ks vs d) :
  Ir X pos (some k::ks) (v::vs) ((tk,c)::d):=λ b s Y H Q I h=>
 pairTrees_cons_walk (bP (q b s Y H _ I h) λ u f ⟨x,C,z,i,m⟩=>bP (o b f Y C _ z m) λ E e ⟨y,B,t,g,l⟩=>
  bP (p b e Y B _ t l) λ D F ⟨n,A,r,a,j⟩=>⟨(x,y)::n,A,r,.cons ⟨i,g⟩ a,j⟩)
def fX(kvs a:List (Key×V)):List (Key×V):=a.foldl (λ b c=>putK b c.1 c.2) kvs
theorem KV.merge:∀{a:List (Key×V)} {b:List (Key×Value)} {kvs:List (Key×V)} {vs:List (Key×Value)},KV a b->KV kvs vs->KV (fX kvs a) (merged vs b):=by
 intro a b kvs vs r;unfold KV at r
 induction r generalizing kvs vs with
 |nil=>intro q;exact q
 |@cons p q ps f h t d=>
  intro c;have e:KV (putK kvs p.1 p.2) (stored vs q.1 q.2):=by
   have:=c.put p.1 h.2;rw[<-h.1];exact this
  exact d e
theorem iR:∀(a kvs:List (Key×V)),(fX kvs a).length<=kvs.length+a.length
 | [],kvs=>by show kvs.length<=kvs.length+0;omega
 |p::r,kvs=>by
  have c:=iR r (putK kvs p.1 p.2);have b:=gX kvs p.1 p.2;show (fX (putK kvs p.1 p.2) r).length<=_;rw[QO];omega
theorem lK{P:Program}{w:World}:∀{kvs:List (Key×V)} {ws:List (Value×Value)},VV (kvs.map λ e=>(kV e.1,e.2)) ws->∃d,Carries (bw P w) ws d/\KV kvs d
 | [],_,r=>by rw[Tp] at r;cases r;exact⟨[],True.intro,.nil⟩
 |p::kvs,_,r=>by
  rw[QF] at r;cases r with
  |@cons a b as bs h t=>
   let⟨d,c,q⟩:=lK (P:=P) (w:=w) t;let⟨g,f⟩:=b;exact⟨(p.1,f)::d,⟨nZ h.1,rfl,c⟩,.cons ⟨rfl,h.2⟩ q⟩
def J8(d:List (TE×TE)):TE:=fun Y H Q=>∀p,H p=none->pP d Y (upd H p (.dK [])) λ c b=>b p=some (.dK [])/\∃kvs:List (Key×V),c=kvs.map (λ a=>(kV a.1,a.2))/\kvs.length<=15/\Q (.ref p) (upd b p (.dK (fX [] kvs)))
theorem Cd{b:List (Option Expr)}{d:List Expr}{k:List (TE×TE)}(h:Ir X pos b d k)(f:b.all (·.isSome)=true)(B:b.length=d.length)(F:b≠[])
  (L:b.length<=15):PE X (.Dict b d pos) (J8 k):=by
 intro K s Y H Q I q;have A:=I.hok.fresh (Qf s⁻¹);have M:=I.laid (a:=s⁻¹) (o:=.dK []) (h':=s.heap.push {cls:=.type "dict",data:=.dict #[]}) (t':=s.toks) (λ _ _ q=>Qd _ q) (Qf _) (qU s.heap I.big);refine wpAny_Dict_walk (knd:=bw X.prog X.w) f B F L (bP (h K _ Y _ _ M (q _ A)) λ N O ⟨R,T,j,i,e,kvs,G,S,r⟩=>?_);subst G;let⟨m,c,n⟩:=lK (P:=X.prog) (w:=X.w) i;let⟨z,D,l,p,J⟩:=D5 j.hok e;cases p;refine⟨m,c,J,λ h' g v=>⟨.ref s⁻¹,_,?_,rfl,r⟩⟩;have t:(fX [] kvs).length<=sizeLine:=by
  have E:=iR kvs [];rw[Sl] at E;rw[RP];omega
 have C:∃q,h'.get? s⁻¹=some q:=let ⟨q,_,_,x,_⟩:=g;⟨q,x⟩;exact pO j (by rw[e];exact True.intro) v C (ze t D (n.merge .nil) g)
end L2
namespace Att
open PySem PySem.W PySem.Calls PyProof.Rows List
theorem kr{P:Params}{h:Heap}:∀(ns:List Int) (vs:List Value),WellAll P h vs (ns.map WData.int)->IntsAre vs ns:=by
 intro ns
 induction ns with
 |nil=>
  intro vs w;rw[Tp] at w;cases w;exact .nil
 |cons n ns c=>
  intro vs w;rw[QF] at w;cases w with
  |cons a b=>
   cases a;exact .cons _ _ (c _ b)
theorem wX{l:OpenLaw}{n:Nat}(p:l.most=some n){P:Params}{h:Heap}{args:List WData}{b:List Value}
  (c:l.row.toRowW.claim.pre args=true) (i:WellAll P h b args) :
  ∃a vs ns,b=[Value.ref a]/\args=[WData.list (ns.map WData.int)]/\h.get? a=some {cls:=.type "list",data:=.seq vs.toArray}/\IntsAre vs ns/\ns.length<=n:=by
 have j:WShape.hasAll [] args [.list .int]=true:=(pre_splitW c).1;have k:l.pre.holds [] {args:=args}=true:=(pre_splitW c).2;let⟨d,r,rfl,u,t⟩:=hasAllW_cons j;obtain rfl:=hasAllW_nil t;let⟨v,rfl,s⟩:=hasW_list u;let⟨ns,rfl⟩:=items_int s;have e:ns.length<=n:=by
  unfold OpenLaw.pre at k;have g:(WTm.not (.lt (.lit (.int (n:Int))) (.len (.arg 0)))).holds [] {args:=[.list (ns.map .int)]}=true:=by
   have g:=(holds_andW k).1;rw[p] at g;exact g
  have f:=condW_of g (w_not (w_lt w_lit (w_len_list (w_arg rfl))));rw[Qq] at f;refine T5 λ q=>?_;have m:(n:Int)<((ns.length:Nat):Int):=by omega
  first
   |(rw[QS m] at f;exact absurd f 'd')
   |(simp at f;omega)
 cases i with
 |cons w1 w2=>
  cases w2;cases w1 with
  |list o hall=>exact⟨_,_,ns,rfl,rfl,o,kr ns _ hall,e⟩
theorem wY(l:OpenLaw)(args:List WData):l.row.toRowW.claim.post args (.bool true) args=true:=
 postW_of (r:=l.row.toRowW) (X:=(true==true))
  (show WShape.has [] (.bool true) .bool=true by first | rfl | decide | simp[WShape.has,WShape.arms,WShape.armsAll])
  (show (WTm.eq .res (.lit (.bool true))).value [] {args:=args,res:=@(.bool true),after:=args}=some (.bool (true==true)) from w_eq_bool (w_res rfl) w_lit) rfl
theorem qV{l:OpenLaw}{n:Nat}{q:Program}{loose:List Str}{XP:(Str->Option Value)->Heap->Prop}{YP:World->Heap->Prop}{d:DefRec}
  (K:l.most=some n) (z:d.params.defaults=[])
  (m:∀(w:World) (c b:Shared) (s v:Str->Option Value) (k:Addr) (o:Obj) (u t g:Value) (a:Addr) (vs:List Value) (ns:List Int),
   Ground q loose [] XP w c s v b.heap->YP w b.heap->
   b.heap.get? k=some o->o.data=.func (docDef d.name d.params d.body d.scope u t g)->b.heap.CodeRec t d.name->s d.name=some (.ref k)->
   b.heap.get? a=some {cls:=.type "list",data:=.seq vs.toArray}->IntsAre vs ns->ns.length<=n->b.gens=#[]->
   codeAny (model l.prog w) callerA (.call (.ref k) ⟨[.ref a],[]⟩) (λ r p=>r=.ok (.ret (.bool true))/\OldK b.heap p.heap/\p.os=b.os/\AllBare p.gens) b) :
  WalkO q loose XP YP l.row.toRowW d [] (λ f vs=>PySem.call f vs):=by
 intro w c b s v G T k o u t g S F J O A D y N E B U h C H x M;obtain rfl:S=.none:=Dflts.none D z;obtain rfl:F=.none:=Dflts.noKw D;let⟨a,vs,ns,rfl,rfl,i,e,j⟩:=wX K h x;refine enter_call (Rz (m w c b s v k o u t g a vs ns G T J (fd_plain O) A y i e j N) λ r p I=>?_);let⟨rfl,R,Q,P⟩:=I;exact⟨.inl ⟨.bool true,.bool true,[],rfl,λ _=>rfl,.bool true,wY l _,λ _=>⟨List.Pairwise.nil,λ _ L=>(nomatch L)⟩⟩,R,Q,P⟩
end Att
namespace L2
open PySem PySem.Spec PyProof.Rows List
theorem n6:∀{vs:List Value} {ns:List Int},IntsAre vs ns->Vals (ns.map V.int) vs
 |_,_,.nil=>.nil
 |_,_,.cons n t h=>.cons ⟨t,rfl⟩ (n6 h)
def Gf(H:Hp):Prop:=∀b,H b=none\/∃o a,H b=@(.frz o (.lst a))
theorem zg{P:Program}{w:World}{K:ae}{t L:Str->Option Value}{CX:uV}{k:Nat}{N a:Addr}{Z:FuncData}{x:Str}{sp:Sp}{c:Shared}{vs:List Value}{ns:List Int}
  (KX:K.In c.heap) (B:c.heap.Ns mainGlobals t) (f:c.heap.Ns builtinsNs L) (N9:∀x:Str,x≠"__name__"->L x=bootBuiltins x) (C:c.heap.NoLimit) (hg:c.gens=#[])
  (I:c.heap.get? a=some {cls:=.type "list",data:=.seq vs.toArray}) (U:IntsAre vs ns) (T:ns.length<=sizeLine) (hr:bV k callerA)
  (F:∀i:Heap,K.In i->i.Ns mainGlobals t->cg P w K t i CX k N Z [x] sp) (l:∀(s:Shared) (u:Value),BindsTo s Z ⟨[u],[]⟩ [(x,u)])
  (tO:∀H:Hp,Gf H->gU K H a (ns.map V.int)->sp [.ref a] H (λ v _=>v=.bl true) λ _ _ _=>False)
  (M0:∀H e g,CX [] H c (λ _ _ _=>False) e g->False) :
  codeAny (model P w) callerA (.call (.ref N) ⟨[.ref a],[]⟩) (λ r g=>r=.ok (.ret (.bool true))/\OldK c.heap g.heap/\g.os=c.os/\AllBare g.gens) c:=by
 have S:=n6 U;have M8:=U.length;have j:∀H:Hp,Gf H->gU K H a (ns.map V.int)->gb P w H c.heap->(∀b,H b≠none->b=a)->(H a≠none->K.lookup a=none)->
   codeAny (model P w) callerA (.call (.ref N) ⟨[.ref a],[]⟩) (λ r g=>r=.ok (.ret (.bool true))/\OldK c.heap g.heap/\g.os=c.os/\AllBare g.gens) c:=by
  intro H X hS A Y hK;have R:∀{b:Addr} {o:Obj},c.heap.get? b=some o->H b=none->(pB c.heap H).get? b=some o:=λ e n=>yC e n;have J1:∀{b:Addr} {o:Obj} {D:Array DictEntry} {E:Nat},c.heap.get? b=some o->o.data=.dict D E->H b=none:=λ {b o D E} e d=>by
   cases q:H b with
   |none=>rfl
   |some u=>
    have O:b=a:=Y b (by rw[q];simp);subst O;rw[I] at e;cases e;have d':Data.seq vs.toArray _=Data.dict D E:=d;cases d'
  have J:∀{b:Addr} {m:Str->Option Value},c.heap.Ns b m->(pB c.heap H).Ns b m:=λ {b m} ⟨o,D,E,e,d,r⟩=>⟨o,D,E,R e (J1 e d),d,r⟩;have Oa:K.In (pB c.heap H):=λ b o e=>R (KX b o e) (by
   cases q:H b with
   |none=>rfl
   |some u=>
    have O:b=a:=Y b (by rw[q];simp);subst O;rw[hK (by rw[q];simp)] at e;cases e)
  have hM:Mod K t (pB c.heap H):=⟨Oa,J B,⟨L,J f,N9⟩,let ⟨mc,h1,h2⟩:=C;⟨mc,J h1,h2⟩⟩;have e0:tN P w K t (pB c.heap H) callerA [] c H:=⟨rfl,hM,λ b o e=>BA e,UI (wI _ _),trivial,λ b f=>absurd (show b∈([]:List Addr) from f) 's',A,.of_eq hg⟩;refine Rz ((F _ Oa (J B)).run callerA [] c H ⟨[.ref a],[]⟩ [.ref a] [.ref a] _ _ hr e0 (l c (.ref a)) %[|rfl] (tO H X hS)) λ r g h=>?_;cases r with
  |error e=>exact(M0 H e g h).elim
  |ok fl=>
   cases fl with
   |next=>exact False.elim h
   |brk=>exact False.elim h
   |cont=>exact False.elim h
   |ret u=>
    let⟨v,H',os,G,Q,y,r',q⟩:=h;have q':v=.bl true:=q;subst q';obtain rfl:u=Value.bool true:=r';refine⟨rfl,OldK.of_keep λ b o e=>?_,os,G⟩;cases q:H b with
    |none=>exact Q.keep b o e q (by intro z;exact absurd (show b∈([]:List Addr) from z) 's') 's'
    |some u=>
     rcases X b with z | ⟨ob,xs,z⟩
     .rw[q] at z;cases z
     .have z2:=Q.gS b ob _ z;let⟨e1,_⟩:=A b _ z;let⟨e2,_⟩:=y b _ z2;rw[e] at e1;cases e1;exact e2
 cases M:K.lookup a with
 |some o=>
  have e:=KX a o M;rw[I] at e;cases e;refine j (λ _=>none) (λ _=>.inl rfl) (.inr ⟨_,vs.toArray,_,M,rfl,rfl,rfl,by rw[Qi,M8];exact T,~~~S⟩) (λ b u z=>by have p:(none:Option HO)=some u:=z;cases p) (λ b z=>absurd rfl z) λ z=>absurd rfl z
 |none=>
  refine j (λ b=>if b=a then some (.frz {cls:=.type "list",data:=.seq vs.toArray} (.lst (ns.map V.int))) else none) (λ b=>?_) (.inl (.inr ⟨{cls:=.type "list",data:=.seq vs.toArray},Qn rfl⟩)) (λ b u z=>?_) (λ b z=>?_) λ _=>M
  .by_cases f:b=a
   .exact .inr ⟨_,_,Qn f⟩
   .exact .inl (Qu f)
  .by_cases f:b=a
   .have p:=(Qn f).symm.trans z;cases p;subst f;exact⟨I,by rw[Qq];exact T,vs,_,S,I⟩
   .have p:=(Qu f).symm.trans z;cases p
  .by_cases f:b=a
   .exact f
   .exact absurd (Qu f) z
end L2
namespace L2
open PySem PySem.Spec PyProof.Rows List
theorem Ce{l:PySem.W.OpenLaw}{n k:Nat}{q:Program}{loose:List Str}{XP:(Str->Option Value)->Heap->Prop}{YP:World->Heap->Prop}{d:DefRec}{K:Params->ae}{CX:World->uV}{sp:World->Sp}{x:Str}
  (J:l.most=some n) (y:n<=sizeLine) (A:d.params.defaults=[]) (I:bV k callerA)
  (O:∀(w:World) (h:Heap),YP w h->(K w.params).In h)
  (F:∀(w:World) (j:Str->Option Value) (r:Addr) (h:Heap),(K w.params).In h->h.Ns mainGlobals j->j d.name=some (.ref r)->
   ∃B:FuncData,(∀(s:Shared) (u:Value),BindsTo s B ⟨[u],[]⟩ [(x,u)])/\
    ∀base:Heap,(K w.params).In base->base.Ns mainGlobals j->cg l.prog w (K w.params) j base (CX w) k r B [x] (sp w))
  (E:∀(w:World) (H:Hp) (a:Addr) (ns:List Int),ns.length<=n->Gf H->gU (K w.params) H a (ns.map V.int)->sp w [.ref a] H (λ v _=>v=.bl true) λ _ _ _=>False)
  (X:∀(w:World) (H:Hp) (s:Shared) (e:Value) (t:Shared),CX w [] H s (λ _ _ _=>False) e t->False) :
  PySem.W.WalkO q loose XP YP l.row.toRowW d [] (λ f vs=>PySem.call f vs):=by
 refine Att.qV J A λ w C m j Z r o Y cd S a vs ns G U ho hd M z p i c L=>?_;have D:=O w _ U;let⟨B,N,R⟩:=F w j r _ D G.T.g z;exact zg D G.T.g G.T.b G.T.builtins G.T.nolimit L p i (Qk c y) I R N (λ H Q P=>E w H a ns c Q P) λ H e t=>X w H m e t
end L2
namespace L2
open PySem PySem.Spec PyProof.Rows List
def inClass(s:Stmt)(j:Nat):Stmt:=match s with
 |.ClassDef _ _ _ body _ _ _ _ _ _ _=>body.getD j (.Pass ⟨0,0,0,0⟩)
 |_=>.Pass ⟨0,0,0,0⟩
def iF(s:Stmt):Arguments:=match s with
 |.FunctionDef _ a _ _ _ _ _ _ _ _=>a
 |_=>{posonlyargs:=[],args:=[],vararg:=none,kwonlyargs:=[],kw_defaults:=[],kwarg:=none,defaults:=[]}
def cK(s:Stmt):List Stmt:=match s with
 |.FunctionDef _ _ b _ _ _ _ _ _ _=>b
 |_=>[]
def aI(s:Stmt):Scope:=match s with
 |.FunctionDef _ _ _ _ _ _ sc _ _ _=>sc
 |_=>{kind:=.function,names:=[],isGenerator:=false,isCoroutine:=false}
abbrev Cg:uV:=λ _ _ _ _ _ _=>False
abbrev E0:XK:=λ _ _ _=>False
structure D6(K:ae)(x qual:Str)(st:Stmt)(f:Addr)(fd:FuncData):Prop where
 ex:∃(oc:Value) (od:Option Addr) (kV doc pm:Value) (an:Option Addr) (cdv ct:Value) (osl:Array (Option Value)),
  fd=PySem.W.fnOf x qual (iF st) (cK st) (aI st) .none kV doc pm an cdv ct/\K.lookup f=some ⟨oc,od,.func fd,osl⟩/\PySem.W.codeIn K cdv qual=true
 kp:PySem.W.keepIn K (.ref f)=true
section
variable{P:Program}{w:World}{K:ae}{mg:Str->Option Value}{base:Heap}
theorem D6.ok{x qual:Str}{st:Stmt}{f:Addr}{g:FuncData}{N c:List Str}{k:Nat}{sp:Sp}(F:D6 K x qual st f g)(S:gC N c (aI st))(d:∀vs H Q E,sp vs H Q E->vs.length=c.length)
  (b:∀(a:Value) (A:Around) (outer:List Env) (s:Shared) (H:Hp) (vs:List V) (Q:VK) (E:XK),bV k (A.deeper (envOfC qual (aI st) s⁻¹ f a))->sp vs H Q E->
   ∃t,iE (jc Cg P w K mg base N qual (aI st) f a A outer s H E).fP (cK st) t/\t {nx:=λ _ o=>Q .non o,rt:=Q} (start N vs) H):cg P w K mg base Cg (k+1) f g c sp:=by
 let⟨u,r,v,n,p,z,a,y,j,rfl,l,e⟩:=F.ex;refine D0 l e S d λ A outer s H vs Q E m i=>?_;let⟨t,h,q⟩:=b a A outer s H vs Q E m i;exact⟨t,h.fP,q⟩
theorem Gg{x qual:Str}{st:Stmt}{f:Addr}{j:Value}{i h:Option Addr}{d:Array (Option Value)}{g b e a ct:Value}(l:K.lookup f=some ⟨j,i,.func (PySem.W.fnOf x qual (iF st) (cK st) (aI st) .none g b e h a ct),d⟩)
  (c:PySem.W.codeIn K a qual=true) (k:PySem.W.keepIn K (.ref f)=true):D6 K x qual st f (PySem.W.fnOf x qual (iF st) (cK st) (aI st) .none g b e h a ct):=⟨⟨j,i,g,b,e,h,a,ct,d,rfl,l,c⟩,k⟩
end
end L2
end
section
namespace L2
open PySem PySem.Spec PyProof.Rows List
variable{P:Program}{env:Env}{w:World}
def fY:List Nat->St->St
 | [],Y=>Y
 |j::r,Y=>fY r (Y.set j none)
theorem u9:∀(js:List Nat) (Y:St),(fY js Y).length=Y.length
 | [],_=>rfl
 |j::r,Y=>by rw[fY,u9 r,RH]
theorem qW:∀{js:List Nat} {Y:St} {i:Nat} {v:V},(fY js Y)[i]?=some (some v)->Y[i]?=some (some v)/\i∉js
 | [],_,_,_,h=>⟨h,by simp⟩
 |j::r,Y,i,v,h=>by
  let⟨a,c⟩:=qW (js:=r) h
  by_cases e:j=i
  .subst e;rw[UM] at a;rw[Qn rfl] at a;split at a<;>cases a
  .rw[QA e] at a;exact⟨a,λ b=>(Qv.mp b).elim (λ q=>e q.symm) c⟩
def dF(env:Env):List (Str×NameKind)->List (Str×Addr)->List (Str×Addr)
 | [],acc=>acc
 |(n,k)::r,acc=>dF env r (if k==.free then (match env.cells.lookup n with | some c=>(n,c)::acc | none=>acc) else acc)
theorem iS:∀(names:List (Str×NameKind)) (b:List (Str×Addr)),(∀y∈names,y.2=.free->∃c,env.cells.lookup y.1=some c)->
  (forIn (m:=Sem) names b λ x r=>match x with | (name,kind)=>if (kind==NameKind.free)=true then do let a <-cellOf env name;pure (ForInStep.yield ((name,a)::r)) else pure (ForInStep.yield r))=pure (dF env names b)
 | [],b,_=>rfl
 |(n,k)::r,b,h=>by
  rw[forIn_cons];have d:=λ b=>iS r b λ y g=>h y (QC _ g)
  by_cases f:k=.free
  .subst f;let⟨c,e⟩:=h (n,.free) QM rfl;have e:env.cells.lookup n=some c:=e;erw[Rh,Qx,cellOf,e,pure_bind,dF];exact d _
  .have i:(k==NameKind.free)=false:=by simpa using f
   erw[i,QJ,QY,pure_bind,dF];exact d _
theorem nA{scope:Scope}(h:∀y∈scope.names,y.2=.free->∃c,env.cells.lookup y.1=some c):closureFor scope env=pure (dF env scope.names []):=by
 have q:=iS (env:=env) scope.names [] h;erw[closureFor]
 first
  |(rw[q];rfl)
  |(erw[pure_bind,bind_pure_comp,map_pure] at q ⊢;rw[q];rfl)
  |exact(RU (· >>= pure) q)
  |trace_state
theorem jL{x:Str}{c:Addr}:∀(names:List (Str×NameKind)) (a:List (Str×Addr)),(∀c,a.lookup x=some c->env.cells.lookup x=some c)->(dF env names a).lookup x=some c->env.cells.lookup x=some c
 | [],a,h,e=>h _ e
 |(n,k)::r,a,h,e=>by
  refine jL r _ ?_ e;intro j b;split at b
  .split at b
   .ext i g
    by_cases d:x=n
    .subst d;erw[Qs,Rh] at b;cases b;exact g
    .have f:(x==n)=false:=by simpa using d
     erw[Qs,f] at b;exact h _ b
   .exact h _ b
  .exact h _ b
theorem n8{x:Str}:∀(names:List (Str×NameKind)) (a:List (Str×Addr)),(∃c,a.lookup x=some c)->∃c,(dF env names a).lookup x=some c
 | [],a,h=>h
 |(n,k)::r,a,h=>by
  refine n8 r _ ?_;split
  .split
   .ext f g
    by_cases b:x=n
    .subst b;exact⟨f,by simp[Qs]⟩
    .have d:(x==n)=false:=by simpa using b
     let⟨c,e⟩:=h;exact⟨c,by erw[Qs,d];exact e⟩
   .exact h
  .exact h
theorem jM{x:Str}:∀(names:List (Str×NameKind)) (a:List (Str×Addr)),(x,NameKind.free)∈names->(∃c,env.cells.lookup x=some c)->∃c,(dF env names a).lookup x=some c
 |(n,k)::r,a,hm,⟨c,e⟩=>by
  rcases Qv.mp hm with q | q
  .cases q;refine n8 r _ ⟨c,?_⟩;erw[Rh,Qx,e,Qs]
  .exact jM r _ q ⟨c,e⟩
structure gD(N:List Str)(js:List Nat)(scope Ob:Scope):Prop where
 kind:scope.kind=.function
 cell:∀y∈scope.names,y.2=.cell->scope.names.lookup y.1=some .cell
 loc:∀y∈scope.names,y.2=.local->scope.names.lookup y.1=some .local
 own:∀p∈N.zipIdx,(scope.names.lookup p.1=some .local\/scope.names.lookup p.1=some .cell)->p.2∈js
 free:∀y∈scope.names,y.2=.free->Ob.names.lookup y.1=some .cell\/Ob.names.lookup y.1=some .free
theorem eT{env:Env}:∀{names:List (Str×NameKind)} {x:Str} {b:NameKind},
  (names.map λ (n,k)=>if (k==NameKind.free&&env.scope.kind==.function&&env.kindOf n==some .cell) then (n,NameKind.cell) else (n,k)).lookup x=some b->
  ∃k,names.lookup x=some k/\(b=k\/(k=.free/\b=.cell))
 | [],_,_,h=>by simp at h
 |(n,k)::r,x,b,h=>by
  have g:=@eT env r x b;have h:List.lookup x ((if (k==NameKind.free&&env.scope.kind==.function&&env.kindOf n==some .cell)=true then (n,NameKind.cell) else (n,k))::(r.map λ (n,k)=>if (k==NameKind.free&&env.scope.kind==.function&&env.kindOf n==some .cell) then (n,NameKind.cell) else (n,k)))=some b:=h
  by_cases c:(k==NameKind.free&&env.scope.kind==.function&&env.kindOf n==some .cell)=true
  .rw[Qn c] at h;have i:k=.free:=by
    erw[Qe] at c;simpa using c.1.1
   cases a:x==n with
   |true=>
    erw[Qs,a] at h;cases h;exact⟨k,by simp[Qs,a],.inr ⟨i,rfl⟩⟩
   |false=>
    erw[Qs,a] at h;let⟨f,e,d⟩:=g h;exact⟨f,by erw[Qs,a];exact e,d⟩
  .rw[Qu c] at h;cases a:x==n with
   |true=>
    erw[Qs,a] at h;cases h;exact⟨k,by simp[Qs,a],.inl rfl⟩
   |false=>
    erw[Qs,a] at h;let⟨f,e,d⟩:=g h;exact⟨f,by erw[Qs,a];exact e,d⟩
abbrev Cx.comp(X:Cx)(scope:Scope)(cl:List (Str×Addr))(a:Shared)(H₀:Hp)(b:List Addr)(c:List (Addr×Obj)):Cx:=
 {X with s₀:=a,H₀:=H₀,env:=compEnvC scope cl a⁻¹ X.env,outer:=X.stack,stack:=X.stack,ex:=b,fn:=λ x=>scope.names.lookup x==some .cell,pn:=X.pn++c,xe:=λ _ _=>False}
section
variable{X:Cx}{aa:List (Addr×Obj)}{Y:St}{H:Hp}{s:Shared}{scope:Scope}{js:List Nat}{fp:List Addr}
theorem lM(c:gD X.N js scope X.env.scope){x:Str}(d:(relabel scope X.env).names.lookup x=some .cell\/(relabel scope X.env).names.lookup x=some .free) :
  scope.names.lookup x=some .cell\/(scope.names.lookup x=some .free/\(x,NameKind.free)∈scope.names/\(X.env.kindOf x=some .cell\/X.env.kindOf x=some .free)):=by
 have k:∃a,(relabel scope X.env).names.lookup x=some a/\(a=.cell\/a=.free):=by
  rcases d with h | h
  .exact⟨_,h,.inl rfl⟩
  .exact⟨_,h,.inr rfl⟩
 let⟨a,h,f⟩:=k;let⟨k,e,r⟩:=eT h;have b:k=.free->scope.names.lookup x=some .cell\/(scope.names.lookup x=some .free/\(x,NameKind.free)∈scope.names/\(X.env.kindOf x=some .cell\/X.env.kindOf x=some .free)):=λ g=>by
  subst g;exact .inr ⟨e,QT e,c.free _ (QT e) rfl⟩
 rcases r with r | r
 .subst r;rcases f with z | z
  .subst z;exact .inl e
  .exact b z
 .exact b r.1
theorem Gh{x:Str}:∀{names:List (Str×NameKind)} {n:Nat} {a:List (Str×Addr)},(∀y∈names,y.2=.cell->y.1≠x)->(cellsFrom n names a).lookup x=a.lookup x:=by
 intro names
 induction names with
 |nil=>intro n a _;rw[RY]
 |cons y r e=>
  intro n a h;rw[RY];let⟨d,k⟩:=y;have f:=λ y g=>h y (QC _ g)
  by_cases b:k=.cell
  .have c:(k==NameKind.cell)=true:=by simpa using b
   erw[c,Qx];rw[e f];have:=h (d,k) QM b;have i:(x==d)=false:=by simpa using this.symm
   erw[Qs,i]
  .have c:(k==NameKind.cell)=false:=by simpa using b
   erw[c,QJ,QY];exact e f
structure zh(n:Nat)(h:Heap)(cells:List (Str×Addr)):Prop where
 below:∀x c,cells.lookup x=some c->c<n
 inj:∀x y c,cells.lookup x=some c->cells.lookup y=some c->x=y
 cell:∀x c,cells.lookup x=some c->∃v,h.IsCell c v
theorem J9{lo:Nat}{base:List (Str×Addr)}:∀{names:List (Str×NameKind)} {h:Heap} {b:List (Str×Addr)},zh h.objs.size h b->lo<=h.objs.size->(∀x c,b.lookup x=some c->base.lookup x=some c\/lo<=c)->
  zh (pushCells h names).objs.size (pushCells h names) (cellsFrom h.objs.size names b)/\∀x c,(cellsFrom h.objs.size names b).lookup x=some c->base.lookup x=some c\/lo<=c:=by
 intro names
 induction names with
 |nil=>intro h b F _ m;rw[RY,pushCells.eq_def];exact⟨F,m⟩
 |cons y r q=>
  intro h b F j m;rw[RY,pushCells.eq_def];let⟨d,k⟩:=y
  by_cases t:k=.cell
  .have p:(k==NameKind.cell)=true:=by simpa using t
   erw[p,Qx];have g:(h.push {cls:=.type "cell",data:=.cell none}).objs.size=h.objs.size+1:=RA ..;rw[<-g];refine q ⟨λ x c e=>?_,λ x y c l i=>?_,λ x c e=>?_⟩ (by rw[g];omega) λ x c e=>?_
   .rw[g]
    by_cases a:x=d
    .subst a;erw[Qs,Rh] at e;cases e;exact RV _
    .have a:(x==d)=false:=by simpa using a
     erw[Qs,a] at e;exact Sd (F.below x c e)
   .by_cases a:x=d
    .by_cases f:y=d
     .exact a.trans f.symm
     .subst a;have f:(y==x)=false:=by simpa using f
      erw[Qs,Rh] at l;erw[Qs,f] at i;cases l;exact absurd (F.below y _ i) (R9 _)
    .have n:(x==d)=false:=by simpa using a
     erw[Qs,n] at l
     by_cases f:y=d
     .subst f;erw[Qs,Rh] at i;cases i;exact absurd (F.below x _ l) (R9 _)
     .have f:(y==d)=false:=by simpa using f
      erw[Qs,f] at i;exact F.inj x y c l i
   .by_cases a:x=d
    .subst a;erw[Qs,Rh] at e;cases e;exact⟨none,_,Qp _ rfl,rfl⟩
    .have a:(x==d)=false:=by simpa using a
     erw[Qs,a] at e;let⟨v,o,u,z⟩:=F.cell x c e;exact⟨v,o,Qd _ u,z⟩
   .by_cases a:x=d
    .subst a;erw[Qs,Rh] at e;cases e;exact .inr j
    .have a:(x==d)=false:=by simpa using a
     erw[Qs,a] at e;exact m x c e
  .have p:(k==NameKind.cell)=false:=by simpa using t
   erw[p,QJ,QY];exact q F j m
theorem Gi{x:Str}{lo:Nat}:∀{names:List (Str×NameKind)} {n:Nat} {a:List (Str×Addr)} {c:Addr},lo<=n->((x,NameKind.cell)∈names\/∀c,a.lookup x=some c->lo<=c)->(cellsFrom n names a).lookup x=some c->lo<=c:=by
 intro names
 induction names with
 |nil=>intro n a c _ h e;rw[RY] at e;exact(h.resolve_left 's') c e
 |cons y r j=>
  intro n a c d h e;rw[RY] at e;let⟨i,k⟩:=y
  by_cases f:k=.cell
  .have g:(k==NameKind.cell)=true:=by simpa using f
   erw[g,Qx] at e;refine j (Nat.le_succ_of_le d) ?_ e
   by_cases b:x=i
   .subst b;refine .inr λ c e=>?_;erw[Qs,Rh] at e;cases e;exact d
   .rcases h with h | h
    .rcases Qv.mp h with q | q
     .cases q;exact absurd rfl b
     .exact .inl q
    .refine .inr λ c e=>h c ?_;have b:(x==i)=false:=by simpa using b
     simpa only[Qs,b] using e
  .have g:(k==NameKind.cell)=false:=by simpa using f
   erw[g,QJ,QY] at e;refine j d ?_ e;rcases h with h | h
   .rcases Qv.mp h with q | q
    .cases q;exact absurd rfl f
    .exact .inl q
   .exact .inr h
structure CF(X:Cx)(scope:Scope)(n:Nat)(h:Heap)(cells:List (Str×Addr)):Prop where
 inj:∀x y c,cells.lookup x=some c->cells.lookup y=some c->x=y
 cell:∀x c,cells.lookup x=some c->∃v,h.IsCell c v
 old:∀x c,cells.lookup x=some c->X.env.cells.lookup x=some c\/n<c
 has:∀x,scope.names.lookup x=some .cell->∃c,cells.lookup x=some c
 out:∀x,scope.names.lookup x=some .free->cells.lookup x=(dF X.env scope.names []).lookup x
 own:∀x c,scope.names.lookup x=some .cell->cells.lookup x=some c->n<=c
theorem Inv.comp(I:Inv X aa Y H s)(n:gD X.N js scope X.env.scope)(C:∀b∈fp,jI X aa H b){a:Heap}{d:Str->Option Value}{tk:Nat}{cells:List (Str×Addr)}
  (t:∀b∈fp,b<s⁻¹) (T:a.Ns s⁻¹ d) (B:∀b o,s.heap.get? b=some o->a.get? b=some o) (hm:∀x,d x=none) (F:CF X scope s⁻¹ a cells) :
  Inv (X.comp scope cells s H fp aa) [] (fY js Y) H {s with heap:=a,toks:=tk}:=by
 have y:∀x,(x,NameKind.free)∈scope.names->∃c,X.env.cells.lookup x=some c:=λ x E=>I.ok.has x (n.free _ E rfl);have D:∀x c,(dF X.env scope.names []).lookup x=some c->X.env.cells.lookup x=some c:=λ x c e=>jL _ _ 's' e;have l:=I.jH;have V:=I.lt;refine⟨⟨I.mod,n.kind,I.ok.glob,I.ok.blt,Qf _,F.inj,λ x E=>?_,λ x c z e=>F.own x c (~~~z) e,I.ok.hd,I.ok.frames,.inl rfl,λ b f=>⟨Qo (t b f),λ x c e=>?_⟩,
  λ b o e=>I.bs b o e,Qk I.ok.bsz I.sz,λ b o e f=>?_,λ b f z=>?_,I.stack,λ b f=>I.kN b f⟩,rfl,I.bare,Un.kept B,⟨d,T,λ i x v L e2 h=>?_⟩,λ x c e=>F.cell x c e,I.hok.fresh (Qf _),λ x c e=>?_,λ p J=>?_,I.hok.kept B,?_⟩
 .rcases lM n E with g | ⟨g,j,A⟩
  .exact F.has x g
  .show ∃c,cells.lookup x=some c;rw[F.out x g];exact jM _ _ j (y x j)
 .rcases F.old x c e with e | e
  .exact(C b f).2.2.2.2.1 x c e
  .exact Ry (UL (t b f) e)
 .have q:=(C b f).2.2.2.1;rcases q with q | q
  .exact I.ok.noex b o e q
  .exact absurd (Qg e) (Ue.mpr (Qk I.ok.bsz q))
 .rcases Qv.mp (l b z) with q | q
  .exact(C b f).2.1 q
  .exact(C b f).2.2.1 q
 .let⟨c1,c2⟩:=qW e2;have h:(relabel scope X.env).names.lookup x=some .local\/(relabel scope X.env).names.lookup x=some .cell\/(relabel scope X.env).names.lookup x=some .free:=h;have M:∀{P:Prop},(scope.names.lookup x=some .local\/scope.names.lookup x=some .cell)->P:=λ G=>absurd (n.own (x,i) (by rw[mem_zipIdx_iff_getElem?];exact L) G) c2;rcases h with h | h
  .let⟨k,G,r⟩:=eT h;have:k=.local:=by
    rcases r with r | ⟨_,r⟩
    .exact r.symm
    .cases r
   subst this;exact M (.inl G)
  .rcases lM n h with g | ⟨g,j,A⟩
   .exact M (.inr g)
   let⟨m,U,W⟩:=I.loc;let⟨u,O,S⟩:=W i x v L c1 (.inr A);refine⟨u,O,.inr ⟨h,?_⟩⟩;rcases S with⟨q,_⟩ | ⟨_,c,R,Q⟩
   .rcases A with z | z<;>(rw[z] at q;cases q)
   .let⟨c',K⟩:=jM _ [] j (y x j);have:=D _ _ K;rw[R] at this;cases this;exact⟨c,(F.out x g).trans K,Q.keeps B⟩
 .rcases F.old x c e with e | e
  .exact I.freeC x c e
  .exact I.hok.fresh (Rl e)
 .rw[Rm] at J;let⟨g,j,A,h4,Z⟩:=I.pin p J;refine⟨B _ _ g,j,Qo (Qg g),λ z=>?_,Z⟩;rcases Qv.mp (l _ z) with q | q
  .exact A q
  .exact h4 q
 .rw[u9];exact I.len
theorem Inv.enter(I:Inv X aa Y H s)(p:gD X.N js scope X.env.scope)(B:∀b∈fp,jI X aa H b)(n:∀b∈fp,b<s⁻¹){Q:Env->Shared->Prop}{E:Value->Shared->Prop}
  (h:∀(cells:List (Str×Addr)) (a:Heap),(∀b o,s.heap.get? b=some o->a.get? b=some o)->CF X scope s⁻¹ a cells->Inv (X.comp scope cells s H fp aa) [] (fY js Y) H {s with heap:=a}->
   Q {scope:=scope,locals:=s⁻¹,globals:=X.env.globals,cells:=cells,qual:=X.env.qual,func:=none,code:=X.env.code,frame:=X.env.frame,builtins:=X.env.builtins} {s with heap:=a}) :
  wpAny (model X.prog X.w) X.A (newFunctionEnv scope X.env.globals (dF X.env scope.names []) [] X.env.qual none .none (some X.env)) Q E s:=by
 unfold newFunctionEnv;refine Qa (wpAny_alloc ?_);refine Qa (wpAny_layCells _ (λ _ _ _=>rfl) _ _ _ _ ?_);refine Qa (Qj (Qj ?_));have i:(s.heap.push {cls:=.type (if (some X.env).isSome=true then "dict" else "frame"),data:=.dict #[]}).objs.size=s⁻¹+1:=RA ..;have d:∀x c,(dF X.env scope.names []).lookup x=some c->X.env.cells.lookup x=some c:=λ x c e=>jL _ _ 's' e;have r:∀x c,(dF X.env scope.names []).lookup x=some c->∃v,s.heap.IsCell c v:=λ x c e=>I.cell x c (d x c e);have L:zh (s.heap.push {cls:=.type (if (some X.env).isSome=true then "dict" else "frame"),data:=.dict #[]}).objs.size (s.heap.push {cls:=.type (if (some X.env).isSome=true then "dict" else "frame"),data:=.dict #[]}) (dF X.env scope.names []):=by
  refine⟨λ x c e=>?_,λ x y c J G=>I.ok.inj x y c (d _ _ J) (d _ _ G),λ x c e=>?_⟩
  .let⟨v,o,l,_⟩:=r x c e;rw[i];exact Sd (Qg l)
  .let⟨v,o,l,D⟩:=r x c e;exact⟨v,o,Qd _ l,D⟩
 let⟨t,K⟩:=J9 (lo:=s⁻¹+1) (base:=X.env.cells) (names:=scope.names) L (by rw[i];exact Qf _) (λ x c e=>.inl (d x c e));have j:∀b o,s.heap.get? b=some o->(pushCells (s.heap.push {cls:=.type (if (some X.env).isSome=true then "dict" else "frame"),data:=.dict #[]}) scope.names).get? b=some o:=λ b o e=>pushCells_keeps _ _ _ _ (Qd _ e);have k:∀x,scope.names.lookup x=some .cell->∀c,(cellsFrom (s.heap.push {cls:=.type (if (some X.env).isSome=true then "dict" else "frame"),data:=.dict #[]}).objs.size scope.names (dF X.env scope.names [])).lookup x=some c->s⁻¹<=c:=λ x f c e=>Gi (by rw[i];exact Ru _) (.inl (QT f)) e;have F:CF X scope s⁻¹ (pushCells (s.heap.push {cls:=.type (if (some X.env).isSome=true then "dict" else "frame"),data:=.dict #[]}) scope.names) (cellsFrom (s.heap.push {cls:=.type (if (some X.env).isSome=true then "dict" else "frame"),data:=.dict #[]}).objs.size scope.names (dF X.env scope.names [])):=by
  refine⟨t.inj,t.cell,λ x c e=>?_,λ x f=>?_,λ x f=>?_,λ x c f e=>k x f c e⟩
  .rcases K x c e with q | q
   .exact .inl q
   .exact .inr q
  .have:=S0 scope.names (s.heap.push {cls:=.type (if (some X.env).isSome=true then "dict" else "frame"),data:=.dict #[]}).objs.size (dF X.env scope.names []) (.inl f);exact RS.mp this
  .refine Gh λ y u z e=>?_;have:=p.cell y u z;rw[e,f] at this;cases this
 have m:(pushCells (s.heap.push {cls:=.type (if (some X.env).isSome=true then "dict" else "frame"),data:=.dict #[]}) scope.names).Ns s⁻¹ λ _=>none:=by
  have g:(s.heap.push {cls:=.type (if (some X.env).isSome=true then "dict" else "frame"),data:=.dict #[]}).get? s⁻¹=some {cls:=.type (if (some X.env).isSome=true then "dict" else "frame"),data:=.dict #[]}:=Qp _ rfl;refine⟨_,_,_,pushCells_keeps _ _ _ _ g,rfl,?_,?_⟩
  .intro e C;simp at C
  .intro M;rfl
 exact h _ _ j F (I.comp (tk:=s.toks) p B n m j (λ _=>rfl) F)
theorem gb.off{h h':Heap}{C:Addr}(x:gb P w H h)(c:H C=none)(k:∀b o,b≠C->h.get? b=some o->h'.get? b=some o):gb P w H h':=λ a o e=>
 (x a o e).stay (λ b u d q=>k b u (by
  rintro rfl;rcases d with z | z
  .rw[z,e] at c;cases c
  .rw[z] at c;cases c) q) (λ _ q=>q) λ _ _ q=>q
theorem Inv.Gj(I:Inv X aa Y H s){h:St}{l:Hp}{i:Shared}{cl:List (Str×Addr)}(f:∀b∈fp,jI X aa H b)(c:Inv (X.comp scope cl s H fp aa) [] h l i){h':Heap}
  (d:∀b o,b≠s⁻¹->i.heap.get? b=some o->h'.get? b=some o):Inv X aa Y l {i with heap:=h'}:=by
 have r:l s⁻¹=none:=c.free;have j:∀b o,s.heap.get? b=some o->b≠s⁻¹:=λ b o e=>Qo (Qg e);have u:=c.base;refine I.DV (ch:=fp) c.os ⟨λ b o e n k a=>d b o (j b o e) (u.keep b o e n k a),λ b o e n k a=>?_,u.free,λ b o e a=>?_,u.tups,u.gS,u.iN⟩ (c.hok.off r d) c.bare λ b g=>⟨(f b g).2.2.2.1,(f b g).2.1,(f b g).2.2.2.2.1,(f b g).2.2.2.2.2⟩
 .let⟨m,q⟩:=u.slot b o e n k a;exact⟨m,d _ _ (j b o e) q⟩
 .let⟨p,q⟩:=u.there b o e a;exact⟨p,d _ _ (j b o e) q⟩
end
def lN(X:Cx)(ifs:List Expr)(t:TT):Prop:=
 ∀(a:List (Addr×Obj)) (s:Shared) (Y:St) (H:Hp) (Q:Bool->Hp->Prop),Inv X a Y H s->t Y H Q->
  wpAny (model X.prog X.w) X.A (forIn ifs true λ c r=>if r=true then do let ok <-isTrue c X.env (eval c X.env);pure (ForInStep.yield ok) else pure (ForInStep.yield r)) (TP X a Y Q) X.xe s
def Na:TT:=λ _ H Q=>Q true H
theorem zj{X:Cx}:lN X [] Na:=λ a s Y H Q I h=>wpAny_tests_nil ⟨H,I,h⟩
theorem zk{X:Cx}{c:Expr}{t:TT}(h:PT X c t):lN X [c] t:=λ a s Y H Q I q=>wpAny_tests_one (h a s Y H Q I q)
mutual
inductive Dt(K:ae)(H:Hp):V->PyData->Prop
 |non:Dt K H .non .none
 |bl (b):Dt K H (.bl b) (.bool b)
 |int (i):Dt K H (.int i) (.int i)
 |str (x):Dt K H (.str x) (.str x)
 |lst {a xs ds}:gU K H a xs->D8 K H xs ds->Dt K H (.ref a) (.list ds)
 |tup {a xs ds}:ef K H a xs->D8 K H xs ds->Dt K H (.ref a) (.tuple ds)
inductive D8(K:ae)(H:Hp):List V->List PyData->Prop
 |nil:D8 K H [] []
 |cons {x xs d ds}:Dt K H x d->D8 K H xs ds->D8 K H (x::xs) (d::ds)
end
section
variable{X:Cx}{aa:List (Addr×Obj)}{Y:St}{H:Hp}{s:Shared}
mutual
theorem Inv.reads(I:Inv X aa Y H s):∀{v:V} {d:PyData} {u:Value},Dt X.K H v d->RelV v u->∃f,Reads s.heap u d f
 |_,_,_,.non,r=>by cases r;exact⟨_,.none⟩
 |_,_,_,.bl b,r=>by cases r;exact⟨_,.bool b⟩
 |_,_,_,.int i,r=>by let⟨t,rfl⟩:=r;exact⟨_,.int i t⟩
 |_,_,_,.str x,r=>by let⟨t,rfl⟩:=r;exact⟨_,.str x t⟩
 |_,_,_,.lst h t,r=>by
  cases r;let⟨its,a,p,g⟩:=I.list h;let⟨o,ho,e,n,c⟩:=p.isList;let⟨f,ra⟩:=I.readsAll t a;exact⟨_,.list ho e c (~~~ra)⟩
 |_,_,_,.tup h t,r=>by
  cases r;let⟨its,a,p,g⟩:=I.tuple h;let⟨o,ho,e,n,c⟩:=p;let⟨f,ra⟩:=I.readsAll t a;exact⟨_,.tuple ho e c (~~~ra)⟩
theorem Inv.readsAll(I:Inv X aa Y H s):∀{v:List V} {d:List PyData} {u:List Value},D8 X.K H v d->Vals v u->∃c,ReadsAll s.heap u d c
 |_,_,_,.nil,.nil=>⟨_,.nil⟩
 |_,_,_,.cons h t,.cons r rs=>by
  let⟨c,a⟩:=I.reads h r;let⟨e,b⟩:=I.readsAll t rs;exact⟨_,.cons a b⟩
end
def Nb(K:ae):R2:=λ x y H Q=>∃d e,Dt K H x d/\Dt K H y e/\d.canLay0=true/\e.canLay0=true/\d.depth<=60/\Q (.bl (PyData.eqv d e)) H
def Nc(K:ae):R2:=λ x y H Q=>∃d e,Dt K H x d/\Dt K H y e/\d.canLay0=true/\e.canLay0=true/\d.depth<=60/\Q (.bl (!PyData.eqv d e)) H
theorem Gk(l:X.A.units+64<cLine):gf X (compareOp .Eq) (Nb X.K):=by
 intro aa s Y H x y v u Q I b a h;let⟨d,e,k,j,i,g,m,q⟩:=h;let⟨o,f⟩:=I.reads k b;let⟨n,c⟩:=I.reads j a;exact PySem.SeqAt.compareEq_reads f c i g (by have:min d.depth e.depth<=d.depth:=Nat.min_le_left _ _;omega) ⟨.bl _,H,I,rfl,q⟩
theorem Gm(l:X.A.units+64<cLine):gf X (compareOp .NotEq) (Nc X.K):=by
 intro aa s Y H x y v u Q I b a h;let⟨d,e,k,j,i,g,m,q⟩:=h;let⟨o,f⟩:=I.reads k b;let⟨n,c⟩:=I.reads j a;exact PySem.SeqAt.compareNe_reads f c i g (by have:min d.depth e.depth<=d.depth:=Nat.min_le_left _ _;omega) ⟨.bl _,H,I,rfl,q⟩
end
section
variable{X:Cx}
theorem zl(a:List Bool):((List.range a.length).all λ i=>a.getD i true)=a.all id:=by
 induction a with
 |nil=>rfl
 |cons b r c=>
  rw[QO,range_succ_eq_map,UO,all_map,UO];show (b&&_)=(b&&_);rw[<-c];rfl
theorem zm(F:X.A.handled=none):cG X (.builtin "all") (λ xs H Q=>∃(p:Addr) (a:List Bool),xs=[.ref p]/\gU X.K H p (a.map V.bl)/\Q (.bl (a.all id)) H):=by
 intro O s Y H xs G Q I r h;let⟨p,a,rfl,D,q⟩:=h;let⟨u,rfl,y⟩:=vals1 r;cases y;let⟨c,l,C,L⟩:=I.list D;have k:=C.isList;have j:p<s⁻¹:=by let⟨_,e,_⟩:=k;exact Qg e
 have f:=l.length;rw[Qq] at f;refine call_all_walk (SY k ?_);refine⟨_,_,_,_,_,_,(λ i=>a.getD i true),rfl,Walks.list (A:=X.A.in1) F s⁻¹ p (Qo j) c.toArray,⟨⟨_,Qp _ rfl,rfl,rfl⟩,k.push _⟩,?_,?_⟩
 .intro i v J R S g d;have g:c[i]?=some v:=by simpa using g
  have M:i<c.length:=(Qc.mp g).1;have n:i<a.length:=by omega
  have e:(a.map V.bl)[i]?=some (V.bl (a[i])):=by simp[n]
  let⟨u,m,B⟩:=l.get e;rw[g] at m;cases m;cases B;have:a.getD i true=a[i]:=by simp[List.getD,n]
  dsimp only at d;rw[this] at d;exact Rb d
 .intro N x E;have e:((List.range c.toArray.size).all λ i=>a.getD i true)=a.all id:=by
   rw[Qi,<-f];exact zl a
  rw[e];refine⟨.bl _,H,I.kept (t':=x) λ b o t=>E b o (λ z=>?_) (Qd _ t),rfl,q⟩;rw[QV] at z;exact Qo (Qg t) z
def Cj:V->List V->Hp->VK->Prop:=λ x b H Q=>∃l a i y,x=.ref l/\b=[.int i,y]/\H l=some (.lst a)/\0<=i/\i<=a.length/\a.length<sizeLine/\Q .non (upd H l (.lst (a.take i.toNat++[y]++a.drop i.toNat)))
theorem wZ:F9 X "list.insert" Cj:=by
 intro E s Y H x m v o Q I d f h;let⟨l,k,i,y,rfl,rfl,c,D,C,A,q⟩:=h;cases d;let⟨u,v,rfl,g,b⟩:=f.two;let⟨t,rfl⟩:=g;let⟨z,a,n,r,B,e⟩:=I.wV c;have p:(sizeLine:Nat)<2^63:=gV;refine Ud F.slot_list_insert ⟨_,e,rfl⟩ F.entry_list_insert (F.args_list_insert_3 _ _ _) (PySem.AutoListH.list_insert_list_int_val_1 l a.toArray n i t v ?_ (by rw[Qi];omega)) ⟨e,?_⟩
 .simp[Builtin.List.listFitsIndex];omega
 .refine⟨.non,_,I.tU (its':=a.take i.toNat++[v]++a.drop i.toNat) c e ?_ (((r.take _).append %[|b]).append (r.drop _)) ?_,rfl,q⟩
  .have j:¬i<0:=by omega
   erw[j,QY,Qi];have:min i.toNat a.length=i.toNat:=by omega
   rw[this];apply Array.ext';simp[S3]
  .erw[QU,Rf,SV,Su];omega
theorem tV{ns:List Str}:∀{us:List Value},Vals (ns.map V.str) us->StrsAre us ns:=by
 induction ns with
 |nil=>intro us r;cases r;exact .nil
 |cons n r b=>intro us a;cases a with | cons q t=>let⟨k,rfl⟩:=q;exact .cons _ _ (b t)
def rJoin(K:ae):V->List V->Hp->VK->Prop:=λ x b H Q=>∃z l a,x=.str z/\b=[.ref l]/\gU K H l (a.map V.str)/\(a.map (·.length)).sum+a.length*z.length<=16777216/\Q (.str (Txt.join z a)) H
theorem Ck:F9 X "str.join" (rJoin X.K):=by
 intro p s Y H x j v m Q I a b h;let⟨z,l,i,rfl,rfl,g,f,q⟩:=h;let⟨t,rfl⟩:=a;let⟨u,rfl,c⟩:=b.one;cases c;let⟨e,r,d,o⟩:=I.list g;exact join_list d.isList (by simpa using tV r) f λ n k=>⟨.str _,H,I.tok _,⟨_,rfl⟩,q⟩
end
def asc(z:Str):Bool:=z.cps.all (· < 128)
def Nd(z:Str):It:=⟨λ i _=>i<z.cps.size,λ i H x a=>a=H/\∃c,z.cps[i]?=some c/\x=.str ⟨#[c]⟩,λ i _=>z.cps.size<=i⟩
theorem zo{K:ae}{x:Expr}(z:Str)(t:Tok)(it:Addr):Turn P w K x (Nd z) [it] it (λ i h=>h.IsStrIter it "str_ascii_iterator" z t i) where
 mem:=by simp
 obj:=λ i h st b f=>by
  obtain rfl:b=it:=by simpa using f
  let⟨o,e,c,d⟩:=st;exact⟨o,e,λ v q=>by rw[d] at q;cases q⟩
 keep:=λ i h j st k=>let ⟨o,e,r⟩:=st;⟨o,k it 's' o e,r⟩
 item:=by
  intro X l hw m hc i u s Y H E I hf st a;subst l hw m;have a:i<z.cps.size:=a;let⟨f0,f1,f2,p,f4,n⟩:=hf it 's';refine wpAny_pyNext_ascii_item st (c:=z.cps[i]) (by simp[a]) λ j g y=>?_;have B:Inv X u Y H {s with heap:=j,toks:=s.toks+1}:=I.turned (λ b o f e=>(y.2 b f).trans e) f0 f1 p f4 n;let⟨o,e,c,d⟩:=id g;exact⟨_,rfl,uQ (s:={s with heap:=j,toks:=s.toks+1}) e c d 'd' ⟨.str ⟨#[z.cps[i]]⟩,H,B,⟨_,rfl⟩,⟨rfl,_,by simp[a],rfl⟩,g,λ b f=>(hf b f).1⟩⟩
 done:=by
  intro X l hw m hc i u s Y H E I hf st a;subst l hw m;have a:z.cps.size<=i:=a;let⟨f0,f1,f2,p,f4,n⟩:=hf it 's';exact wpAny_pyNext_ascii_end (I.ok.hd hc) st (by simp[a]) λ j A=>⟨rfl,I.turned (t':=s.toks) (λ b o f e=>A b o f e) f0 f1 p f4 n⟩
 self:=λ _ _ _ _ _ st h=>wpAny_pyIter_striter_ascii st h
section
variable{X:Cx}{tg:Expr}
def Nf(a:TE):TI:=fun Y H R=>a Y H λ x b=>∃z,x=.str z/\asc z=true/\R (Nd z) b
theorem Gn{l:Expr}{d:TE}(i:PE X l d):PI X tg l (Nf d):=by
 intro m s Y H R I h;refine bP (i m s Y H _ I h) λ v a ⟨x,n,c,f,g⟩=>?_;let⟨z,rfl,k,q⟩:=g;let⟨t,rfl⟩:=f;refine wpAny_pyIter_ascii k ?_;refine⟨a⁻¹,[a⁻¹],_,_,n,rfl,c.kept (t':=a.toks) λ b o e=>Qd _ e,zo z t _,⟨_,Qp _ rfl,rfl,rfl⟩,λ b j=>?_,q⟩;obtain rfl:b=a⁻¹:=by simpa using j
 exact c.qM (Qf _) (c.hok.fresh (Qf _))
end
def LQ(K:ae)(a:Addr):It:=
 ⟨λ i H=>∃b x,gU K H a b/\b[i]?=some x,λ i H x c=>∃p v,H p=none/\x=.ref p/\c=upd H p (.tup [.int i,v])/\∀b,gU K H a b->b[i]?=some v,λ i H=>∃b,gU K H a b/\b.length<=i⟩
theorem w9{K:ae}{elts:List Expr}{Z}{pos:Pos}(a e it:Addr)(t:e≠it) :
  Turn P w K (.Tuple elts Z pos) (LQ K a) [e,it] e (λ i h=>(∃old,IsEnum h e it (i:Int) old)/\h.IsListIter it a i) where
 mem:=by simp
 obj:=λ i h st b f=>by
  let⟨⟨old,he⟩,o,l,hc,hd⟩:=st;rcases Qv.mp f with rfl | f
  .refine⟨_,he,λ v q=>?_⟩;have q':Data.fields _=Data.cell v:=q;cases q'
  .obtain rfl:b=it:=by simpa using f
   exact⟨o,l,λ v q=>by rw[hd] at q;cases q⟩
 keep:=λ i h h' st k=>by
  let⟨⟨old,he⟩,o,l,r⟩:=st;exact⟨⟨old,k e 's' _ he⟩,o,k it 's' o l,r⟩
 item:=by
  intro X O hw Q hc i V s Y H E I hf st N;subst O hw Q;let⟨xs,x,D,L⟩:=N;let⟨⟨old,he⟩,hit⟩:=st;let⟨its,J,p,hz⟩:=I.list D;let⟨u,hu,ru⟩:=J.get L;let⟨f0,f1,f2,f3,f4,f5⟩:=hf e 's';let⟨F,g1,g2,g3,S,R⟩:=hf it 's';refine wpAny_pyNext_enum_item he hit p.isList (x:=u) (~~~hu) t λ h1 l hi ht hs k1=>⟨_,rfl,?_⟩;have y:e<s⁻¹:=Qg he;have M:it<s⁻¹:=by let⟨o,q,_⟩:=hit;exact Qg q
  refine TN (s:={s with heap:=h1,toks:=s.toks+1}) l λ j hE B=>?_;have k2:∀b o,b≠e->b≠it->s.heap.get? b=some o->j.get? b=some o:=λ b o U n2 q=>B.extBut b o U (k1 b o U n2 q);have Ng:j.get? s⁻¹=some {cls:=.type "tuple",data:=.seq #[.int i s.toks,u]}:=B.extBut _ _ (Ry y) ht;have hsz2:j.objs.size=s⁻¹+1:=by rw[B.1];exact hs
  have g:H s⁻¹=none:=I.hok.fresh (Qf _);have C:∀b o,H b=some o->b≠e/\b≠it:=λ b o q=>⟨(λ z=>by rw[z,f0] at q;cases q),(λ z=>by rw[z,F] at q;cases q)⟩;have hok:gb X.prog X.w (upd H s⁻¹ (.tup [.int i,x])) j:=by
   have lift:∀b o,H b=some o->bA X.prog X.w (upd H s⁻¹ (.tup [.int i,x])) j b o:=λ b o q=>
    (I.hok b o q).stay (λ c v A r=>k2 c v (by
     rcases A with z | z
     .rw[z];exact(C b o q).1
     .exact(C c _ z).1) (by
     rcases A with z | z
     .rw[z];exact(C b o q).2
     .exact(C c _ z).2) r) (λ c r=>by rw[aq (aA r g)];exact r) λ c T r=>by rw[aq (aA r g)];exact r
   intro b o q
   by_cases G:b=s⁻¹
   .subst G;rw[aB] at q;cases q;exact⟨by show 2<=sizeLine;decide,[.int i s.toks,u],.cons ⟨_,rfl⟩ %[|ru],⟨_,Ng,rfl,_,rfl⟩⟩
   .rw[aq G] at q;exact lift b o q
  have I2:Inv X V Y (upd H s⁻¹ (.tup [.int i,x])) {s with heap:=j,toks:=s.toks+1}:=by
   refine I.step (g':=s.gens) (d':=s.drawn) (ch:=[e,it]) (λ b f=>?_) (λ b o hL f d q n=>?_) (λ b o hL f d q n=>?_) (λ b o d q n=>?_) (λ b o d q=>?_) (λ b T q=>by rw[aq (aA q g)];exact q) (λ b o u q=>by rw[aq (aA q g)];exact q)
    (λ b ps q=>⟨#[],by rw[aq (aA q g),q];simp⟩) (λ m hm=>?_) hok I.bare
   .rcases Qv.mp f with rfl | f
    .exact⟨f3,f1,f4,f5⟩
    .obtain rfl:b=it:=by simpa using f
     exact⟨g3,g1,S,R⟩
   .erw[RI,R4,Te,Ug] at d;exact k2 b o d.1 d.2 q
   .erw[RI,R4,Te,Ug] at d;exact⟨o.slots,k2 b o d.1 d.2 q⟩
   .rw[aq (Qo (Qg q))];exact n
   .erw[RI,R4,Te,Ug] at d;exact⟨o,k2 b o d.1 d.2 q⟩
   .let⟨o,es,ep,q,r⟩:=hm;exact⟨o,es,ep,k2 _ o (Ne.symm f1) (Ne.symm g1) q,r⟩
  refine⟨.ref s⁻¹,_,I2,rfl,⟨_,x,g,rfl,rfl,λ T hy=>by rw[I.qK hy D];exact L⟩,⟨⟨_,by have:=hE;rw[show ((i:Int)+1)=((i+1:Nat):Int) by omega] at this;exact this⟩,?_⟩,λ b f=>?_⟩
  .let⟨o,q,r⟩:=hi;exact⟨o,B.extBut _ _ (Ne.symm t) q,r⟩
  .rcases Qv.mp f with rfl | f
   .rw[aq (Qo y)];exact f0
   .obtain rfl:b=it:=by simpa using f
    rw[aq (Qo M)];exact F
 done:=by
  intro X O hw Q hc i V s Y H E I hf st N;subst O hw Q;let⟨xs,D,L⟩:=N;let⟨⟨old,he⟩,hit⟩:=st;let⟨its,J,p,hz⟩:=I.list D;let⟨F,g1,g2,g3,S,R⟩:=hf it 's';have hl:=J.length;exact wpAny_pyNext_enum_end (I.ok.hd hc) he hit p.isList (by simp;omega) λ h' G=>⟨rfl,I.turned (t':=s.toks) (λ b o f q=>G b o f q) F g1 g3 S R⟩
 self:=λ _ _ _ _ _ st h=>by
  let⟨⟨old,he⟩,_⟩:=st;exact S4 he h
section
variable{X:Cx}
def Ka(K:ae)(ta:TA):TI:=fun Y H R=>ta Y H λ d b=>∃a,d=[.ref a]/\(∃c,gU K b a c)/\R (LQ K a) b
theorem Co{l:Expr}{ta:TA}{p pos d:Pos}{f:List Expr}{n}(B:Gl X "enumerate")(hm:X.mg "enumerate"=none)(ha:PA X [l] ta)(hs:starEach [l] X.env=[(false,eval l X.env)]:=by rfl) :
  PI X (.Tuple f n d) (.Call (.Name "enumerate" p) [l] [] pos) (Ka X.K ta):=by
 intro k s Y H R I h;refine Call_ (i6 I B hm (u:=.type "enumerate") 'k' (RE (bP (ha pos k s Y H _ I h) λ G e ⟨F,m,c,r,t⟩=>?_) hs rfl));let⟨a,rfl,⟨E,z⟩,q⟩:=t;let⟨u,rfl,o⟩:=vals1 r;cases o;let⟨x,J,v,L⟩:=c.list z;refine call_enumerate_list v.isList λ C j g y A=>?_;refine S4 j ?_;have D:Inv X k Y m {e with heap:=C}:=c.kept (t':=e.toks) A;refine⟨_,_,_,_,m,rfl,D,w9 a (e⁻¹+1) e⁻¹ (Nat.succ_ne_self _),⟨⟨_,j⟩,g⟩,λ b i=>?_,q⟩;rcases Qv.mp i with rfl | i
 .exact c.qM (Ru _) (c.hok.fresh (Ru _))
 .obtain rfl:b=e⁻¹:=by simpa using i
  exact c.qM (Qf _) (c.hok.fresh (Qf _))
end
section
variable{X:Cx}
def unlike(ns:List Int):Nat:=(firstMet (λ i=>ns.getD i 0) ns.length).length
def lO(P:Program)(w:World)(a:Addr)(S:Key->Bool)(n:Nat):HO:=.ext λ h=>h.SetOf (bw P w) a S n
theorem vc{H:Hp}{h:Heap}{a:Addr}{S:Key->Bool}{n:Nat}(x:h.SetOf (bw P w) a S n):bA P w H h a (lO P w a S n):=by
 let⟨o,r⟩:=id x;let⟨m,p,t,e,r⟩:=r;refine⟨x,⟨o,e⟩,λ l j ⟨g,b,c,d,i,f⟩ k=>⟨g,b,c,d,k _ i,f⟩⟩
theorem xj:cG X (.type "set") (λ xs H Q=>xs=[]/\∀p,H p=none->Q (.ref p) (upd H p (lO X.prog X.w p (λ _=>false) 0))):=by
 intro g s Y H xs f Q I r h;let⟨rfl,q⟩:=h;cases r;refine call_set_0 λ c=>?_;have d:(s.heap.push {cls:=.type "set",dict:=none,data:=.set #[] 0 (.fresh 0 0 c)}).get? s⁻¹=some {cls:=.type "set",dict:=none,data:=.set #[] 0 (.fresh 0 0 c)}:=Qp _ rfl;refine⟨.ref s⁻¹,_,I.laid (t':=s.toks) (o:=lO X.prog X.w s⁻¹ (λ _=>false) 0) (λ b o e=>Qd _ e) (Qf _) (vc ?_),rfl,q _ (I.hok.fresh (Qf _))⟩
 letI:BEq Key:=⟨λ a b=>decide (a=b)⟩
 haveI:LawfulBEq Key:={eq_of_beq:=λ h=>Se h,rfl:=QS rfl}
 exact SetOf_congr ((setObjOf_fresh (knd:=bw X.prog X.w) c).setOf d (by unfold scanBound;omega)) (λ _=>rfl) rfl
theorem zp{k:Key}{u:Value}(r:RelV (kV k) u):lB k u=true/\u.scannable=true:=by
 cases k with
 |inl i=>let⟨t,rfl⟩:=r;exact⟨nM i t,rfl⟩
 |inr x=>let⟨t,rfl⟩:=r;exact⟨nN x t,rfl⟩
def Gp(P:Program)(w:World):R2:=λ x y H Q=>∃a S n k,y=.ref a/\x=kV k/\H a=some (lO P w a S n)/\Q (.bl (S k)) H
theorem xm:gf X (compareOp .In) (Gp X.prog X.w):=by
 intro i s Y H x y v u Q I c b h;let⟨a,S,n,k,rfl,rfl,d,q⟩:=h;cases b;let⟨g,f⟩:=zp c;let⟨e,_⟩:=I.hok _ _ d;exact wpAny_inSet_of (knd:=bw X.prog X.w) g f e ⟨.bl _,H,I.tok _,rfl,q⟩
def Cp(P:Program)(w:World):V->List V->Hp->VK->Prop:=λ x b H Q=>∃a S n k,x=.ref a/\b=[kV k]/\H a=some (lO P w a S n)/\n<4000/\Q .non (upd H a (lO P w a (λ j=>S j||decide (j=k)) (if S k then n else n+1)))
theorem tW:F9 X "set.add" (Cp X.prog X.w):=by
 intro F s Y H x A v B Q I g i h;let⟨a,S,n,k,rfl,rfl,d,C,q⟩:=h;cases g;let⟨u,rfl,j⟩:=i.one;let⟨y,r⟩:=zp j;let⟨p,_⟩:=id (I.hok _ _ d);refine call_set_add (knd:=bw X.prog X.w) y r p (by unfold scanBound;omega) λ z f c=>?_;have l:∃u,z.get? a=some u:=by let⟨o,D,E,t,e,_⟩:=c;exact⟨o,e⟩
 exact⟨.non,_,I.write (x:=a) (e:=a) (t':=s.toks+1) (by rw[d];trivial) (.inl rfl) (λ b o m e=>f.extBut b o m e) l (vc c),rfl,q⟩
end
section
variable{prog:Program}{w:World}{A:Around}{E:Value->Shared->Prop}
theorem D9{it l:Addr}{its:Array Value}(d:l≠it):∀(n i:Nat) (s:Shared) (Q:List Value->Shared->Prop),s.heap.IsListIter it l i->s.heap.IsList l its->i+n<=its.size->
  (∀h',h'.IsListIter it l (i+n)->Heap.SameBut it s.heap h'->Q ((its.toList.drop i).take n) {s with heap:=h'})->wpAny (model prog w) A (draw (.ref it) n) Q E s
 |0,i,s,Q,a,_,_,q=>by
  show wpAny _ _ (pure []) Q E s;exact Qj (by simpa using q s.heap a (Heap.SameBut.refl ..))
 |n+1,i,s,Q,a,b,le,q=>by
  have f:i<its.size:=by omega
  show wpAny _ _ (pyNext (.ref it) >>= _) Q E s;refine Qa (T9 a b (x:=its[i]) (by simp[f]) λ m k c=>?_);refine Qa (Q9 (D9 d n (i+1) _ _ k (b.extBut c.extBut d) 'o' λ h j g=>Qj ?_));have e:its.toList.drop i=its[i]::its.toList.drop (i+1):=by simp[drop_eq_getElem_cons,f]
  have z:=q h (by rw[show i+(n+1)=i+1+n by omega];exact j) (c.trans g);rw[e,take_succ_cons] at z;exact z
theorem Cq{s:Shared}{t:Addr}{its:Array Value}{c:List (Bool×(Value->Sem Unit))}{Q:Unit->Shared->Prop}(m:A.handled=none)(a:s.heap.IsList t its)
  (l:c.length=its.size) (d:c.findIdx? (·.1)=none)
  (h:∀h',Heap.ExtBut s⁻¹ s.heap h'->wpAny (model prog w) A (assignInOrder (c.map (·.2)) its.toList) Q E {s with heap:=h'}) :
  wpAny (model prog w) A (unpack (.ref t) c) Q E s:=by
 have i:t≠s⁻¹:=by let⟨o,k,_⟩:=a;exact Qo (Qg k)
 unfold unpack;rw[l,d];refine Qa (Q9 ?_);unfold unpackItems;refine Qa ?_
 .unfold notIterableAtAll;refine Qa (wpAny_specialOf a.typeIs slot_list_iter.lookup (Qj ?_));erw[QJ,QY];refine Qa (Q9 (SY a ?_));refine Qa (Q9 (D9 i its.size 0 _ _ ⟨_,Qp _ rfl,rfl,rfl⟩ (a.push _) 'o' λ p u g=>?_));have f:List.take its.size (List.drop 0 its.toList)=its.toList:=by rw[drop_zero];exact S3 's'
  rw[f,Qu 's'];have r:p.IsList t its:=(a.push _).extBut g.extBut i;refine Qa (Q9 (wpAny_pyNext_list_end m u r 's' λ n q=>?_));erw[Option.isSome_none,QJ,QY];exact Qj (h n λ b o j e=>q b o j (g.extBut b o j (Qd _ e)))
end
section
variable{X:Cx}{pos:Pos}
def Nh(K:ae)(n:Nat)(t:Bq):TG:=λ v Y H Q=>∃a b,v=.ref a/\gU K H a b/\b.length=n/\t b Y H Q
theorem Gq{es:List Expr}{k:Nat}{t:Bq}{n:Nat}(y:X.calm=true)(h:sV X es t)
  (q:(assignEach es X.env).length=n:=by rfl) (d:(assignEach es X.env).findIdx? (·.1)=none:=by rfl):PG X (.Tuple es k pos) (Nh X.K n t):=by
 intro g s Y H v u Q I r c;let⟨a,i,rfl,p,x,c⟩:=c;cases r;let⟨l,f,j,B⟩:=I.list p;rw[assign_Tuple];refine Qa (Ra (Cq (I.ok.hd y) j.isList (by simp[q,<-x,f.length]) d λ z m=>?_));have A:Inv X g Y H {s with heap:=z}:=I.kept (t':=s.toks) λ b o e=>m b o (Qo (Qg e)) e;exact h g _ Y H i _ Q A (~~~f) c
theorem xq:gf X (compareOp .LtE) (λ x y H Q=>∃i j,x=.str i/\y=.str j/\Q (.bl (!decide (j.cps.toList<i.cps.toList))) H):=by
 intro d s Y H x y v u Q I b a h;let⟨i,j,rfl,rfl,q⟩:=h;let⟨t,rfl⟩:=b;let⟨c,rfl⟩:=a;exact PySem.P.le_str (pD I q rfl)
theorem Gr:Ip X (λ x lo hi H Q=>∃z,x=.str z/\z.length<=sizeLine/\Q (.str (Txt.slice z lo hi)) H):=by
 intro p s Y H x v y r lo hi A Q I m c n g h;let⟨z,rfl,o,q⟩:=h;let⟨t,rfl⟩:=m;have b:∀f k,EP X p Y Q (.str (Txt.slice z lo hi) f) {s with toks:=k}:=λ f k=>⟨.str _,H,I.tok k,⟨_,rfl⟩,q⟩;have a:=Qk (Uh z lo hi) o;refine⟨"str",_,F.slot_str_getitem.lookup,typeIs_str _ _ _,?_⟩;cases n with
 |none=>
  cases g with
  |none=>exact RZ (l:=none) (u:=none) (st:=none) c rfl (Th ⟨a,b⟩)
  |int j d=>exact RZ (l:=none) (u:=some (j,d)) (st:=none) c rfl (Th ⟨a,b⟩)
 |int i e=>
  cases g with
  |none=>exact RZ (l:=some (i,e)) (u:=none) (st:=none) c rfl (Th ⟨a,b⟩)
  |int j d=>exact RZ (l:=some (i,e)) (u:=some (j,d)) (st:=none) c rfl (Th ⟨a,b⟩)
theorem Kc:cG X (.type "range") (λ xs H Q=>∃n:Int,xs=[.int n]/\∀p,H p=none->Q (.ref p) (upd H p (.rng 0 n))):=by
 intro d s Y H xs c Q I r h;let⟨n,rfl,q⟩:=h;let⟨u,rfl,a⟩:=vals1 r;let⟨t,rfl⟩:=a;exact call_range_1 ⟨.ref s⁻¹,_,I.laid (o:=.rng 0 n) (λ b o e=>Qd _ e) (Qf _) ⟨_,_,_,Qp _ rfl⟩,rfl,q _ (I.hok.fresh (Qf _))⟩
end
end L2
end
section
namespace L2
open PySem PySem.Spec PyProof.Rows List
open AutoSeq1 (wpAny_loadPart')
variable{Q:Value->Shared->Prop}{i:Nat}{it:Addr}{its:Array Value}
section
variable{prog:Program}{w:World}{A:Around}{E:Value->Shared->Prop}{s:Shared}
theorem nextT{l:Addr}{x:Value}(a:s.heap.IsTupleIter it l i)(b:s.heap.IsTuple l its)(h:its[i]?=some x)
  (q:∀h',h'.IsTupleIter it l (i+1)->Heap.SameBut it s.heap h'->Q x {s with heap:=h'}):wpAny (model prog w) A (Builtin.SmallTypes.nextOf (.ref it)) Q E s:=by
 let⟨o,d,g,c⟩:=id a;let⟨p,f,_,n,e⟩:=b;unfold Builtin.SmallTypes.nextOf;refine Qa (Rg (name:=Str.ofString "__next__") a.typeIs RJ (RX RJ a.typeIs Tq ?_ (Ti _)));show wpAny _ _ (field (.ref it) 0 >>= _) _ _ s;refine Qa (Q5 d c (x:=.ref l) rfl ?_);show wpAny _ _ (if (Value.ref l==Value.none)=true then _ else _) _ _ s;rw[Qu (show ¬((Value.ref l==Value.none)=true) from SK)];show wpAny _ _ (field (.ref it) 1 >>= _) _ _ s;refine Qa (Q5 d c (x:=.int i 0) rfl ?_);show wpAny _ _ (seqItems? (.ref l) >>= _) _ _ s;refine Qa (wpAny_seqItems f e ?_);erw[RC,h];refine Qa (TQ d c 's' (Qj ⟨x,rfl,Qj (q _ ?_ (Heap.SameBut.update ..))⟩));exact⟨_,RM _ d (S7 (SO c _)),(Obj.cls_mapFields ..).trans g,by rw[SO c];simp[rawInt]⟩
theorem zq{l:Addr}(f:A.handled=none)(a:s.heap.IsTupleIter it l i)(b:s.heap.IsTuple l its)(j:its[i]?=none)
  (q:∀h' e,Heap.ExtBut it s.heap h'->(Exists λ o=>h'.get? e=some o/\o.cls=.type "StopIteration")->E (.ref e) {s with heap:=h'}):wpAny (model prog w) A (Builtin.SmallTypes.nextOf (.ref it)) Q E s:=by
 let⟨o,d,r,c⟩:=id a;let⟨p,h,_,n,g⟩:=b;unfold Builtin.SmallTypes.nextOf;refine Qa (Rg (name:=Str.ofString "__next__") a.typeIs RJ (RX RJ a.typeIs Tq ?_ (Ti _)));show wpAny _ _ (field (.ref it) 0 >>= _) _ _ s;refine Qa (Q5 d c (x:=.ref l) rfl ?_);show wpAny _ _ (if (Value.ref l==Value.none)=true then _ else _) _ _ s;rw[Qu (show ¬((Value.ref l==Value.none)=true) from SK)];show wpAny _ _ (field (.ref it) 1 >>= _) _ _ s;refine Qa (Q5 d c (x:=.int i 0) rfl ?_);show wpAny _ _ (seqItems? (.ref l) >>= _) _ _ s;refine Qa (wpAny_seqItems h g ?_);erw[RC,j];refine Qa (Ui (Qa (TQ d c 's' ?_)));show wpAny _ _ (newExc (.type "StopIteration") [] >>= _) _ _ _;refine Qa ?_;erw[newExc,newTuple];refine Qa (Rn ?_ (by size_fits));refine Qa (m:=firstArgMember _ _) (wpAny_of_eq (a:=Value.none) (by first | rfl | (erw[firstArgMember];rfl)) ?_);refine Rn ?_ (by size_fits);erw[raiseNew];refine Qa (wpAny_handled ?_)
 first | rw[show A.in1.handled=none from f] | rw[f]
 refine Qa (Qj (wpAny_throw ?_));refine q _ _ (λ b o k e=>?_) ⟨_,Qp _ rfl,rfl⟩;exact Qd _ (Qd _ ((Heap.SameBut.update ..).extBut b o k e))
theorem tX{e l:Addr}{x c:Value}{Q:Option Value->Shared->Prop}
  (H:IsEnum s.heap e it i c) (a:s.heap.IsTupleIter it l i) (b:s.heap.IsTuple l its) (hx:its[i]?=some x) (C:e≠it)
  (q:∀h',IsEnumOut h' e it ((i:Int)+1) x s⁻¹->h'.IsTupleIter it l (i+1)->
   h'.get? s⁻¹=some {cls:=.type "tuple",data:=.seq #[.int i s.toks,x]}->h'.objs.size=s⁻¹+1->
   (∀b o,b≠e->b≠it->s.heap.get? b=some o->h'.get? b=some o)->Q @(.ref s⁻¹) {s with heap:=h',toks:=s.toks+1}) :
  wpAny (model prog w) A (pyNext (.ref e)) Q E s:=by
 have W:s.TypeIs (.ref e) "enumerate":=⟨_,H,rfl⟩;unfold pyNext;refine Qa (wpAny_attempt (Rg (name:=Str.ofString "__next__") W Sa (RX Sa W Uj ?_ (T6 _))));let⟨j,g,d,f,k⟩:=s;show wpAny _ _ (field (.ref e) 2 >>= _) _ _ _;refine Qa (Q5 H rfl (x:=.ref it) rfl ?_);refine Qa (nextT a b hx λ m X B=>?_);replace B:Heap.SameBut it j m:=B;have M:IsEnum m e it i c:=(B.2 e C).trans H;show wpAny _ _ (field (.ref e) 3 >>= _) _ _ ⟨m,g,d,f,k⟩;refine Qa (Q5 M rfl (x:=rawInt i) rfl ?_);show wpAny _ _ (field (.ref e) 4 >>= _) _ _ ⟨m,g,d,f,k⟩;refine Qa (Q5 M rfl (x:=.none) rfl ?_);show wpAny _ _ (mkInt i >>= _) _ _ ⟨m,g,d,f,k⟩;refine Qa (wpAny_mkInt ?_);show wpAny _ _ (setField (.ref e) 3 (rawInt ((i:Int)+1)) >>= _) _ _ ⟨m,g,d,f+1,k⟩;refine Qa (R5 M 's' λ F L z=>?_);replace z:Heap.SameBut e m F:=z;replace L:IsEnum F e it ((i:Int)+1) c:=L;show wpAny _ _ (setField (.ref e) 4 .none >>= _) _ _ ⟨F,g,d,f+1,k⟩;refine Qa (R5 L 's' λ p K y=>?_);replace y:Heap.SameBut e F p:=y;replace K:IsEnum p e it ((i:Int)+1) c:=K;show wpAny _ _ (newTuple [.int i f,x] >>= _) _ _ ⟨p,g,d,f+1,k⟩;refine Qa (wpAny_newTuple ?_);have J:IsEnum (p.push {cls:=.type "tuple",data:=.seq #[.int i f,x]}) e it ((i:Int)+1) c:=Qd _ K;generalize h:p.push {cls:=.type "tuple",data:=.seq #[.int i f,x]}=D at J;have G:p.objs.size=j.objs.size:=by rw[y.1,z.1,B.1]
 have S:e<j.objs.size:=Qg H;have Z:D.get? j.objs.size=some {cls:=.type "tuple",data:=.seq #[.int i f,x]}:=by rw[<-h,<-G];exact Qp _ rfl
 have Y:D.objs.size=j.objs.size+1:=by rw[<-h,RA,G]
 have k4:∀b o,b≠e->b≠it->j.get? b=some o->D.get? b=some o:=λ b o n N O=>by
  rw[<-h];exact Qd _ (y.extBut b o n (z.extBut b o n (B.extBut b o N O)))
 have a4:D.IsTupleIter it l (i+1):=by
  rw[<-h];let⟨o,ho,r⟩:=(X.extBut z.extBut (Ne.symm C)).extBut y.extBut (Ne.symm C);exact⟨o,Qd _ ho,r⟩
 show wpAny _ _ (Builtin.SmallTypes.ownedTupleIsFree (.ref e) >>= _) _ _ ⟨D,g,d,f+1,k⟩;rw[G];clear h K y L z M B X G p F m;refine Qa ?_;unfold Builtin.SmallTypes.ownedTupleIsFree;refine Qa (Q5 J rfl (x:=.none) rfl (Qj ?_));erw[Qx];refine Qa (Ui ?_);refine Qa (Q5 J rfl (x:=c) rfl ?_);refine Qa (R5 J 's' λ I V v=>?_);replace v:Heap.SameBut e D I:=v;replace V:IsEnum I e it ((i:Int)+1) x:=V;show wpAny _ _ (Builtin.SmallTypes.ownedTupleHandOut (.ref e) (.ref j.objs.size) >>= _) _ _ ⟨I,g,d,f+1,k⟩;refine Qa ?_;unfold Builtin.SmallTypes.ownedTupleHandOut;refine Qa (R5 V 's' λ R U u=>?_);replace u:Heap.SameBut e I R:=u;replace U:IsEnumOut R e it ((i:Int)+1) x j.objs.size:=U;refine R5 U 's' λ P T t=>?_;replace t:Heap.SameBut e R P:=t;replace T:IsEnumOut P e it ((i:Int)+1) x j.objs.size:=T;refine Qa (wpAny_letGo (Qj ⟨_,rfl,Qj (q P T ?_ ?_ ?_ ?_)⟩))
 .exact((a4.extBut v.extBut (Ne.symm C)).extBut u.extBut (Ne.symm C)).extBut t.extBut (Ne.symm C)
 .exact t.extBut _ _ (Ry S) (u.extBut _ _ (Ry S) (v.extBut _ _ (Ry S) Z))
 .rw[t.1,u.1,v.1,Y]
 .exact λ b o n N O=>t.extBut b o n (u.extBut b o n (v.extBut b o n (k4 b o n N O)))
theorem xr{e l:Addr}{c:Value}{Q:Option Value->Shared->Prop}(n:A.handled=none)
  (d:IsEnum s.heap e it i c) (a:s.heap.IsTupleIter it l i) (b:s.heap.IsTuple l its) (m:its[i]?=none)
  (q:∀h',Heap.ExtBut it s.heap h'->Q none {s with heap:=h'}):wpAny (model prog w) A (pyNext (.ref e)) Q E s:=by
 have f:s.TypeIs (.ref e) "enumerate":=⟨_,d,rfl⟩;unfold pyNext;refine Qa (wpAny_attempt (Rg (name:=Str.ofString "__next__") f Sa (RX Sa f Uj ?_ (T6 _))));show wpAny _ _ (field (.ref e) 2 >>= _) _ _ _;refine Qa (Q5 d rfl (x:=.ref it) rfl ?_);refine Qa (zq n a b m λ h' x k j=>?_);let⟨o,h,g⟩:=j;refine Qa (wpAny_isInstance (T:="StopIteration") (b:=true) ⟨o,h,g⟩ isSubtype_stop ?_);exact Qj (q _ k)
theorem xu(l:Addr)(its:Array Value)(n:Nat)(b:Option Addr)(sl:Array (Option Value)) :
  Meets (Builtin.«enumerate.__new__» ⟨[.type "enumerate",.ref l],[]⟩) (λ _ R s=>s.heap.get? l=some {cls:=.type "tuple",dict:=b,data:=.seq its n,slots:=sl}/\
   R (.ok (.ret (.ref (s.heap.push {cls:=.type "tuple_iterator",data:=.fields #[.ref l,.int 0 0]}).objs.size)))
    {s with heap:=(s.heap.push {cls:=.type "tuple_iterator",data:=.fields #[.ref l,.int 0 0]}).push {cls:=.type "enumerate",data:=.fields #[.none,.bool false,.ref s⁻¹,rawInt 0,.none,.none]}}):=
 .of_wp λ prog w A R s h=>by
  let⟨m,g,d,j,k⟩:=s;let⟨a,h⟩:=h;have e:=sub_enumerate;have f:Heap.IsTuple (Shared.heap ⟨m,g,d,j,k⟩) l its:=⟨_,a,rfl,n,rfl⟩
  wp_walk using wpAny_loadPart' a
  refine wpAny_stack_any λ o=>Qj ?_;split
  .ext c _ _ _ _ _;cases (c==Value.type "enumerate")
   all_goals
    wp_walk using wpAny_loadPart' a,Tz f
    exact⟨_,rfl,h⟩
  .wp_walk using wpAny_loadPart' a,Tz f
   exact⟨_,rfl,h⟩
theorem tY{l:Addr}(p:s.heap.IsTuple l its)
  (h:∀h',IsEnum h' (s⁻¹+1) s⁻¹ 0 .none->h'.IsTupleIter s⁻¹ l 0->h'.objs.size=s⁻¹+2->
   (∀b o,s.heap.get? b=some o->h'.get? b=some o)->Q (.ref (s⁻¹+1)) {s with heap:=h'}) :
  wpAny (model prog w) A (call (.type "enumerate") [.ref l]) Q E s:=by
 let⟨⟨c,g,q,k⟩,m,f,n,e⟩:=p;replace f:c=.type "tuple":=f;replace e:q=.seq its n:=e;subst f e;refine callType_new F.called_enumerate 'd' (F.typeCall_enumerate_1 _) (F.newCall_enumerate_1 _) (λ a=>F.args_object_init_2 a _) F.entry_enumerate_new (xu l its n g k) ⟨m,?_⟩;have d:(s.heap.push {cls:=.type "tuple_iterator",data:=.fields #[.ref l,.int 0 0]}).objs.size=s⁻¹+1:=RA ..;show _/\_;rw[d];have j:IsEnum ((s.heap.push {cls:=.type "tuple_iterator",data:=.fields #[.ref l,.int 0 0]}).push
   {cls:=.type "enumerate",data:=.fields #[.none,.bool false,.ref s⁻¹,rawInt 0,.none,.none]}) (s⁻¹+1) s⁻¹ 0 .none:=by
  have:=Qp (s.heap.push {cls:=.type "tuple_iterator",data:=.fields #[.ref l,.int 0 0]})
   (o:={cls:=.type "enumerate",data:=.fields #[.none,.bool false,.ref s⁻¹,rawInt 0,.none,.none]}) rfl
  rw[d] at this;exact this
 refine⟨⟨_,j,rfl⟩,h _ j ⟨_,Qd _ (Qp _ rfl),rfl,rfl⟩ (by rw[RA,d]) λ b o x=>Qd _ (Qd _ x)⟩
end
end L2
end
section
namespace L2
open PySem PySem.Spec PyProof.Rows List
def Ni(K:ae)(a:Addr):It:=
 ⟨λ i H=>∃b x,ef K H a b/\b[i]?=some x,λ i H x c=>∃p v,H p=none/\x=.ref p/\c=upd H p (.tup [.int i,v])/\∀b,ef K H a b->b[i]?=some v,λ i H=>∃b,ef K H a b/\b.length<=i⟩
theorem tZ{P:Program}{w:World}{K:ae}{elts:List Expr}{Z}{pos:Pos}(a e it:Addr)(t:e≠it) :
  Turn P w K (.Tuple elts Z pos) (Ni K a) [e,it] e (λ i h=>(∃old,IsEnum h e it (i:Int) old)/\h.IsTupleIter it a i) where
 mem:=by simp
 obj:=λ i h st b f=>by
  let⟨⟨old,he⟩,o,l,hc,hd⟩:=st;rcases Qv.mp f with rfl | f
  .refine⟨_,he,λ v q=>?_⟩;have q':Data.fields _=Data.cell v:=q;cases q'
  .obtain rfl:b=it:=by simpa using f
   exact⟨o,l,λ v q=>by rw[hd] at q;cases q⟩
 keep:=λ i h h' st k=>by
  let⟨⟨old,he⟩,o,l,r⟩:=st;exact⟨⟨old,k e 's' _ he⟩,o,k it 's' o l,r⟩
 item:=by
  intro X O hw Q hc i V s Y H E I hf st N;subst O hw Q;let⟨xs,x,D,L⟩:=N;let⟨⟨old,he⟩,hit⟩:=st;let⟨its,J,p,hz⟩:=I.tuple D;let⟨u,hu,ru⟩:=J.get L;let⟨f0,f1,f2,f3,f4,f5⟩:=hf e 's';let⟨F,g1,g2,g3,S,R⟩:=hf it 's';refine tX he hit (show s.heap.IsTuple a its.toArray from p) (x:=u) (~~~hu) t λ h1 l hi ht hs k1=>⟨_,rfl,?_⟩;have y:e<s⁻¹:=Qg he;have M:it<s⁻¹:=by let⟨o,q,_⟩:=hit;exact Qg q
  refine TN (s:={s with heap:=h1,toks:=s.toks+1}) l λ j hE B=>?_;have k2:∀b o,b≠e->b≠it->s.heap.get? b=some o->j.get? b=some o:=λ b o U n2 q=>B.extBut b o U (k1 b o U n2 q);have Ng:j.get? s⁻¹=some {cls:=.type "tuple",data:=.seq #[.int i s.toks,u]}:=B.extBut _ _ (Ry y) ht;have hsz2:j.objs.size=s⁻¹+1:=by rw[B.1];exact hs
  have g:H s⁻¹=none:=I.hok.fresh (Qf _);have C:∀b o,H b=some o->b≠e/\b≠it:=λ b o q=>⟨(λ z=>by rw[z,f0] at q;cases q),(λ z=>by rw[z,F] at q;cases q)⟩;have hok:gb X.prog X.w (upd H s⁻¹ (.tup [.int i,x])) j:=by
   have lift:∀b o,H b=some o->bA X.prog X.w (upd H s⁻¹ (.tup [.int i,x])) j b o:=λ b o q=>
    (I.hok b o q).stay (λ c v A r=>k2 c v (by
     rcases A with z | z
     .rw[z];exact(C b o q).1
     .exact(C c _ z).1) (by
     rcases A with z | z
     .rw[z];exact(C b o q).2
     .exact(C c _ z).2) r) (λ c r=>by rw[aq (aA r g)];exact r) λ c T r=>by rw[aq (aA r g)];exact r
   intro b o q
   by_cases G:b=s⁻¹
   .subst G;rw[aB] at q;cases q;exact⟨by show 2<=sizeLine;decide,[.int i s.toks,u],.cons ⟨_,rfl⟩ %[|ru],⟨_,Ng,rfl,_,rfl⟩⟩
   .rw[aq G] at q;exact lift b o q
  have I2:Inv X V Y (upd H s⁻¹ (.tup [.int i,x])) {s with heap:=j,toks:=s.toks+1}:=by
   refine I.step (g':=s.gens) (d':=s.drawn) (ch:=[e,it]) (λ b f=>?_) (λ b o hL f d q n=>?_) (λ b o hL f d q n=>?_) (λ b o d q n=>?_) (λ b o d q=>?_) (λ b T q=>by rw[aq (aA q g)];exact q) (λ b o u q=>by rw[aq (aA q g)];exact q)
    (λ b ps q=>⟨#[],by rw[aq (aA q g),q];simp⟩) (λ m hm=>?_) hok I.bare
   .rcases Qv.mp f with rfl | f
    .exact⟨f3,f1,f4,f5⟩
    .obtain rfl:b=it:=by simpa using f
     exact⟨g3,g1,S,R⟩
   .erw[RI,R4,Te,Ug] at d;exact k2 b o d.1 d.2 q
   .erw[RI,R4,Te,Ug] at d;exact⟨o.slots,k2 b o d.1 d.2 q⟩
   .rw[aq (Qo (Qg q))];exact n
   .erw[RI,R4,Te,Ug] at d;exact⟨o,k2 b o d.1 d.2 q⟩
   .let⟨o,es,ep,q,r⟩:=hm;exact⟨o,es,ep,k2 _ o (Ne.symm f1) (Ne.symm g1) q,r⟩
  refine⟨.ref s⁻¹,_,I2,rfl,⟨_,x,g,rfl,rfl,λ T hy=>by rw[I.nP hy D];exact L⟩,⟨⟨_,by have:=hE;rw[show ((i:Int)+1)=((i+1:Nat):Int) by omega] at this;exact this⟩,?_⟩,λ b f=>?_⟩
  .let⟨o,q,r⟩:=hi;exact⟨o,B.extBut _ _ (Ne.symm t) q,r⟩
  .rcases Qv.mp f with rfl | f
   .rw[aq (Qo y)];exact f0
   .obtain rfl:b=it:=by simpa using f
    rw[aq (Qo M)];exact F
 done:=by
  intro X O hw Q hc i V s Y H E I hf st N;subst O hw Q;let⟨xs,D,L⟩:=N;let⟨⟨old,he⟩,hit⟩:=st;let⟨its,J,p,hz⟩:=I.tuple D;let⟨F,g1,g2,g3,S,R⟩:=hf it 's';have hl:=J.length;exact xr (I.ok.hd hc) he hit (show s.heap.IsTuple a its.toArray from p) (by simp;omega) λ h' G=>⟨rfl,I.turned (t':=s.toks) (λ b o f q=>G b o f q) F g1 g3 S R⟩
 self:=λ _ _ _ _ _ st h=>by
  let⟨⟨old,he⟩,_⟩:=st;exact S4 he h
section
variable{X:Cx}
def Gs(K:ae)(ta:TA):TI:=fun Y H R=>ta Y H λ d b=>∃a,d=[.ref a]/\(∃c,ef K b a c)/\R (Ni K a) b
theorem zu{l:Expr}{ta:TA}{p pos e:Pos}{f:List Expr}{o}(A:Gl X "enumerate")(hm:X.mg "enumerate"=none)(ha:PA X [l] ta)(hs:starEach [l] X.env=[(false,eval l X.env)]:=by rfl) :
  PI X (.Tuple f o e) (.Call (.Name "enumerate" p) [l] [] pos) (Gs X.K ta):=by
 intro m s Y H R I h;refine Call_ (i6 I A hm (u:=.type "enumerate") 'k' (RE (bP (ha pos m s Y H _ I h) λ F c ⟨E,n,d,t,v⟩=>?_) hs rfl));let⟨a,rfl,⟨D,y⟩,q⟩:=v;let⟨u,rfl,r⟩:=vals1 t;cases r;let⟨g,G,w,J⟩:=d.tuple y;refine tY (show c.heap.IsTuple a g.toArray from w) λ B k i x z=>?_;refine S4 k ?_;have C:Inv X m Y n {c with heap:=B}:=d.kept (t':=c.toks) z;refine⟨_,_,_,_,n,rfl,C,tZ a (c⁻¹+1) c⁻¹ (Nat.succ_ne_self _),⟨⟨_,k⟩,i⟩,λ b j=>?_,q⟩;rcases Qv.mp j with rfl | j
 .exact d.qM (Ru _) (d.hok.fresh (Ru _))
 .obtain rfl:b=c⁻¹:=by simpa using j
  exact d.qM (Qf _) (d.hok.fresh (Qf _))
end
structure TopD(K:ae)(w:World)(a:Addr)(kvs:List (Str×V)):Prop where
 ex:∃(es:Array DictEntry) (n:Nat),K.lookup a=some ⟨.type "dict",none,.dict es n,#[]⟩/\PySem.W.KeysLit w.params es.toList/\∀x,fQ (kvs.lookup x) (findBy Value.isStrOf es x)
 lo:(a==sysModules)=false
section
variable{X:Cx}
def xw(K:ae)(w:World):R2:=λ x y H Q=>∃z a b,x=.str z/\y=.ref a/\TopD K w a b/\Q (.bl (!(b.lookup z).isSome)) H
theorem fQ.isSome{o:Option V}{u:Option Value}(r:fQ o u):u.isSome=o.isSome:=by
 cases o<;>cases u<;>first | rfl | exact r.elim
theorem je:gf X (compareOp .NotIn) (xw X.K X.w):=by
 intro j s Y H x y v u Q I c b h;let⟨z,a,d,rfl,rfl,T,q⟩:=h;let⟨t,rfl⟩:=c;cases b;let⟨i,n,g,f,e⟩:=T.ex;refine wpAny_notIn_of (strKind_is X.prog X.w z t) T.lo (PySem.W.mapOf_K (prog:=X.prog) I.fR g f) ?_;refine⟨.bl _,H,I.tok _,rfl,?_⟩;rw[(e z).isSome];exact q
def Gu(K:ae)(w:World):R2:=λ x y H Q=>∃z a b v,y=.str z/\x=.ref a/\TopD K w a b/\b.lookup z=some v/\Q v H
theorem Gv:FY X (Gu X.K X.w):=by
 intro b c C s Y H x y v u Q I g f h k;let⟨z,a,j,o,rfl,rfl,T,l,q⟩:=h;let⟨t,rfl⟩:=f;cases g;let⟨B,n,A,p,m⟩:=T.ex;have r:=m z;rw[l] at r;let⟨u,e,i⟩:=r.some_of;have d:=PySem.W.mapOf_K (prog:=X.prog) I.fR A p;exact tail_any d.typeIs slot_dict_getitem.lookup (wpAny_getItem_of (strKind_is X.prog X.w z t) d e ⟨o,H,I.tok _,i,q⟩) k
end
end L2
end
section
namespace L2
open PySem PySem.Spec PyProof.Rows Builtin Builtin.Str List
theorem zv(ys:List Str):(Txt.join ⟨#[]⟩ ys).cps.toList=(ys.map λ y=>y.cps.toList).flatten:=by
 cases ys with
 |nil=>rfl
 |cons y r=>
  show ((r.foldl (λ a p=>a++#[]++p.cps) y.cps):Array Nat).toList=_;rw[QF,flatten_cons];generalize y.cps=a
  induction r generalizing a with
  |nil=>simp
  |cons z r b=>
   rw[foldl_cons,b];simp
end L2
end
section
namespace D
open PySem List
variable{α:Type}
inductive W where
 |non | bl (b:Bool) | int (i:Int) | str (x:Str) | tup (xs:List W) | fz (xs:List W) | obj (c:Str) (ks:List Str) (vs:List W) | ref (n:Nat)
 deriving Inhabited
inductive O where
 |lst (xs:List W) | ins (c:Str) (fs:List (Str×W)) | set (ks:List L2.Key) | dic (fs:List (Str×W))
 |exc (c f:Str) (ws:List W)
abbrev Mem:=List O
abbrev Loc:=List (Option W)
inductive R(α:Type) where
 |no
 |ok (a:α) (m:Mem)
@[inline] noncomputable def R.bind{J:Type}(x:R α)(f:α->Mem->R J):R J:=match x with
 |.no=>.no
 |.ok a m=>f a m
inductive U where
 |isx (tab:List (Str×Bool)) | xfl (f:Str) (cs:List Str)
 |tU | mind | kin (kvs:List (Str×W)) | knin (kvs:List (Str×W)) | kget (kvs:List (Str×W)) | dict (ks:List Str) | isc (c:Str) | kv | dcm | dzip | dlst
inductive B where
 |len | abs | max | min | divmod | all | any | list | tuple | int | sorted | sum | repr | str | dum
 deriving DecidableEq
mutual
inductive T where
 |var (i:Nat) | tup (ts:Ts)
inductive Ts where
 |nil | cons (t:T) (ts:Ts)
end
mutual
inductive E where
 |var (i:Nat) | cst (w:W)
 |bin (op:Operator) (a b:E) | neg (a:E) | not (a:E) | and (a b:E) | or (a b:E)
 |cmp (op:CmpOp) (a b:E) | chain (o1 o2:CmpOp) (a b c:E)
 |ife (t a b:E) | tup (es:Es) | lst (es:Es) | idx (a b:E)
 |slc (a:E) (lo hi:Oe)
 |call (f:Nat) (es:Es) | blt (b:B) (es:Es) | isI (a:E) (t:String)
 |meth (o:E) (m:String) (es:Es)
 |comp (g:G)
 |rng (a:E) | rng2 (a b:E) | enm (a:E) | zip (es:Es) | lrng (a:E)
 |frz (a:E) | fld (a:E) (f:Str) | make (c:Str) (es:Es) | mth (o:E) (m:Str) (es:Es) | nB | fus (u:U) (a:E)
inductive Es where
 |nil | cons (e:E) (es:Es)
inductive Oe where
 |none | some (e:E)
inductive G where
 |elt (e:E) | gen (t:T) (js:List Nat) (it:E) (ifs:Es) (rest:G)
end
mutual
inductive A where
 |pt (t:T) | sub (o i:E) | tup (l:As)
inductive As where
 |nil | cons (a:A) (l:As)
end
inductive Ea where
 |drop | ret | asg (t:A)
mutual
inductive S where
 |asg (t:A) (e:E) | aug (i:Nat) (op:Operator) (e:E) | expr (e:E) | ret (e:E) | retN
 |ife (t:E) (a b:Ss) | for_ (t:T) (it:E) (b:Ss) | while_ (t:E) (b:Ss) | pass | brk | cont | never
 |fas (o:E) (f:Str) (e:E)
 |rais (c:Str) (f:Option Str) (e:E) | xc (h:Ea) (c:Option Str) (i:Nat) (es:Es) | tr (b:Ss) (cs:List Str) (i:Option Nat) (h:Ss)
inductive Ss where
 |nil | cons (s:S) (r:Ss)
end
def lim:Nat:=1000000
def new(o:O)(m:Mem):R W:=.ok (.ref m.length) (m++[o])
def getL(m:Mem):W->Option (List W)
 |.ref n=>match m[n]? with
  |some (.lst xs)=>some xs
  |_=>none
 |.fz xs=>some xs
 |_=>none
def aP(m:Mem):W->Option (List W)
 |.tup xs=>some xs
 |w=>getL m w
def dJ(f:W->Option α):List W->Option (List α)
 | []=>some []
 |x::xs=>match f x with
  |none=>none
  |some d=>match dJ f xs with
   |none=>none
   |some ds=>some (d::ds)
def toD:Nat->Mem->W->Option PyData
 |0,_,_=>none
 |n+1,m,w=>match w with
  |.non=>some .none
  |.bl b=>some (.bool b)
  |.int i=>some (.int i)
  |.str x=>if x.cps.all (· < 0x110000) then some (.str x) else none
  |.tup xs=>(dJ (toD n m) xs).map .tuple
  |.fz xs=>(dJ (toD n m) xs).map .list
  |.ref a=>match getL m (.ref a) with
   |some xs=>(dJ (toD n m) xs).map .list
   |none=>none
  |.obj _ _ _=>none
def vd(m:Mem)(x y:W):R Bool:=match toD 60 m x,toD 60 m y with
 |some d,some e=>.ok (PyData.eqv d e) m
 |_,_=>.no
def truthy(m:Mem):W->R Bool
 |.non=>.ok false m
 |.bl b=>.ok b m
 |.int i=>.ok (i != 0) m
 |.str x=>if x.length<=lim then .ok ((x.length:Int) != 0) m else .no
 |.tup xs=>.ok (!xs.isEmpty) m
 |.fz xs=>.ok (!xs.isEmpty) m
 |.ref n=>match getL m (.ref n) with
  |some xs=>.ok (!xs.isEmpty) m
  |none=>.no
 |.obj _ _ _=>.no
def j8(i j:Int):Bool:=(decide (-(2^64)<i)&&decide (i<2^64))||(decide (-(2^64)<j)&&decide (j<2^64))
def Cr(m:Mem)(x y:W):R W:=match getL m x,getL m y with
 |some xs,some a=>if xs.length+a.length<=lim then new (.lst (xs++a)) m else .no
 |_,_=>.no
def OW(n:Nat)(xs:List W):List W:=(List.replicate n xs).flatten
def binop(d:Operator)(x y:W)(m:Mem):R W:=match d with
 |.Add=>match x,y with
  |.int i,.int j=>.ok (.int (i+j)) m
  |.tup xs,.tup c=>if xs.length+c.length<=lim then .ok (.tup (xs++c)) m else .no
  |.str a,.str b=>if a.length+b.length<=lim then .ok (.str (a++b)) m else .no
  |x,y=>Cr m x y
 |.Sub=>match x,y with
  |.int i,.int j=>.ok (.int (i - j)) m
  |_,_=>.no
 |.Mult=>match x,y with
  |.int i,.int j=>if j8 i j then .ok (.int (i*j)) m else .no
  |_,_=>.no
 |.FloorDiv=>match x,y with
  |.int i,.int j=>if 0<j/\j<1073741824 then .ok (.int (i / j)) m else .no
  |_,_=>.no
 |.Mod=>match x,y with
  |.int i,.int j=>if 0<j then .ok (.int (i%j)) m else .no
  |_,_=>.no
 |.Pow=>match x,y with
  |.int i,.int j=>if 0<=j/\j<=1000000/\i.natAbs<2^64 then .ok (.int (i^j.toNat)) m else .no
  |_,_=>.no
 |.LShift=>match x,y with
  |.int i,.int j=>if 0<=j/\j<=1000000/\i.natAbs<2^64 then .ok (.int (i*2^j.toNat)) m else .no
  |_,_=>.no
 |.RShift=>match x,y with
  |.int i,.int j=>if 0<=j then .ok (.int (i / 2^j.toNat)) m else .no
  |_,_=>.no
 |.BitAnd=>match x,y with
  |.int i,.int j=>.ok (.int (Builtin.bitAnd i j)) m
  |_,_=>.no
 |_=>.no
def ku(m:Mem)(x:W)(ys:List W):R Bool:=match toD 60 m x,dJ (toD 60 m) ys with
 |some d,some a=>.ok (a.any λ e=>PyData.eqv e d) m
 |_,_=>.no
def lP(k:L2.Key)(ks:List L2.Key):Bool:=ks.any λ j=>decide (j=k)
def zw:W->Option L2.Key
 |.int i=>some (.inl i)
 |.str x=>some (.inr x)
 |_=>none
def qX(m:Mem)(x y:W):R Bool:=match y with
 |.str b=>match x with
  |.str a=>.ok (!(Builtin.Str.occurrences b a 0 b.length 1).isEmpty) m
  |_=>.no
 |.ref n=>match m[n]? with
  |some (.lst c)=>ku m x c
  |some (.set d)=>match zw x with
   |some k=>.ok (lP k d) m
   |none=>.no
  |some (.dic fs)=>match x with
   |.str z=>.ok (fs.lookup z).isSome m
   |_=>.no
  |_=>.no
 |.fz c=>ku m x c
 |.tup c=>ku m x c
 |_=>.no
def lQ:W->Bool
 |.non=>true
 |_=>false
def jf:List W->Option (List Int)
 | []=>some []
 |.int b::r=>(jf r).map (b::·)
 |_::_=>none
def aE(d:CmpOp)(x y:W)(m:Mem):R Bool:=match d with
 |.Eq=>vd m x y
 |.NotEq=>(vd m x y).bind λ b m=>.ok (!b) m
 |.Lt=>match x,y with
  |.int i,.int j=>.ok (decide (i<j)) m
  |_,_=>.no
 |.LtE=>match x,y with
  |.int i,.int j=>.ok (decide (i<=j)) m
  |.str a,.str b=>.ok (!decide (b.cps.toList<a.cps.toList)) m
  |_,_=>.no
 |.Gt=>match x,y with | .int i,.int j=>.ok (decide (j<i)) m | _,_=>.no
 |.GtE=>match x,y with | .int i,.int j=>.ok (decide (j<=i)) m | _,_=>.no
 |.In=>qX m x y
 |.NotIn=>match y with
  |.ref n=>match m[n]? with
   |some (.lst c)=>(ku m x c).bind λ b m=>.ok (!b) m
   |some (.dic fs)=>match x with
    |.str z=>.ok (!(fs.lookup z).isSome) m
    |_=>.no
   |_=>.no
  |.fz c=>(ku m x c).bind λ b m=>.ok (!b) m
  |.tup c=>(ku m x c).bind λ b m=>.ok (!b) m
  |_=>.no
 |.Is=>match y with
  |.non=>.ok (lQ x) m
  |_=>.no
 |.IsNot=>match y with
  |.non=>.ok (!lQ x) m
  |_=>.no
def aT(x y:W)(m:Mem):R W:=match y with
 |.int i=>match x with
  |.str z=>if z.length<=lim then match L2.uY z.cps.toList i with
   |some c=>.ok (.str ⟨#[c]⟩) m
   |none=>.no else .no
  |x=>match aP m x with
   |some xs=>match L2.uY xs i with
    |some w=>.ok w m
    |none=>.no
   |none=>.no
 |.str z=>match x with
  |.ref n=>match m[n]? with
   |some (.dic fs)=>match fs.lookup z with
    |some w=>.ok w m
    |none=>.no
   |_=>.no
  |_=>.no
 |_=>.no
def pQ(xs:List W)(lo hi:Option Int):List W:=(xs.drop (HT.cj xs.length 0 lo)).take (HT.cj xs.length xs.length hi - HT.cj xs.length 0 lo)
def cW(x:W)(lo hi:Option Int)(m:Mem):R W:=match x with
 |.tup xs=>.ok (.tup (pQ xs lo hi)) m
 |.str z=>if z.length<=lim then .ok (.str (Txt.slice z lo hi)) m else .no
 |x=>match getL m x with
  |some xs=>new (.lst (pQ xs lo hi)) m
  |none=>.no
def iT(o i v:W)(m:Mem):R Unit:=match o,i with
 |.ref n,.int k=>match m[n]? with
  |some (.lst xs)=>match L2.yu xs.length k with
   |some j=>.ok () (m.set n (.lst (xs.set j v)))
   |none=>.no
  |_=>.no
 |_,_=>.no
def bools:List W->Option (List Bool)
 | []=>some []
 |.bl b::r=>(bools r).map (b::·)
 |_::_=>none
def Ke(m:Mem)(t:String):W->Option Bool
 |.non=>some (t=="NoneType")
 |.bl _=>some (t=="bool"||t=="int")
 |.int _=>some (t=="int")
 |.str _=>some (t=="str")
 |.tup _=>some (t=="tuple")
 |.fz _=>some (t=="list")
 |.ref n=>match m[n]? with
  |some (.lst _)=>some (t=="list")
  |_=>none
 |.obj _ _ _=>none
def zx:W->Option (List Int)
 |.tup xs=>jf xs
 |_=>none
def gM:List W->Option (List Str)
 | []=>some []
 |.str b::r=>(gM r).map (b::·)
 |_::_=>none
def ins(x:Int):List Int->List Int
 | []=>[x]
 |y::r=>if y<x then y::ins x r else x::y::r
def Gw:List Int->List Int
 | []=>[]
 |x::r=>ins x (Gw r)
def Oc(ys:List W):Option (List W):=match jf ys with
 |some ns=>if ns.length<64 then some ((Gw ns).map .int) else none
 |none=>none
def aY(b:B)(xs:List W)(m:Mem):R W:=match b with
 |.len=>match xs with
  | [x]=>match x with
   |.str z=>if z.length<=lim then .ok (.int z.length) m else .no
   |x=>match aP m x with
    |some a=>.ok (.int a.length) m
    |none=>.no
  |_=>.no
 |.abs=>match xs with
  | [.int i]=>.ok (.int (if i<0 then -i else i)) m
  |_=>.no
 |.max=>match xs with
  | [.int i,.int j]=>.ok (.int (if j>i then j else i)) m
  |_=>.no
 |.min=>match xs with
  | [.int i,.int j]=>.ok (.int (if j<i then j else i)) m
  |_=>.no
 |.divmod=>match xs with
  | [.int i,.int j]=>if 0<j/\j<1073741824 then .ok (.tup [.int (i / j),.int (i%j)]) m else .no
  |_=>.no
 |.all=>match xs with
  | [x]=>match getL m x with
   |some a=>match bools a with
    |some bs=>.ok (.bl (bs.all id)) m
    |none=>.no
   |none=>.no
  |_=>.no
 |.any=>match xs with
  | [x]=>match getL m x with
   |some a=>match bools a with
    |some bs=>.ok (.bl (bs.any id)) m
    |none=>.no
   |none=>.no
  |_=>.no
 |.list=>match xs with
  | [x]=>match aP m x with
   |some a=>new (.lst a) m
   |none=>.no
  |_=>.no
 |.tuple=>match xs with
  | [x]=>match aP m x with
   |some a=>.ok (.tup a) m
   |none=>.no
  |_=>.no
 |.int=>match xs with
  | [.int i]=>.ok (.int i) m
  | [.bl b]=>.ok (.int (if b then 1 else 0)) m
  |_=>.no
 |_=>.no
def Gx(xs:List W)(m:Mem):R W:=match jf xs with
 |some ns=>if ns.length<=4000 then .ok (.int (L2.unlike ns)) m else .no
 |none=>.no
def OX(f:List W->List (List Int)->R W)(x:W)(m:Mem):R W:=match getL m x with
 |none=>.no
 |some a=>match dJ zx a with
  |none=>.no
  |some b=>f a b
def zy(ks:List Str)(x:W)(m:Mem):R W:=match x with
 |.tup ws=>if ks.length=ws.length/\ks.Nodup/\ks.length<=15 then new (.dic (ks.zip ws)) m else .no
 |_=>.no
def Gy(x:W)(m:Mem):R W:=match x with
 |.tup [a,b]=>match aP m a,aP m b with
  |some xs,some d=>match gM xs with
   |some c=>if c.length=d.length/\c.length<=1000/\c.Nodup then new (.dic (c.zip d)) m else .no
   |none=>.no
  |_,_=>.no
 |_=>.no
def lR(m:Mem):W->Option (Str×List (Str×W))
 |.ref n=>match m[n]? with
  |some (.ins c fs)=>some (c,fs)
  |_=>none
 |.obj c ks vs=>some (c,ks.zip vs)
 |_=>none
def Kf(c:Str)(x:W)(m:Mem):R W:=match lR m x with
 |some (d,_)=>if d=c then .ok (.bl true) m else .no
 |none=>.no
def n9(a:List (Str×Bool))(x:W)(m:Mem):R W:=match x with
 |.ref n=>match m[n]? with
  |some (.exc c _ _)=>match a.lookup c with
   |some b=>.ok (.bl b) m
   |none=>.no
  |_=>.no
 |_=>.no
def zA(f:Str)(a:List Str)(x:W)(m:Mem):R W:=match x with
 |.ref n=>match m[n]? with
  |some (.exc c g [w])=>if g=f/\a.contains c=true then .ok w m else .no
  |_=>.no
 |_=>.no
def dW(u:U)(x:W)(m:Mem):R W:=match u with
 |.isx tab=>n9 tab x m
 |.xfl f cs=>zA f cs x m
 |.tU=>match x with
  |.tup xs=>Gx xs m
  |_=>.no
 |.mind=>.no
 |.kin a=>match x with
  |.str z=>.ok (.bl (a.lookup z).isSome) m
  |_=>.no
 |.knin a=>match x with
  |.str z=>.ok (.bl (!(a.lookup z).isSome)) m
  |_=>.no
 |.kget a=>match x with
  |.str z=>match a.lookup z with
   |some w=>.ok w m
   |none=>.no
  |_=>.no
 |.dict b=>zy b x m
 |.isc c=>Kf c x m
 |.kv=>.no
 |.dcm=>.no
 |.dzip=>Gy x m
 |.dlst=>.no
def gj(n:Nat)(ys xs:List W)(m:Mem):R W:=match xs with
 | [x]=>if ys.length<lim then .ok .non (m.set n (.lst (ys++[x]))) else .no
 |_=>.no
def Ct(n:Nat)(xs:List W)(m:Mem):R W:=match xs with
 | []=>.ok .non (m.set n (.lst []))
 |_=>.no
def xy(n:Nat)(ys xs:List W)(m:Mem):R W:=match xs with
 | []=>.ok .non (m.set n (.lst ys.reverse))
 |_=>.no
def ve(n:Nat)(ys xs:List W)(m:Mem):R W:=match xs with
 | []=>match ys[ys.length - 1]? with
  |some y=>.ok y (m.set n (.lst ys.dropLast))
  |none=>.no
 | [.int i]=>if -(2^63)<=i/\i<2^63 then match seqIndex? i ys.length with
  |some k=>match ys[k]? with
   |some y=>.ok y (m.set n (.lst (ys.eraseIdx k)))
   |none=>.no
  |none=>.no else .no
 |_=>.no
def jg(n:Nat)(ys xs:List W)(m:Mem):R W:=match xs with
 | [.ref b]=>match m[b]? with
  |some (.lst zs)=>if ys.length+zs.length<=lim then .ok .non (m.set n (.lst (ys++zs))) else .no
  |_=>.no
 |_=>.no
def jh(n:Nat)(ys xs:List W)(m:Mem):R W:=match xs with
 | [.int i,y]=>if 0<=i/\i<=ys.length/\ys.length<lim then .ok .non (m.set n (.lst (ys.take i.toNat++[y]++ys.drop i.toNat))) else .no
 |_=>.no
def Cu(ys xs:List W)(m:Mem):R W:=match xs with
 | [x]=>match x with
  |.str z=>match gM ys with
   |some ss=>.ok (.int (ss.count z)) m
   |none=>.no
  |_=>.no
 |_=>.no
def eU(n:Nat)(ys:List W)(name:String)(xs:List W)(m:Mem):R W:=
 if name="append" then gj n ys xs m
 else if name="clear" then Ct n xs m
 else if name="reverse" then xy n ys xs m
 else if name="pop" then ve n ys xs m
 else if name="extend" then jg n ys xs m
 else if name="insert" then jh n ys xs m
 else if name="count" then Cu ys xs m
 else .no
def lS(z:Str)(xs:List W)(m:Mem):R W:=match xs with
 | [x]=>match getL m x with
  |some a=>match gM a with
   |some ss=>if (ss.map (·.length)).sum+ss.length*z.length<=16777216 then .ok (.str (Txt.join z ss)) m else .no
   |none=>.no
  |none=>.no
 |_=>.no
def gY(z:Str)(xs:List W)(m:Mem):R W:=match xs with
 | [.str y]=>match (Builtin.Str.occurrences z y 0 z.length 1).head? with
  |some p=>.ok (.int (p:Nat)) m
  |none=>.no
 |_=>.no
def Gz(z:Str)(xs:List W)(m:Mem):R W:=match xs with
 | [.str y]=>.ok (.bl (Txt.endswith z y)) m
 |_=>.no
def Cv(z:Str)(xs:List W)(m:Mem):R W:=match xs with
 | [.str y]=>if y.length=1/\z.length<=lim then new (.lst ((Txt.split z y).map .str)) m else .no
 |_=>.no
def oh(z:Str)(name:String)(xs:List W)(m:Mem):R W:=
 if name="join" then lS z xs m
 else if name="index" then gY z xs m
 else if name="endswith" then Gz z xs m
 else if name="split" then Cv z xs m
 else .no
def zB(n:Nat)(ks:List L2.Key)(xs:List W)(m:Mem):R W:=match xs with
 | [x]=>match zw x with
  |some k=>if ks.length<4000 then .ok .non (m.set n (.set (if lP k ks then ks else ks++[k]))) else .no
  |none=>.no
 |_=>.no
def iG(n:Nat)(ks:List L2.Key)(name:String)(xs:List W)(m:Mem):R W:=
 if name="add" then zB n ks xs m
 else .no
def bx(o:W)(name:String)(xs:List W)(m:Mem):R W:=match o with
 |.ref n=>match m[n]? with
  |some (.lst a)=>eU n a name xs m
  |some (.set b)=>iG n b name xs m
  |_=>.no
 |.str z=>oh z name xs m
 |_=>.no
inductive Kd where
 |lst | str | set | no
 deriving DecidableEq
def kdOf(m:Mem):W->Kd
 |.ref n=>match m[n]? with
  |some (.lst _)=>.lst
  |some (.set _)=>.set
  |_=>.no
 |.str _=>.str
 |_=>.no
def kB(name:String):Kd:=if name="join"\/name="index"\/name="endswith"\/name="split" then .str else if name="add" then .set else .lst
mutual
def kP(g:Nat->Option W):W->Option W
 |.tup xs=>(eX g xs).map .tup
 |.fz xs=>(eX g xs).map .fz
 |.obj c ks vs=>(eX g vs).map (.obj c ks)
 |.ref n=>g n
 |.non=>some .non
 |.bl b=>some (.bl b)
 |.int i=>some (.int i)
 |.str x=>some (.str x)
def eX(g:Nat->Option W):List W->Option (List W)
 | []=>some []
 |x::r=>match kP g x with
  |none=>none
  |some y=>match eX g r with
   |none=>none
   |some ys=>some (y::ys)
end
def nh(m:Mem)(k:Nat):Nat->Nat->Option W
 |0,a=>if a<k then some (.ref a) else none
 |n+1,a=>if a<k then some (.ref a) else match m[a]? with
  |some (.lst xs)=>(eX (nh m k n) xs).map .fz
  |some (.ins c fs)=>(eX (nh m k n) (fs.map (·.2))).map (.obj c (fs.map (·.1)))
  |_=>none
mutual
def eY(k:Nat):W->Bool
 |.tup xs=>bq k xs
 |.fz xs=>bq k xs
 |.obj _ _ vs=>bq k vs
 |.ref n=>decide (n<k)
 |.non=>true
 |.bl _=>true
 |.int _=>true
 |.str _=>true
def bq(k:Nat):List W->Bool
 | []=>true
 |x::r=>eY k x&&bq k r
end
def gE(k:Nat):O->Bool
 |.lst xs=>bq k xs
 |.ins _ fs=>bq k (fs.map (·.2))
 |.set _=>true
 |.dic fs=>bq k (fs.map (·.2))
 |.exc _ _ ws=>bq k ws
def xA(k:Nat)(m:Mem):Bool:=m.all (gE k)
def zC(m:Mem)(r:R W):R W:=match r with
 |.no=>.no
 |.ok w a=>if m.length<=a.length/\xA m.length (a.take m.length)=true then match kP (nh a m.length 8) w with
  |some w1=>.ok w1 (a.take m.length)
  |none=>.no else .no
def fY:List Nat->Loc->Loc
 | [],Z=>Z
 |j::r,Z=>fY r (Z.set j none)
mutual
def aD:T->W->Loc->Option Loc
 |.var i,w,Z=>some (Z.set i (some w))
 |.tup ts,w,Z=>match w with
  |.tup xs=>cC ts xs Z
  |.fz xs=>cC ts xs Z
  |_=>none
def cC:Ts->List W->Loc->Option Loc
 |.nil,xs,Z=>match xs with
  | []=>some Z
  |_::_=>none
 |.cons t ts,xs,Z=>match xs with
  | []=>none
  |x::xs=>match aD t x Z with
   |some Z=>cC ts xs Z
   |none=>none
end
inductive Src where
 |lst (n:Nat) | tup (xs:List W) | rng (lo:Int) (k:Nat) | enm (s:Src) | zip (ss:List Src)
inductive Nx where
 |bad | fin | it (w:W)
inductive OY where
 |bad | fin | its (ws:List W)
mutual
def Src.get:Src->Mem->Nat->Nx
 |.lst n,m,i=>match getL m (.ref n) with
  |some xs=>match xs[i]? with
   |some w=>.it w
   |none=>.fin
  |none=>.bad
 |.tup xs,_,i=>match xs[i]? with
  |some w=>.it w
  |none=>.fin
 |.rng lo k,_,i=>if i<k then .it (.int (lo+i)) else .fin
 |.enm s,m,i=>match s.get m i with
  |.it w=>.it (.tup [.int i,w])
  |.fin=>.fin
  |.bad=>.bad
 |.zip ss,m,i=>match Src.Kg ss m i with
  |.its ws=>.it (.tup ws)
  |.fin=>.fin
  |.bad=>.bad
def Src.Kg:List Src->Mem->Nat->OY
 | [],_,_=>.its []
 |s::ss,m,i=>match s.get m i,Src.Kg ss m i with
  |.bad,_=>.bad
  |_,.bad=>.bad
  |.it w,.its ws=>.its (w::ws)
  |_,_=>.fin
end
mutual
def Src.len:Src->Mem->Nat
 |.lst n,m=>match getL m (.ref n) with
  |some xs=>xs.length
  |none=>0
 |.tup xs,_=>xs.length
 |.rng _ k,_=>k
 |.enm s,m=>s.len m
 |.zip ss,m=>Src.lens ss m
def Src.lens:List Src->Mem->Nat
 | [],_=>0
 |s::ss,m=>max (s.len m) (Src.lens ss m)
end
def srcOf(m:Mem):W->Option Src
 |.tup xs=>some (.tup xs)
 |.fz xs=>some (.tup xs)
 |.ref n=>match getL m (.ref n) with
  |some _=>some (.lst n)
  |none=>none
 |_=>none
def t7(m:Mem):List W->Option (List Src)
 | []=>some []
 |w::ws=>match srcOf m w with
  |none=>none
  |some s=>match t7 m ws with
   |none=>none
   |some ss=>some (s::ss)
def signs(z:Str):List W:=z.cps.toList.map λ c=>W.str ⟨#[c]⟩
def nE(m:Mem):W->Option Src
 |.str z=>if L2.asc z then some (.tup (signs z)) else none
 |w=>srcOf m w
inductive F where
 |nx (Z:Loc) | rt (w:W) | bk (Z:Loc) | ct (Z:Loc)
 |rz (c:Str) (fw:Option (Str×W)) (Z:Loc)
set_option genInjectivity false in
structure Cs where
 flds:List (Str×Str)
 mths:List ((Str×Str)×Nat)
 ini:List (Str×Nat)
 dic:List (Str×List (Str×W)):=[]
 isc:List Str:=[]
set_option genInjectivity false in
structure Cx where
 call:Nat->List W->Mem->R W
 fuel:Nat
 cs:Cs
 flow:Nat->List W->Mem->R F
def vf(a:Cs)(x:W)(f:Str)(m:Mem):R W:=match lR m x with
 |some (c,fs)=>if a.flds.contains (c,f) then match fs.lookup f with
  |some w=>.ok w m
  |none=>.no else .no
 |none=>.no
def vg(a:Cs)(x:W)(f:Str)(m:Mem):Option Nat:=match lR m x with
 |some (c,fs)=>if (fs.lookup f).isNone then a.mths.lookup (c,f) else none
 |none=>none
def eL(f:Str)(v:W):List (Str×W)->List (Str×W)
 | []=>[(f,v)]
 |(g,x)::r=>if g=f then (g,v)::r else (g,x)::eL f v r
def oi(a:Cs)(x:W)(f:Str)(v:W)(m:Mem):R Unit:=match x with
 |.ref n=>match m[n]? with
  |some (.ins c fs)=>if a.flds.contains (c,f)/\fs.length<1000 then .ok () (m.set n (.ins c (eL f v fs))) else .no
  |_=>.no
 |_=>.no
def ua(C:Cx)(c:Str)(ws:List W)(m:Mem):R W:=match C.cs.ini.lookup c with
 |some i=>(C.call i (.ref m.length::ws) (m++[.ins c []])).bind λ w a=>match w with
  |.non=>.ok (.ref m.length) a
  |_=>.no
 |none=>.no
def dX(get:Mem->Nat->Nx)(t:T)(body:Loc->Mem->R F):Nat->Nat->Loc->Mem->R F
 |k,i,Z,m=>match get m i with
  |.bad=>.no
  |.fin=>.ok (.nx Z) m
  |.it x=>match k with
   |0=>.no
   |k+1=>match aD t x Z with
    |none=>.no
    |some Z=>(body Z m).bind λ f m=>match f with
     |.nx Z=>dX get t body k (i+1) Z m
     |.ct Z=>dX get t body k (i+1) Z m
     |.bk Z=>.ok (.nx Z) m
     |.rt w=>.ok (.rt w) m
     |.rz c w Z=>.ok (.rz c w Z) m
def pR(c:Loc->Mem->R Bool)(body:Loc->Mem->R F):Nat->Loc->Mem->R F
 |0,_,_=>.no
 |k+1,Z,m=>(c Z m).bind λ b m=>if b then (body Z m).bind λ f m=>match f with
   |.nx Z=>pR c body k Z m
   |.ct Z=>pR c body k Z m
   |.bk Z=>.ok (.nx Z) m
   |.rt w=>.ok (.rt w) m
   |.rz c w Z=>.ok (.rz c w Z) m
  else .ok (.nx Z) m
def ck(get:Mem->Nat->Nx)(t:T)(test:Loc->Mem->R Bool)(body:Loc->Mem->List W->R (List W×Loc)):Nat->Nat->Loc->Mem->List W->R (List W×Loc)
 |k,i,Z,m,acc=>match get m i with
  |.bad=>.no
  |.fin=>.ok (acc,Z) m
  |.it x=>match k with
   |0=>.no
   |k+1=>match aD t x Z with
    |none=>.no
    |some Z=>(test Z m).bind λ b m=>if b then (body Z m acc).bind λ p m=>ck get t test body k (i+1) p.2 m p.1 else ck get t test body k (i+1) Z m acc
def kC(x:W)(m:Mem):R Src:=match nE m x with
 |some s=>.ok s m
 |none=>.no
structure Ev where
 v:R W
 t:R Bool
 i:R Src
def vx(v:R W):Ev:=⟨v,v.bind λ w m=>truthy m w,v.bind kC⟩
def tx(v:R W)(t:R Bool):Ev:=⟨v,t,v.bind kC⟩
def ix(i:R Src):Ev:=⟨.no,.no,i⟩
mutual
def eB(C:Cx):E->Loc->Mem->Ev
 |.var i,Z,m=>vx (match Z[i]? with
  |some (some w)=>.ok w m
  |_=>.no)
 |.cst w,_,m=>vx (.ok w m)
 |.bin op a b,Z,m=>vx ((eB C a Z m).v.bind λ x m=>(eB C b Z m).v.bind λ y m=>binop op x y m)
 |.neg a,Z,m=>vx ((eB C a Z m).v.bind λ x m=>match x with
  |.int i=>.ok (.int (-i)) m
  |_=>.no)
 |.not a,Z,m=>tx ((eB C a Z m).v.bind λ x m=>match x with
  |.bl b=>.ok (.bl (!b)) m
  |_=>.no) ((eB C a Z m).t.bind λ c m=>.ok (!c) m)
 |.and a b,Z,m=>tx ((eB C a Z m).v.bind λ x m=>match x with
  |.bl c=>if c then (eB C b Z m).v else .ok (.bl false) m
  |_=>.no) ((eB C a Z m).t.bind λ c m=>if c then (eB C b Z m).t else .ok false m)
 |.or a b,Z,m=>tx ((eB C a Z m).v.bind λ x m=>(truthy m x).bind λ c m=>if c then .ok x m else (eB C b Z m).v) ((eB C a Z m).t.bind λ c m=>if c then .ok true m else (eB C b Z m).t)
 |.cmp op a b,Z,m=>tx ((eB C a Z m).v.bind λ x m=>(eB C b Z m).v.bind λ y m=>(aE op x y m).bind λ c m=>.ok (.bl c) m) ((eB C a Z m).v.bind λ x m=>(eB C b Z m).v.bind λ y m=>aE op x y m)
 |.chain d o2 a b c,Z,m=>tx ((eB C a Z m).v.bind λ x m=>(eB C b Z m).v.bind λ y m=>(aE d x y m).bind λ k m=>
   if k then (eB C c Z m).v.bind λ z m=>(aE o2 y z m).bind λ k m=>.ok (.bl k) m else .ok (.bl false) m) ((eB C a Z m).v.bind λ x m=>(eB C b Z m).v.bind λ y m=>(aE d x y m).bind λ k m=>
   if k then (eB C c Z m).v.bind λ z m=>aE o2 y z m else .ok false m)
 |.ife t a b,Z,m=>tx ((eB C t Z m).t.bind λ c m=>if c then (eB C a Z m).v else (eB C b Z m).v) ((eB C t Z m).t.bind λ c m=>if c then (eB C a Z m).t else (eB C b Z m).t)
 |.tup es,Z,m=>vx ((bh C es Z m).bind λ ws m=>if ws.length<=lim then .ok (.tup ws) m else .no)
 |.lst es,Z,m=>vx ((bh C es Z m).bind λ ws m=>if ws.length<=lim then new (.lst ws) m else .no)
 |.idx a b,Z,m=>vx ((eB C a Z m).v.bind λ x m=>(eB C b Z m).v.bind λ y m=>aT x y m)
 |.slc a lo hi,Z,m=>vx ((eB C a Z m).v.bind λ x m=>(zD C lo Z m).bind λ l m=>(zD C hi Z m).bind λ u m=>cW x l u m)
 |.call f es,Z,m=>vx ((bh C es Z m).bind λ ws m=>C.call f ws m)
 |.blt b es,Z,m=>vx ((bh C es Z m).bind λ ws m=>aY b ws m)
 |.isI a t,Z,m=>vx ((eB C a Z m).v.bind λ x m=>match Ke m t x with
  |some b=>.ok (.bl b) m
  |none=>.no)
 |.meth o name es,Z,m=>vx ((eB C o Z m).v.bind λ x m=>if kdOf m x=kB name then (bh C es Z m).bind λ ws m=>bx x name ws m else .no)
 |.comp g,Z,m=>vx ((gZ C g Z m []).bind λ p m=>new (.lst p.1) m)
 |.lrng a,Z,m=>vx ((eB C a Z m).v.bind λ x m=>match x with
  |.int j=>if 0<=j/\j<=1000000 then new (.lst ((List.range j.toNat).map λ i=>W.int (i:Nat))) m else .no
  |_=>.no)
 |.frz a,Z,m=>vx (zC m (eB C a Z m).v)
 |.fld a f,Z,m=>vx ((eB C a Z m).v.bind λ x m=>vf C.cs x f m)
 |.make c es,Z,m=>vx ((bh C es Z m).bind λ ws m=>ua C c ws m)
 |.mth o f es,Z,m=>vx ((eB C o Z m).v.bind λ x m=>match vg C.cs x f m with
  |some i=>(bh C es Z m).bind λ ws m=>C.call i (x::ws) m
  |none=>.no)
 |.nB,_,m=>vx (new (.set []) m)
 |.fus u a,Z,m=>vx ((eB C a Z m).v.bind λ x m=>dW u x m)
 |.rng a,Z,m=>ix ((eB C a Z m).v.bind λ x m=>match x with
  |.int j=>if -(2^62)<=j/\j<2^62 then .ok (.rng 0 j.toNat) m else .no
  |_=>.no)
 |.rng2 a b,Z,m=>ix ((eB C a Z m).v.bind λ x m=>(eB C b Z m).v.bind λ y m=>match x,y with
  |.int i,.int j=>if -(2^62)<=i/\i<2^62/\-(2^62)<=j/\j<2^62 then .ok (.rng i (j - i).toNat) m else .no
  |_,_=>.no)
 |.enm a,Z,m=>ix ((eB C a Z m).v.bind λ x m=>match srcOf m x with
  |some s=>.ok (.enm s) m
  |none=>.no)
 |.zip es,Z,m=>ix ((bh C es Z m).bind λ xs m=>match t7 m xs with
  |some ss=>.ok (.zip ss) m
  |none=>.no)
def bh(C:Cx):Es->Loc->Mem->R (List W)
 |.nil,_,m=>.ok [] m
 |.cons e es,Z,m=>(eB C e Z m).v.bind λ w m=>(bh C es Z m).bind λ ws m=>.ok (w::ws) m
def zD(C:Cx):Oe->Loc->Mem->R (Option Int)
 |.none,_,m=>.ok none m
 |.some e,Z,m=>(eB C e Z m).v.bind λ w m=>match w with
  |.int i=>.ok (some i) m
  |_=>.no
def gZ(C:Cx):G->Loc->Mem->List W->R (List W×Loc)
 |.elt e,Z,m,a=>(eB C e Z m).v.bind λ w m=>if a.length<lim then .ok (a++[w],Z) m else .no
 |.gen t js it ifs rest,Z,m,a=>(eB C it Z m).i.bind λ s m=>ck s.get t (fun Z m=>bD C ifs Z m) (fun Z m a=>gZ C rest Z m a) (s.len m) 0 (fY js Z) m a
def bD(C:Cx):Es->Loc->Mem->R Bool
 |.nil,_,m=>.ok true m
 |.cons e es,Z,m=>(eB C e Z m).t.bind λ b m=>if b then bD C es Z m else .ok false m
end
def ao(C:Cx)(e:E)(Z:Loc)(m:Mem):R W:=(eB C e Z m).v
def br(C:Cx)(e:E)(Z:Loc)(m:Mem):R Bool:=(eB C e Z m).t
def dw(C:Cx)(e:E)(Z:Loc)(m:Mem):R Src:=(eB C e Z m).i
section
variable{C:Cx}{Z:Loc}{m:Mem}
theorem bu(i:Nat):ao C (.var i) Z m=(match Z[i]? with
   |some (some w)=>.ok w m
   |_=>.no):=rfl
theorem eZ(i:Nat):br C (.var i) Z m=(ao C (.var i) Z m).bind λ w m=>D.truthy m w:=rfl
theorem bB(w:W):ao C (.cst w) Z m=(.ok w m):=rfl
theorem fc(w:W):br C (.cst w) Z m=(ao C (.cst w) Z m).bind λ w m=>D.truthy m w:=rfl
theorem cH(c:Operator)(a b:E):ao C (.bin c a b) Z m=((ao C a Z m).bind λ x m=>(ao C b Z m).bind λ y m=>binop c x y m):=rfl
theorem fh(c:Operator)(a b:E):br C (.bin c a b) Z m=(ao C (.bin c a b) Z m).bind λ w m=>D.truthy m w:=rfl
theorem ji(a:E):ao C (.neg a) Z m=((ao C a Z m).bind λ x m=>match x with
   |.int i=>.ok (.int (-i)) m
   |_=>.no):=rfl
theorem fj(a:E):br C (.neg a) Z m=(ao C (.neg a) Z m).bind λ w m=>D.truthy m w:=rfl
theorem gk(a:E):ao C (.not a) Z m=((ao C a Z m).bind λ x m=>match x with
   |.bl b=>.ok (.bl (!b)) m
   |_=>.no):=rfl
theorem fk(a b:E):ao C (.and a b) Z m=((ao C a Z m).bind λ x m=>match x with
   |.bl c=>if c then ao C b Z m else .ok (.bl false) m
   |_=>.no):=rfl
theorem jN(a b:E):ao C (.or a b) Z m=((ao C a Z m).bind λ x m=>(D.truthy m x).bind λ c m=>if c then .ok x m else ao C b Z m):=rfl
theorem fV(d:CmpOp)(a b:E):ao C (.cmp d a b) Z m=((ao C a Z m).bind λ x m=>(ao C b Z m).bind λ y m=>(aE d x y m).bind λ c m=>.ok (.bl c) m):=rfl
theorem bY(d o2:CmpOp)(a b c:E):ao C (.chain d o2 a b c) Z m=((ao C a Z m).bind λ x m=>(ao C b Z m).bind λ y m=>(aE d x y m).bind λ k m=>
    if k then (ao C c Z m).bind λ z m=>(aE o2 y z m).bind λ k m=>.ok (.bl k) m else .ok (.bl false) m):=rfl
theorem bT(t a b:E):ao C (.ife t a b) Z m=((br C t Z m).bind λ c m=>if c then ao C a Z m else ao C b Z m):=rfl
theorem dY(es:Es):ao C (.tup es) Z m=((bh C es Z m).bind λ ws m=>if ws.length<=lim then .ok (.tup ws) m else .no):=rfl
theorem fm(es:Es):br C (.tup es) Z m=(ao C (.tup es) Z m).bind λ w m=>D.truthy m w:=rfl
theorem cY(es:Es):ao C (.lst es) Z m=((bh C es Z m).bind λ ws m=>if ws.length<=lim then new (.lst ws) m else .no):=rfl
theorem fq(es:Es):br C (.lst es) Z m=(ao C (.lst es) Z m).bind λ w m=>D.truthy m w:=rfl
theorem bU(a b:E):ao C (.idx a b) Z m=((ao C a Z m).bind λ x m=>(ao C b Z m).bind λ y m=>aT x y m):=rfl
theorem fu(a b:E):br C (.idx a b) Z m=(ao C (.idx a b) Z m).bind λ w m=>D.truthy m w:=rfl
theorem fy(a:E)(lo hi:Oe):ao C (.slc a lo hi) Z m=((ao C a Z m).bind λ x m=>(zD C lo Z m).bind λ l m=>(zD C hi Z m).bind λ u m=>cW x l u m):=rfl
theorem fB(a:E)(lo hi:Oe):br C (.slc a lo hi) Z m=(ao C (.slc a lo hi) Z m).bind λ w m=>D.truthy m w:=rfl
theorem gF(f:Nat)(es:Es):ao C (.call f es) Z m=((bh C es Z m).bind λ ws m=>C.call f ws m):=rfl
theorem cD(f:Nat)(es:Es):br C (.call f es) Z m=(ao C (.call f es) Z m).bind λ w m=>D.truthy m w:=rfl
theorem bZ(b:B)(es:Es):ao C (.blt b es) Z m=((bh C es Z m).bind λ ws m=>aY b ws m):=rfl
theorem cJ(b:B)(es:Es):br C (.blt b es) Z m=(ao C (.blt b es) Z m).bind λ w m=>D.truthy m w:=rfl
theorem gO(a:E)(t:String):ao C (.isI a t) Z m=((ao C a Z m).bind λ x m=>match Ke m t x with
   |some b=>.ok (.bl b) m
   |none=>.no):=rfl
theorem fC(a:E)(t:String):br C (.isI a t) Z m=(ao C (.isI a t) Z m).bind λ w m=>D.truthy m w:=rfl
theorem bG(o:E)(name:String)(es:Es):ao C (.meth o name es) Z m=((ao C o Z m).bind λ x m=>if kdOf m x=kB name then (bh C es Z m).bind λ ws m=>bx x name ws m else .no):=rfl
theorem cM(o:E)(name:String)(es:Es):br C (.meth o name es) Z m=(ao C (.meth o name es) Z m).bind λ w m=>D.truthy m w:=rfl
theorem cN(g:G):br C (.comp g) Z m=(ao C (.comp g) Z m).bind λ w m=>D.truthy m w:=rfl
theorem eE(a:E):ao C (.lrng a) Z m=((ao C a Z m).bind λ x m=>match x with
   |.int j=>if 0<=j/\j<=1000000 then new (.lst ((List.range j.toNat).map λ i=>W.int (i:Nat))) m else .no
   |_=>.no):=rfl
theorem cP(a:E):br C (.lrng a) Z m=(ao C (.lrng a) Z m).bind λ w m=>D.truthy m w:=rfl
theorem dG(u:U)(a:E):ao C (.fus u a) Z m=((ao C a Z m).bind λ x m=>dW u x m):=rfl
theorem eG(u:U)(a:E):br C (.fus u a) Z m=(ao C (.fus u a) Z m).bind λ w m=>D.truthy m w:=rfl
theorem fD(a:E):br C (.frz a) Z m=(ao C (.frz a) Z m).bind λ w m=>D.truthy m w:=rfl
theorem j9(a:E)(f:Str):ao C (.fld a f) Z m=((ao C a Z m).bind λ x m=>vf C.cs x f m):=rfl
theorem fE(a:E)(f:Str):br C (.fld a f) Z m=(ao C (.fld a f) Z m).bind λ w m=>D.truthy m w:=rfl
theorem dM(c:Str)(es:Es):ao C (.make c es) Z m=((bh C es Z m).bind λ ws m=>ua C c ws m):=rfl
theorem cQ(c:Str)(es:Es):br C (.make c es) Z m=(ao C (.make c es) Z m).bind λ w m=>D.truthy m w:=rfl
theorem kc(o:E)(f:Str)(es:Es):ao C (.mth o f es) Z m=((ao C o Z m).bind λ x m=>match vg C.cs x f m with
   |some i=>(bh C es Z m).bind λ ws m=>C.call i (x::ws) m
   |none=>.no):=rfl
theorem fF(o:E)(f:Str)(es:Es):br C (.mth o f es) Z m=(ao C (.mth o f es) Z m).bind λ w m=>D.truthy m w:=rfl
theorem dN :ao C (.nB) Z m=(new (.set []) m):=rfl
theorem cR :br C (.nB) Z m=(ao C (.nB) Z m).bind λ w m=>D.truthy m w:=rfl
theorem dH(a b:E):br C (.and a b) Z m=((br C a Z m).bind λ c m=>if c then br C b Z m else .ok false m):=rfl
theorem fS(a b:E):br C (.or a b) Z m=((br C a Z m).bind λ c m=>if c then .ok true m else br C b Z m):=rfl
theorem dI(a:E):br C (.not a) Z m=((br C a Z m).bind λ c m=>.ok (!c) m):=rfl
theorem aX(c:CmpOp)(a b:E):br C (.cmp c a b) Z m=((ao C a Z m).bind λ x m=>(ao C b Z m).bind λ y m=>aE c x y m):=rfl
theorem bK(d o2:CmpOp)(a b c:E):br C (.chain d o2 a b c) Z m=((ao C a Z m).bind λ x m=>(ao C b Z m).bind λ y m=>(aE d x y m).bind λ k m=>
   if k then (ao C c Z m).bind λ z m=>aE o2 y z m else .ok false m):=rfl
theorem eK(t a b:E):br C (.ife t a b) Z m=((br C t Z m).bind λ c m=>if c then br C a Z m else br C b Z m):=rfl
theorem aG:bh C .nil Z m=.ok [] m:=rfl
theorem au(e:E)(es:Es):bh C (.cons e es) Z m=((ao C e Z m).bind λ w m=>(bh C es Z m).bind λ ws m=>.ok (w::ws) m):=rfl
theorem g9:zD C .none Z m=.ok none m:=rfl
theorem ia(e:E):zD C (.some e) Z m=((ao C e Z m).bind λ w m=>match w with
   |.int i=>.ok (some i) m
   |_=>.no):=rfl
theorem ay{J:Type}{a:α}{m:Mem}{f:α->Mem->R J}:(R.ok a m).bind f=f a m:=Eq.trans rfl rfl
theorem jj(i:Nat):dw C (.var i) Z m=(ao C (.var i) Z m).bind kC:=rfl
theorem kg(a b:E):dw C (.idx a b) Z m=(ao C (.idx a b) Z m).bind kC:=rfl
theorem lT(f:Nat)(es:Es):dw C (.call f es) Z m=(ao C (.call f es) Z m).bind kC:=rfl
theorem lU(a:E):dw C (.frz a) Z m=(ao C (.frz a) Z m).bind kC:=rfl
theorem qY(a:E)(f:Str):dw C (.fld a f) Z m=(ao C (.fld a f) Z m).bind kC:=rfl
theorem qZ(o:E)(f:Str)(es:Es):dw C (.mth o f es) Z m=(ao C (.mth o f es) Z m).bind kC:=rfl
theorem q8(a:E)(lo hi:Oe):dw C (.slc a lo hi) Z m=(ao C (.slc a lo hi) Z m).bind kC:=rfl
theorem q9(w:W):dw C (.cst w) Z m=(ao C (.cst w) Z m).bind kC:=rfl
theorem rj(es:Es):dw C (.tup es) Z m=(ao C (.tup es) Z m).bind kC:=rfl
theorem rm(es:Es):dw C (.lst es) Z m=(ao C (.lst es) Z m).bind kC:=rfl
theorem rq(c:Operator)(a b:E):dw C (.bin c a b) Z m=(ao C (.bin c a b) Z m).bind kC:=rfl
theorem gG(g:G):ao C (.comp g) Z m=((gZ C g Z m []).bind λ p m=>new (.lst p.1) m):=rfl
theorem iU(a:E):ao C (.frz a) Z m=zC m (ao C a Z m):=rfl
theorem jk(a:E):dw C (.rng a) Z m=(ao C a Z m).bind λ x m=>match x with
  |.int j=>if -(2^62)<=j/\j<2^62 then .ok (.rng 0 j.toNat) m else .no
  |_=>.no:=rfl
theorem lV(a b:E):dw C (.rng2 a b) Z m=(ao C a Z m).bind λ x m=>(ao C b Z m).bind λ y m=>match x,y with
  |.int i,.int j=>if -(2^62)<=i/\i<2^62/\-(2^62)<=j/\j<2^62 then .ok (.rng i (j - i).toNat) m else .no
  |_,_=>.no:=rfl
theorem ki(a:E):dw C (.enm a) Z m=(ao C a Z m).bind λ x m=>match srcOf m x with
  |some s=>.ok (.enm s) m
  |none=>.no:=rfl
theorem rA(es:Es):dw C (.zip es) Z m=(bh C es Z m).bind λ xs m=>match t7 m xs with
  |some ss=>.ok (.zip ss) m
  |none=>.no:=rfl
theorem Kh{a:List W}(e:E):gZ C (.elt e) Z m a=(ao C e Z m).bind λ w m=>if a.length<lim then .ok (a++[w],Z) m else .no:=rfl
theorem Kl{a:List W}(t:T)(js:List Nat)(it:E)(ifs:Es)(b:G):gZ C (.gen t js it ifs b) Z m a=(dw C it Z m).bind λ s m=>ck s.get t (fun Z m=>bD C ifs Z m) (fun Z m a=>gZ C b Z m a) (s.len m) 0 (fY js Z) m a:=rfl
theorem Km:bD C .nil Z m=.ok true m:=rfl
theorem GA(e:E)(es:Es):bD C (.cons e es) Z m=(br C e Z m).bind λ b m=>if b then bD C es Z m else .ok false m:=rfl
def fG:=And.intro (@aG) (@au)
def Eb:=And.intro (@g9) (@ia)
def ic:=And.intro (@Kh) (@Kl)
def cy:=And.intro (@Km) (@GA)
end
mutual
def fT(C:Cx):A->W->Loc->Mem->R Loc
 |.pt t,w,Z,m=>match aD t w Z with
  |some Z=>.ok Z m
  |none=>.no
 |.sub o i,w,Z,m=>(ao C o Z m).bind λ x m=>(ao C i Z m).bind λ y m=>(iT x y w m).bind λ _ m=>.ok Z m
 |.tup l,w,Z,m=>match aP m w with
  |some xs=>fU C l xs Z m
  |none=>.no
def fU(C:Cx):As->List W->Loc->Mem->R Loc
 |.nil,xs,Z,m=>match xs with
  | []=>.ok Z m
  |_::_=>.no
 |.cons a l,xs,Z,m=>match xs with
  | []=>.no
  |x::xs=>(fT C a x Z m).bind fun Z m=>fU C l xs Z m
end
def Ec(c:Operator)(x y:W)(m:Mem):R W:=match c with
 |.Add=>match x,y with
  |.int a,.int b=>.ok (.int (a+b)) m
  |_,_=>.no
 |.Sub=>match x,y with
  |.int a,.int b=>.ok (.int (a - b)) m
  |_,_=>.no
 |_=>.no
def outF:F->Mem->R W
 |.nx _,m=>.ok .non m
 |.rt w,m=>.ok w m
 |_,_=>.no
def oj(C:Cx)(h:Ea)(Z:Loc)(w:W)(m:Mem):R F:=match h with
 |.drop=>.ok (.nx Z) m
 |.ret=>.ok (.rt w) m
 |.asg t=>(fT C t w Z m).bind fun Z m=>.ok (.nx Z) m
def Bs(C:Cx)(h:Ea)(Z:Loc)(a:Option W)(fl:F)(m:Mem):R F:=match fl with
 |.rz c fw _=>.ok (.rz c fw Z) m
 |fl=>(outF fl m).bind λ w m=>match a with
  |none=>oj C h Z w m
  |some x=>match w with
   |.non=>oj C h Z x m
   |_=>.no
def GB(c:Str):Option (Str×W)->O
 |none=>.exc c "" []
 |some (f,w)=>.exc c f [w]
def uc(i:Option Nat)(w:Option W)(Z:Loc):Loc:=match i with
 |none=>Z
 |some i=>Z.set i w
def gone(i:Option Nat)(fl:F)(m:Mem):R F:=match fl with
 |.nx Z=>.ok (.nx (uc i none Z)) m
 |.bk Z=>.ok (.bk (uc i none Z)) m
 |.ct Z=>.ok (.ct (uc i none Z)) m
 |.rt w=>.ok (.rt w) m
 |.rz _ _ _=>.no
mutual
def aM(C:Cx):S->Loc->Mem->R F
 |.asg t e,Z,m=>(ao C e Z m).bind λ w m=>(fT C t w Z m).bind fun Z m=>.ok (.nx Z) m
 |.aug i op e,Z,m=>match Z[i]? with
  |some (some x)=>(ao C e Z m).bind λ y m=>(Ec op x y m).bind λ z m=>.ok (.nx (Z.set i (some z))) m
  |_=>.no
 |.expr e,Z,m=>(ao C e Z m).bind λ _ m=>.ok (.nx Z) m
 |.ret e,Z,m=>(ao C e Z m).bind λ w m=>.ok (.rt w) m
 |.retN,_,m=>.ok (.rt .non) m
 |.ife t a b,Z,m=>(br C t Z m).bind λ c m=>if c then aF C a Z m else aF C b Z m
 |.for_ t it b,Z,m=>(dw C it Z m).bind λ s m=>dX s.get t (fun Z m=>aF C b Z m) (s.len m) 0 Z m
 |.while_ t b,Z,m=>pR (fun Z m=>br C t Z m) (fun Z m=>aF C b Z m) C.fuel Z m
 |.pass,Z,m=>.ok (.nx Z) m
 |.brk,Z,m=>.ok (.bk Z) m
 |.cont,Z,m=>.ok (.ct Z) m
 |.never,_,_=>.no
 |.fas o f e,Z,m=>(ao C e Z m).bind λ w m=>(ao C o Z m).bind λ x m=>(oi C.cs x f w m).bind λ _ m=>.ok (.nx Z) m
 |.rais c f e,Z,m=>(ao C e Z m).bind λ w m=>.ok (.rz c (f.map λ g=>(g,w)) Z) m
 |.xc h none i es,Z,m=>(bh C es Z m).bind λ ws m=>(C.flow i ws m).bind λ fl m=>Bs C h Z none fl m
 |.xc h (some c) i es,Z,m=>(bh C es Z m).bind λ ws m=>(C.flow i (.ref m.length::ws) (m++[.ins c []])).bind λ fl m1=>Bs C h Z @(.ref m.length) fl m1
 |.tr b cs i h,Z,m=>(aF C b Z m).bind λ fl m=>match fl with
  |.rz c fw Z1=>if cs.contains c then (aF C h (uc i @(.ref m.length) Z1) (m++[GB c fw])).bind λ fl m=>gone i fl m else .no
  |fl=>.ok fl m
def aF(C:Cx):Ss->Loc->Mem->R F
 |.nil,Z,m=>.ok (.nx Z) m
 |.cons s r,Z,m=>(aM C s Z m).bind λ f m=>match f with
  |.nx Z=>aF C r Z m
  |f=>.ok f m
end
section
variable{C:Cx}{Z:Loc}{m:Mem}
theorem fH(t:A)(e:E):aM C (.asg t e) Z m=(ao C e Z m).bind λ w m=>(fT C t w Z m).bind fun Z m=>.ok (.nx Z) m:=rfl
theorem zE(i:Nat)(a:Operator)(e:E):aM C (.aug i a e) Z m=match Z[i]? with
  |some (some x)=>(ao C e Z m).bind λ y m=>(Ec a x y m).bind λ z m=>.ok (.nx (Z.set i (some z))) m
  |_=>.no:=rfl
theorem lW(e:E):aM C (.expr e) Z m=(ao C e Z m).bind λ _ m=>.ok (.nx Z) m:=rfl
theorem rB(e:E):aM C (.ret e) Z m=(ao C e Z m).bind λ w m=>.ok (.rt w) m:=rfl
theorem pS:aM C .retN Z m=.ok (.rt .non) m:=rfl
theorem rC(t:E)(a b:Ss):aM C (.ife t a b) Z m=(br C t Z m).bind λ c m=>if c then aF C a Z m else aF C b Z m:=rfl
theorem pT(t:T)(it:E)(b:Ss):aM C (.for_ t it b) Z m=(dw C it Z m).bind λ s m=>dX s.get t (fun Z m=>aF C b Z m) (s.len m) 0 Z m:=rfl
theorem rD(t:E)(b:Ss):aM C (.while_ t b) Z m=pR (fun Z m=>br C t Z m) (fun Z m=>aF C b Z m) C.fuel Z m:=rfl
theorem pU:aM C .pass Z m=.ok (.nx Z) m:=rfl
theorem vh:aM C .brk Z m=.ok (.bk Z) m:=rfl
theorem pV:aM C .cont Z m=.ok (.ct Z) m:=rfl
theorem kQ:aM C .never Z m=.no:=rfl
theorem rE(o:E)(f:Str)(e:E):aM C (.fas o f e) Z m=(ao C e Z m).bind λ w m=>(ao C o Z m).bind λ x m=>(oi C.cs x f w m).bind λ _ m=>.ok (.nx Z) m:=rfl
theorem ud(c:Str)(f:Option Str)(e:E):aM C (.rais c f e) Z m=(ao C e Z m).bind λ w m=>.ok (.rz c (f.map λ g=>(g,w)) Z) m:=rfl
theorem rF(h:Ea)(i:Nat)(es:Es):aM C (.xc h none i es) Z m=(bh C es Z m).bind λ ws m=>(C.flow i ws m).bind λ fl m=>Bs C h Z none fl m:=rfl
theorem rG(h:Ea)(c:Str)(i:Nat)(es:Es):aM C (.xc h (some c) i es) Z m=(bh C es Z m).bind λ ws m=>(C.flow i (.ref m.length::ws) (m++[.ins c []])).bind λ fl m1=>Bs C h Z @(.ref m.length) fl m1:=rfl
theorem Cw(b:Ss)(a:List Str)(i:Option Nat)(h:Ss):aM C (.tr b a i h) Z m=(aF C b Z m).bind λ fl m=>match fl with
  |.rz c fw Z1=>if a.contains c then (aF C h (uc i @(.ref m.length) Z1) (m++[GB c fw])).bind λ fl m=>gone i fl m else .no
  |fl=>.ok fl m:=rfl
theorem pW:aF C .nil Z m=.ok (.nx Z) m:=rfl
theorem gH(s:S)(r:Ss):aF C (.cons s r) Z m=(aM C s Z m).bind λ f m=>match f with
  |.nx Z=>aF C r Z m
  |f=>.ok f m:=rfl
end
set_option genInjectivity false in
structure Fn where
 np:Nat
 nl:Nat
 body:Ss
def fJ(n:Nat)(ws:List W):Loc:=ws.map some++List.replicate (n - ws.length) none
end D
end
section
namespace L2
open PySem PySem.Spec PyProof.Rows List
variable{C fa:Addr}{E' xe:Value->Shared->Prop}{H:Hp}{K:ae}{M:Model}{P:Program}{Q:Unit->Shared->Prop}{X:Cx}{bm:List Value}{e fl:Value}{h:Heap}{i:Option Value}{o:Obj}{aa:List (Addr×Obj)}{s:Shared}{tk:Tok}{w:World}{Y:St}
def jO(h:Heap)(e:Addr)(cls:Value)(c:Option Addr)(tb:Value):Prop:=∃a b,h.get? e=some a/\a.cls=cls/\a.dict=c/\a.data=.fields b/\b[1]?=some tb
def Bt(h:Heap)(T:Addr)(fl:Value):Prop:=∃b a,h.get? T=some b/\b.data=.fields a/\a[3]?=some fl
def Cy(h:Heap)(e:Addr)(tb:Value):Prop:=tb=.none\/∃T,tb=.ref T/\Bt h T .none/\T≠e
section
variable{M:Model}{A:Around}{E:Value->Shared->Prop}{s:Shared}{base:Heap}{env:Env}{outer:List Env}{L e:Addr}{cls tb:Value}{od:Option Addr}
theorem jO.yD{l:List Env}(f:s.heap.FunFrames base l)(g:jO s.heap e cls od tb):e∉l.filterMap (·.frame):=λ d=>by
 let⟨_,o,b,a⟩:=f.mem d;let⟨m,c,k,_,_,j,_⟩:=g;rw[k] at b;cases b;exact a c j
theorem Bt.yD{l:List Env}{T:Addr}(f:s.heap.FunFrames base l)(g:Bt s.heap T fl):T∉l.filterMap (·.frame):=λ d=>by
 let⟨_,o,b,a⟩:=f.mem d;let⟨m,c,k,j,_⟩:=g;rw[k] at b;cases b;exact a c j
theorem rH{B:Value}{c:Bool}(n:A.frames=some (env::outer))(t:s.heap.FunFrames base (env::outer))(I:env.frame=some L)(u:jO s.heap e cls od tb)
  (h:∀h' T,(∀b o,s.heap.get? b=some o->b∉(env::outer).filterMap (·.frame)->b≠e->h'.get? b=some o)->(∀b o,s.heap.get? b=some o->b≠e->∃sl,h'.get? b=some {o with slots:=sl})->
   jO h' e cls od (.ref T)->Bt h' T (rawInt L)->s⁻¹<=T->Q () {s with heap:=h'}) :
  wpAny M A (frameOf env >>= λ a=>entryPlaceOf L c >>= λ k=>EntryCells.newEntry B a .none (rawInt L) .none k >>= λ b=>setField (.ref e) 1 b) Q E s:=by
 have S:=u.yD t;let⟨r,F,R,O,N,y,x⟩:=u;refine Qa (wpAny_frameOf_fun n t I λ g l=>?_);refine Qa (wpAny_entryPlaceOf λ k f=>?_);unfold EntryCells.newEntry newFields;refine Qa (Rn ?_ (f.sizeOk5 _ _ _ _ _));have z:g.get? e=some r:=(l.2.1 e S).trans R;generalize j:({cls:=.type "traceback",dict:=none,data:=.fields ([B,.ref L,.none,rawInt L,.none]++(if k.isEmpty then List.replicate 6 Value.none else k)).toArray}:Obj)=m;have D:(g.push m).get? e=some r:=Qd m z;have J:g.objs.size≠e:=Ry (Qg z);refine TQ D y (RK.mp x).1 (h _ g.objs.size (λ b o p G d=>?_) (λ b o p d=>?_) ?_ ?_ ?_)
 .rw[Ro _ _ (Ne.symm d)];exact Qd _ ((l.2.1 b G).trans p)
 .let⟨sl,q⟩:=l.2.2 b o p;exact⟨sl,by rw[Ro _ _ (Ne.symm d)];exact Qd _ q⟩
 .have v:=SO y (·.setIfInBounds 1 (Value.ref g.objs.size));refine⟨_,_,RM _ D (S7 v),(Obj.cls_mapFields _ _).trans O,?_,v,?_⟩
  .rw[<-N];unfold Obj.mapFields;split<;>rfl
  .have:1<F.size:=(RK.mp x).1;simp[this]
 .refine⟨m,_,?_,by rw[<-j],?_⟩
  .rw[Ro _ _ (Ne.symm J)];exact Qp g (by rw[<-j];rfl)
  .first | (simp;done) | (rcases f with rfl | ⟨_,_,_,_,_,_,_,rfl⟩<;>simp)
 .exact UI l.1.symm
theorem zF{T:Addr}{x:Value}(j:Bt s.heap T fl)(h:∀h',h'.objs.size=s⁻¹->(∀b,b≠T->h'.get? b=s.heap.get? b)->Bt h' T x->Q () {s with heap:=h'}):wpAny M A (setField (.ref T) 3 x) Q E s:=by
 let⟨l,g,f,d,c⟩:=j;have a:=SO d (·.setIfInBounds 3 x);refine TQ f d (RK.mp c).1 (h _ (Heap.size_after_update ..) (λ b k=>Ro _ _ (Ne.symm k)) ⟨_,_,RM _ f (S7 a),a,?_⟩);have:3<g.size:=(RK.mp c).1;simp[this]
theorem vj(f:A.frames=some (env::outer))(r:s.heap.FunFrames base (env::outer))(t:env.frame=some L)(D:jO s.heap e cls od tb)(V:Cy s.heap e tb)
  (h:∀h' T,(∀b o,s.heap.get? b=some o->b∉(env::outer).filterMap (·.frame)->b≠e->tb≠.ref b->h'.get? b=some o)->(∀b o,s.heap.get? b=some o->b≠e->tb≠.ref b->∃sl,h'.get? b=some {o with slots:=sl})->
   jO h' e cls od (.ref T)->Bt h' T (rawInt L)->s⁻¹<=T->Q () {s with heap:=h'}):wpAny M A (noteFrame (.ref e) env) Q E s:=by
 let⟨S,J,I,h2,h3,G,F⟩:=id D;unfold noteFrame;erw[t];refine Qa (Q5 I G F ?_);rcases V with rfl | ⟨T,rfl,x,Nk⟩
 .rw[Qu 'd'];exact rH f r t D λ h' T p n m l k=>h h' T (λ b o c a d _=>p b o c a d) (λ b o c a _=>n b o c a) m l k
 .let⟨oT,N,B,y,O⟩:=id x;rw[Qn (show (Value.ref T != Value.none)=true from by simp)];refine Qa (Q5 B y O ?_);rw[Qu (show ¬((Value.none==rawInt L)=true) from by simp[rawInt])];refine Qa (zF x λ g U j kT=>?_);have nT:=x.yD r;have q:g.FunFrames base (env::outer):=r.of_keeps λ b o v Z=>⟨o,by rw[j b λ z=>by subst z;rw[B] at v;cases v;exact Z N y];exact v,rfl⟩;have u:jO g e cls od (.ref T):=⟨S,J,by rw[j e (Ne.symm Nk)];exact I,h2,h3,G,F⟩;refine rH (s:={s with heap:=g}) f q t u λ h' T' p n m l k=>h h' T' (λ b o c a d R=>?_) (λ b o c a d=>?_) m l ?_
  .exact p b o (by rw[j b λ z=>R (by rw[z])];exact c) a d
  .exact n b o (by rw[j b λ z=>d (by rw[z])];exact c) a
  .rw[<-U];exact k
theorem pX{T:Addr}(c:jO s.heap e cls od (.ref T))(a:Bt s.heap T fl)(h:∀h',h'.objs.size=s⁻¹->(∀b,b≠T->h'.get? b=s.heap.get? b)->Bt h' T .none->Q () {s with heap:=h'}):wpAny M A (setFlight (.ref e) none) Q E s:=by
 let⟨k,j,g,m,l,f,d⟩:=c;unfold setFlight;refine Qa (Q5 g f d ?_);rw[Qn (show (Value.ref T != Value.none)=true from by simp)];exact zF a h
theorem zG(m:A.frames=some (env::outer))(F:s.heap.FunFrames base (env::outer))(G:env.frame=some L)(r:jO s.heap e cls od tb)(D:Cy s.heap e tb)
  (h:∀h' T,(∀b o,s.heap.get? b=some o->b∉(env::outer).filterMap (·.frame)->b≠e->tb≠.ref b->h'.get? b=some o)->(∀b o,s.heap.get? b=some o->b≠e->tb≠.ref b->∃sl,h'.get? b=some {o with slots:=sl})->
   jO h' e cls od (.ref T)->Bt h' T .none->s⁻¹<=T->Q () {s with heap:=h'}):wpAny M A (leaving env (.ref e)) Q E s:=by
 unfold leaving;refine Qa (vj m F G r D λ g T y x p v n=>?_);refine pX p v λ h' _ l B=>?_;have k:∀b o,s.heap.get? b=some o->b≠T:=λ b o q=>Qo (Qm (Qg q) n);have I:T≠e:=λ z=>by
  let⟨j,_,q,_⟩:=r;exact k e j q z.symm
 refine h h' T (λ b o a d c f=>by rw[l b (k b o a)];exact y b o a d c f) (λ b o a d c=>by rw[l b (k b o a)];exact x b o a d c) ?_ B n;let⟨j,t,a,d,c,f,u⟩:=p;exact⟨j,t,by rw[l e (Ne.symm I)];exact a,d,c,f,u⟩
end
def rJ(g:Heap)(H:Hp)(h:Heap)(a:Addr)(cls:Value)(d:Option Addr):Prop:=
 ∃c,jO h a cls d c/\Cy h a c/\g.get? a=none/\H a=none/\(∀T,c=.ref T->g.get? T=none/\H T=none)/\∀b o,g.get? b=some o->∃f,h.get? b=some f
def lX(P:Program)(w:World):uV:=λ b H s E e c=>∃a d g f,e=.ref a/\c.os=s.os/\AllBare c.gens/\Un (frs b) [] H f s.heap c.heap/\gb P w f c.heap/\rJ s.heap f c.heap a d g/\E d g f
theorem Kn:Passes (lX X.prog X.w) X E0:=λ _ _ _ _ _ _ _ h=>by
 let⟨_,_,_,_,_,_,_,_,_,_,z⟩:=h;exact False.elim z
section
variable{X:Cx}{aa:List (Addr×Obj)}{Y:St}{H:Hp}{s s':Shared}{E:XK}{e:Value}{a:Addr}{cls:Value}{od:Option Addr}
theorem Inv.GC(I:Inv X aa Y H s)(h:lX X.prog X.w X.stack H s E e s'):∃a cls od d,e=.ref a/\Inv X aa Y d s'/\rJ s.heap d s'.heap a cls od/\E cls od d:=by
 let⟨a,cls,od,d,rfl,j,c,g,f,x,q⟩:=h;exact⟨a,cls,od,d,rfl,I.DV (ch:=[]) j g f c λ b z=>absurd z 's',x,q⟩
theorem left(hx:X.ex=[])(k:X.stack=X.env::X.outer)(p:X.env.frame=some X.env.locals)(I:Inv X aa Y H s)(x:rJ X.s₀.heap H s.heap a cls od)
  (hQ:∀h',Un (frs X.outer) [] X.H₀ H X.s₀.heap h'->gb X.prog X.w H h'->rJ X.s₀.heap H h' a cls od->Q () {s with heap:=h'}):wpAny M X.A (leaving X.env (.ref a)) Q E' s:=by
 let⟨V,U,h2,S,R,O,h6⟩:=x;have hl:s.heap.FunFrames X.base (X.env::X.outer):=by rw[<-k];exact I.stack
 have fr:∀b∈(X.env::X.outer).filterMap (·.frame),H b=none:=λ b d=>I.kN b (by rw[k];exact d);refine zG (base:=X.base) (L:=X.env.locals) (by rw[<-k];exact I.ok.frames) hl p U h2 λ h' T N B k3 Z y=>?_;have t:∀b o,X.s₀.heap.get? b=some o->b≠a/\V≠.ref b/\b≠X.env.locals:=λ b o q=>⟨λ z=>(by rw[z,S] at q;cases q),λ z=>(by rw[(O b z).1] at q;cases q),Qo (Qm (Qg q) I.ok.above)⟩;have l:∀b,b∉X.ex:=λ b=>by rw[hx];simp
 have J:∀b u o,H b=some u->s.heap.get? b=some o->h'.get? b=some o:=λ b u o d q=>N b o q (λ z=>by rw[fr b z] at d;cases d) (λ z=>by rw[z,R] at d;cases d) λ z=>by rw[(O b z).2] at d;cases d
 have D:gb X.prog X.w H h':=λ b u d=>(I.hok b u d).stay (λ c o F q=>by
  rcases F with rfl | F
  .exact J _ _ _ d q
  .exact J _ _ _ F q) (λ _ q=>q) λ _ _ q=>q
 refine hQ h' ⟨λ b o q n d _=>?_,λ b o q n d _=>?_,λ b o q n _=>I.base.free b o q n (l b),λ b o q _=>?_,I.base.tups,I.base.gS,I.base.iN⟩ D ⟨.ref T,k3,.inr ⟨T,rfl,Z,λ z=>?_⟩,S,R,λ T' e=>?_,λ b o q=>?_⟩
 .let⟨j,g,r⟩:=t b o q;refine N b o (I.base.keep b o q n d (l b)) (λ z=>?_) j g;rw[Tv,p] at z;rcases Qv.mp z with z | z
  .exact r z
  .exact d z
 .let⟨j,g,r⟩:=t b o q;let⟨sl,f⟩:=I.base.slot b o q n d (l b);let⟨v,m⟩:=B b _ f j g;exact⟨v,m⟩
 .let⟨j,g,r⟩:=t b o q;let⟨G,f⟩:=I.base.there b o q (l b);let⟨v,m⟩:=B b _ f j g;exact⟨_,m⟩
 .subst z;let⟨oe,_,q,_⟩:=U;exact absurd (Qg q) (Ue.mpr y)
 .cases e;refine⟨?_,I.hok.fresh y⟩;cases z:X.s₀.heap.get? T with
  |none=>rfl
  |some o=>
   let⟨G,f⟩:=I.base.there T o z (l T);exact absurd (Qg f) (Ue.mpr y)
 .let⟨j,g,r⟩:=t b o q;let⟨G,f⟩:=I.base.there b o q (l b);let⟨v,m⟩:=B b _ f j g;exact⟨_,m⟩
end
section
variable{prog:Program}{w:World}{A:Around}{R:Result->Shared->Prop}{h:Heap}{g:Array GenState}{d:Drawn}{t:Nat}{os:OsState}
variable{nm q:Str}{C N f:Addr}{bs bm bmB:List Value}{hdct:Bool}{sn:List Str}{sub:List Value}{ab:Bool}{col:Option Bool}{dd:Option Addr}{k0 k1 k2 k3 k5:Option Value}{B Bn newId nid initId inN:String}{bmN:List Value}
abbrev om(a:List Value):Obj:={cls:=.type "tuple",data:=.seq a.toArray}
abbrev fZ(C t:Addr):Obj:={cls:=.ref C,data:=.fields #[.ref t,.none,.none,.none,.bool false,.none]}
theorem GD(y:ExcBaseFacts Bn newId inN bmN)(m:bmB.contains (.type Bn)=true)(F:ExcBaseFacts B nid initId bmB)(T:OwnTail h bmB bm){D:Str->Option Value}{a:List Value}{Q:Fin->Shared->Prop}{E:Value->Shared->Prop}
  (l:h.get? C=@(excClassObj nm q C N bs bm hdct sn sub ab col dd k0 k1 k2 k3 k5 newId)) (J:h.Ns N D) (p:D "__init__"=@(.ref f)) (L:∀c,PySem.W.Looks (model prog w) h (bindSpecial (.ref f) c) (.ref f,[c])) (hrest:a.length<=sizeLine)
  (I:codeAny (model prog w) A (.call (.ref f) ⟨.ref (h.objs.size+1)::a,[]⟩) (λ r n=>match r with | .ok (.ret v)=>v=.none/\Q (.done (.ret (.ref (h.objs.size+1)))) n | .ok _=>False | .error e=>E e n) ⟨(h.push {cls:=.type "tuple",data:=.seq a.toArray}).push {cls:=.ref C,data:=.fields #[.ref h.objs.size,.none,.none,.none,.bool false,.none]},g,d,t,os⟩) :
  wpAny (model prog w) A (Builtin.«type.__call__» ⟨.ref C::a,[]⟩) Q E ⟨h,g,d,t,os⟩:=by
 repeat (first | with_reducible refine QD l ?_ | with_reducible refine wpAny_madeBy_exc l ?_ | wp_step)
 refine codeAny_call_builtin_code (TR _ y.quiet) (wpAny_check_new_subU y m T l ?_);refine codeAny_exc_new_subU y m F T l ?_ hrest;show wpAny _ _ _ _ _ _;have k:∀b o,h.get? b=some o->((h.push {cls:=.type "tuple",data:=.seq a.toArray}).push {cls:=.ref C,data:=.fields #[.ref h.objs.size,.none,.none,.none,.bool false,.none]}).get? b=some o:=λ b o e=>Qd _ (Qd _ e);have G:=k _ _ l;have u:=J.keeps k;have j:((h.push {cls:=.type "tuple",data:=.seq a.toArray}).push {cls:=.ref C,data:=.fields #[.ref h.objs.size,.none,.none,.none,.bool false,.none]}).get? (h.objs.size+1)=some {cls:=.ref C,data:=.fields #[.ref h.objs.size,.none,.none,.none,.bool false,.none]}:=by heap_get
 have x:(Value.ref C::bm).contains (.ref C)=true:=by simp
 have O:=T.keeps k;unfold isInstance
 repeat (first | with_reducible refine QD j ?_ | (with_reducible refine Rq G ?_;rw[x]) | wp_step)
 show wpAny _ _ (typeLookup (.ref C) _) _ _ _;refine wpAny_typeLookup_tail G u O F.mroIs F.init.lookup ?_;rw[p];refine Q9 (Qa (((L (.ref (h.objs.size+1))).keeps k).here ?_));refine Qa (TJ (Rz I λ r n z=>?_));rcases r with e | (v | _ | _ | _)<;>first | exact z | exact z.elim | skip;let⟨rfl,z⟩:=z
 wp_walk
 exact z
theorem zI{E:Value->Shared->Prop}{Q:Value->Shared->Prop}(x:ExcBaseFacts Bn newId inN bmN)(l:bmB.contains (.type Bn)=true)(F:ExcBaseFacts B nid initId bmB)(T:OwnTail h bmB bm){m:Str->Option Value}{a:List Value}
  (c:h.get? C=@(excClassObj nm q C N bs bm hdct sn sub ab col dd k0 k1 k2 k3 k5 newId)) (p:h.Ns N m) (k:m "__init__"=@(.ref f)) (u:∀b,PySem.W.Looks (model prog w) h (bindSpecial (.ref f) b) (.ref f,[b])) (hrest:a.length<=sizeLine)
  (n:codeAny (model prog w) (A.under (.builtin "type.__call__" ⟨.ref C::a,[]⟩)) (.call (.ref f) ⟨.ref (h.objs.size+1)::a,[]⟩) (λ r j=>match r with | .ok (.ret v)=>v=.none/\Q (.ref (h.objs.size+1)) j | .ok _=>False | .error e=>E e j) ⟨(h.push {cls:=.type "tuple",data:=.seq a.toArray}).push {cls:=.ref C,data:=.fields #[.ref h.objs.size,.none,.none,.none,.bool false,.none]},g,d,t,os⟩) :
  wpAny (model prog w) A (call (.ref C) a) Q E ⟨h,g,d,t,os⟩:=by
 have G:=tc_lookup;have D:=tc_bind (.ref C);have y:(⟨h,g,d,t,os⟩:Shared).TypeIs (.ref C) "type":=⟨_,c,rfl⟩;refine TJ (codeAny_of_tree ?_);show wpAny _ _ (callAny (.ref C) _) _ _ _
 repeat (any_goals (first | assumption | with_reducible refine QD c ?_ | wp_step))
 refine⟨rfl,?_⟩;refine codeAny_call_builtin_at (TR _ 'k') entry_typeCall (wpAny_check_type_call_sub c (GD x l F T c p k u hrest (Rz n λ r j z=>?_)));rcases r with e | (v | _ | _ | _)<;>exact z
end
section
variable{prog:Program}{w:World}{A:Around}{E:Value->Shared->Prop}{h:Heap}{g:Array GenState}{d:Drawn}{t:Nat}{os:OsState}
variable{nm q:Str}{C N x:Addr}{bs bm bmB:List Value}{sn:List Str}{sub:List Value}{ab:Bool}{col:Option Bool}{dd:Option Addr}{k0 k1 k2 k3 k5:Option Value}{B newId sa owner:String}{name:Str}{v:Value}{o:Obj}{vs:Array Value}
theorem ue(T:OwnTail h bmB bm){b:Value}{a:Str}(e:refuseLoop b a bmB=pure ()):refuseLoop b a bm=pure ():=by
 induction T with
 |base=>exact e
 |own _ _ _ _ c=>rw[refuseLoop_ref];exact c
theorem uf{Q:Fin->Shared->Prop}(SF:StoreFacts B bmB sa owner)(T:OwnTail h bmB bm)
  (hC:h.get? C=@(excClassObj nm q C N bs bm true sn sub ab col dd k0 k1 k2 k3 k5 newId)) (F:PySem.W.Looks (model prog w) h (typeLookup (.ref C) name) none)
  (n:h.get? x=some o) (hc:o.cls=.ref C) (J:o.dict=none) (m:o.data=.fields vs)
  (V:∀h' p,h'.get? x=some {o with dict:=some h.objs.size}->h'.Ns1 h.objs.size (λ y=>if y=name then some v else none)->(∀b u,b≠x->h.get? b=some u->h'.get? b=some u)->Q (.done (.ret .none)) ⟨h',g,d,p,os⟩) :
  wpAny (model prog w) A (Builtin.«object.__setattr__» ⟨[.ref x,.str name tk,v],[]⟩) Q E ⟨h,g,d,t,os⟩:=by
 have j:=ue T (SF.passes (.ref x));unfold Builtin.«object.__setattr__»
 repeat (first | rw[refuse_eq] | (rw[refuseLoop_ref,j]) | (with_reducible refine QD n ?_;rw[hc]) | with_reducible refine wpAny_mroOf_exc hC ?_ | with_reducible refine Rx F ?_ | wp_step)
 rw[J,Qu (by simp[typeHasDict])];split
 .ext f;cases f
 split
 .ext c f;rw[m] at f;cases f
 .have a:(h.push {cls:=.type "dict",data:=.dict #[]}).get? x=some o:=Qd _ n;have k:x≠h.objs.size:=Qo (Qg n);refine Qa (wpAny_alloc' ?_);refine Qa (wpAny_update' a ?_);refine Qj ?_;have G:((h.push {cls:=.type "dict",data:=.dict #[]}).update x λ o=>{cls:=o.cls,dict:=some h.objs.size,data:=o.data,slots:=o.slots}).get? h.objs.size
    = some {cls:=.type "dict",data:=.dict #[]}:=
   (Heap.get?_update_ne _ _ _ _ k.symm).trans (Heap.get?_push_at rfl rfl)
  have D:((h.push {cls:=.type "dict",data:=.dict #[]}).update x λ o=>{cls:=o.cls,dict:=some h.objs.size,data:=o.data,slots:=o.slots}).Ns h.objs.size (λ _=>none):=
   ⟨_,#[],_,G,rfl,λ e Z=>absurd Z 's',λ _=>rfl⟩
  show wpAny _ _ (Builtin.ObjectAttr.storeInDict h.objs.size (.str name tk) name v) _ _ _;unfold Builtin.ObjectAttr.storeInDict Builtin.ObjectAttr.newKeyGuard;refine Qa (Qj (Qa (wpAny_nsSet1 (Heap.Ns1.of_empty D) λ h' l R=>?_)));let⟨oD,esD,epD,z,II,L⟩:=l.count (Within.cons name v Within.nil);refine Qa (wpAny_lookBehind z (by rw[II];exact pastItsLine_dict (Qk L (by rw[QO,Sl,RP];omega))) ?_)
  wp_walk
  refine V h' _ ?_ l (λ b ob O S=>?_)
  .refine(R.2 x k).trans (RM _ a ?_);have I:=(Heap.get?_some_iff.mp n).2;let⟨oc,od,r,U⟩:=o;cases r<;>first | rfl | exact I
  .exact(R.2 b (Qo (Qg S))).trans ((Heap.get?_update_ne _ _ _ _ O).trans (Qd _ S))
theorem xB{a:Value}(b:StoreFacts B bmB sa owner)(T:OwnTail h bmB bm)
  (l:h.get? C=@(excClassObj nm q C N bs bm true sn sub ab col dd k0 k1 k2 k3 k5 newId)) (j:h.get? x=some o) (k:o.cls=.ref C) (c:Q () ⟨h,g,d,t,os⟩) :
  wpAny M A (checkBuiltinCall sa ⟨[.ref x,a,v],[]⟩) Q E ⟨h,g,d,t,os⟩:=by
 have n:(Value.ref C::bm).contains (.type owner)=true:=by rw[S9,T.hasType b.hasOwner,Tr]
 have f:=b.args (.ref x) a v;erw[checkBuiltinCall,b.kind,b.split];refine Qa ?_
 .unfold isInstance
  repeat (first | (with_reducible refine QD j ?_;rw[k]) | (with_reducible refine Rq l ?_;rw[n]) | wp_step)
  cases hsig:Manifest.signature? sa with
  |none=>exact Qj c
  |some sig=>
   erw[argsOk,hsig] at f;have m:Bind.checkArgs sa sig ⟨[.ref x,a,v],[]⟩=pure ():=f;show wpAny M A (Bind.checkArgs sa sig ⟨[.ref x,a,v],[]⟩) Q E _;rw[m];exact Qj c
theorem xC(k:StoreFacts B bmB sa owner)(T:OwnTail h bmB bm)
  (r:h.get? C=@(excClassObj nm q C N bs bm true sn sub ab col dd k0 k1 k2 k3 k5 newId)) (D:PySem.W.Looks (model prog w) h (typeLookup (.ref C) "__setattr__") @(.builtin sa)) (m:PySem.W.Looks (model prog w) h (typeLookup (.ref C) name) none)
  (l:h.get? x=some o) (p:o.cls=.ref C) (n:o.dict=none) (j:o.data=.fields vs)
  (z:∀h' f,h'.get? x=some {o with dict:=some h.objs.size}->h'.Ns1 h.objs.size (λ y=>if y=name then some v else none)->(∀b u,b≠x->h.get? b=some u->h'.get? b=some u)->Q () ⟨h',g,d,f,os⟩) :
  wpAny (model prog w) A (setAttr (.ref x) name v) Q E ⟨h,g,d,t,os⟩:=by
 have F:=k.slot.bind (.ref x);unfold setAttr callSpecial? specialOf
 repeat (any_goals (first | assumption | (with_reducible refine QD l ?_;rw[p]) | with_reducible refine Rx D ?_ | wp_step))
 refine Sm k.slot.plain k.entry (xB k T r l p (uf k T r m l p n j λ h' f a b c=>?_))
 repeat (any_goals (first | assumption | wp_step))
 exact z h' f a b c
end
def VE:List Value:=[.type "ValueError",.type "Exception",.type "BaseException",.type "object"]
structure XC(K:ae)(C:Addr)(bm:List Value)(i:Option Value):Prop where
 ex:∃(nm q:Str) (N:Addr) (bs:List Value) (sn:List Str) (sub:List Value) (ab:Bool) (col:Option Bool) (dd:Option Addr) (k0 k1 k2 k3 k5:Option Value) (Bn newId inN:String) (bmN:List Value) (mN:Str->Option Value),
  K.lookup C=some (excClassObj nm q C N bs bm true sn sub ab col dd k0 k1 k2 k3 k5 newId)/\ExcBaseFacts Bn newId inN bmN/\VE.contains (.type Bn)=true/\mN "__init__"=i/\∀h,K.In h->h.Ns N mN/\OwnTail h VE bm
 sa:PySem.W.findIn K (.ref C) "__setattr__"=@(some (.builtin "object.__setattr__"))
 kp:PySem.W.keepIn K (.ref C)=true
def jl(a:Addr)(o:Obj):HO:=.ext λ h=>h.get? a=some o
theorem ug{a:Addr}(e:h.get? a=some o):bA P w H h a (jl a o):=⟨e,⟨o,e⟩,λ _ _ p k=>k o p⟩
theorem iH{a:Addr}(b:gb P w H h)(e:H a=@(jl a o)):h.get? a=some o:=(show bA P w H h a (jl a o) from b a _ e).1
def Ed(H:Hp)(a:Addr):Hp:=λ b=>if b=a then none else H b
section
variable{X:Cx}{aa:List (Addr×Obj)}{Y:St}{H:Hp}{s:Shared}
theorem Inv.drop{a:Addr}{g:Heap->Prop}(I:Inv X aa Y H s)(e:H a=@(.ext g)):Inv X aa Y (Ed H a) s:=by
 have k:∀b u,b≠a->H b=u->Ed H a b=u:=λ b u n q=>by unfold Ed;rw[Qu n];exact q
 have z:∀b,H b=none->Ed H a b=none:=λ b q=>by unfold Ed;split<;>first | rfl | exact q
 refine⟨I.ok,I.os,I.bare,⟨I.base.keep,I.base.slot,λ b o q n l=>z _ (I.base.free b o q n l),I.base.there,λ b f q=>?_,λ b o u q=>?_,λ b j q=>?_⟩,I.loc,I.cell,z _ I.free,λ x c q=>z _ (I.freeC x c q),λ p t=>?_,λ b u q=>?_,I.len⟩
 .have d:=I.base.tups b f q;exact k b _ (λ y=>by rw[y,e] at d;cases d) d
 .have d:=I.base.gS b o u q;exact k b _ (λ y=>by rw[y,e] at d;cases d) d
 .let⟨m,d⟩:=I.base.iN b j q;exact⟨m,k b _ (λ y=>by rw[y,e] at d;cases d) d⟩
 .let⟨B,A,v⟩:=I.pin p t;exact⟨B,z _ A,v⟩
 .unfold Ed at q;split at q
  .cases q
  .exact(I.hok b u q).stay (λ _ _ _ r=>r) (λ c r=>k c _ (λ y=>by rw[y,e] at r;cases r) r) λ c f r=>k c _ (λ y=>by rw[y,e] at r;cases r) r
theorem xD{a:Addr}{vs:Array Value}{f:Str}{y:V}{u:Value}{A:Around}{E:Value->Shared->Prop}(c:XC X.K C bm i)(nf:PySem.W.findIn X.K (.ref C) f=some none)
  (I:Inv X aa Y H s) (e:H a=@(jl a o)) (hc:o.cls=.ref C) (S:o.dict=none) (D:o.data=.fields vs) (ry:RelV y u)
  (hQ:∀dx Z,H dx=none->dx≠a->Inv X aa Y (upd (upd H a (jl a {o with dict:=some dx})) dx (.xd [(f,y)])) Z->Q () Z):wpAny (model X.prog X.w) A (setAttr (.ref a) f u) Q E s:=by
 let⟨nm,q,N,bs,sn,sub,ab,col,dd,k0,k1,k2,k3,k5,Bn,R,inN,bmN,mN,hC,Fn,hBn,hi,T⟩:=c.ex;have hx:=iH I.hok e;let⟨B,g,d,t,os⟩:=s;refine xC (bmB:=VE) F.store_ValueError (T _ I.fR).2 (I.fR _ _ hC) (Q3 I.fR c.sa) (Q3 I.fR nf) hx hc S D λ h' O h1 h2 J=>?_;have ne:B.objs.size≠a:=Ry (Qg hx);have hn:H B.objs.size=none:=I.hok.fresh (Qf _);have k:∀b r,H b=some r->b≠a->upd (upd H a (jl a {o with dict:=some B.objs.size})) B.objs.size (.xd [(f,y)]) b=some r:=λ b r m j=>by rw[aq (aA m hn),aq j];exact m
 refine hQ B.objs.size _ hn ne (I.un (t':=O) (h':=h') ⟨λ b p m j _ _=>J b p (λ z=>by rw[z,e] at j;cases j) m,λ b p m j _ _=>⟨p.slots,J b p (λ z=>by rw[z,e] at j;cases j) m⟩,λ b p m j _=>?_,λ b p m _=>?_,λ b xs q=>k b _ q (λ z=>(by rw[z,e] at q;cases q)),
  λ b p v q=>k b _ q (λ z=>(by rw[z,e] at q;cases q)),λ b ps q=>⟨#[],(by rw[k b _ q (λ z=>(by rw[z,e] at q;cases q))];simp)⟩⟩ λ b r q=>?_)
 .rw[aq (Qo (Qg m)),aq (λ z=>(by rw[z,e] at j;cases j))];exact j
 .by_cases z:b=a
  .exact⟨_,by rw[z];exact h1⟩
  .exact⟨p,J b p z m⟩
 .by_cases z:b=B.objs.size
  .subst z;rw[aB] at q;cases q;refine⟨_,h2,λ G=>?_⟩;show fQ (List.lookup G [(f,y)]) (if G=f then some u else none)
   by_cases l:G=f
   .have U:(G==f)=true:=Q6.mpr l;erw[List.lookup,U,Qn l];exact ry
   .have U:(G==f)=false:=RD.mpr l;erw[List.lookup,U,Qu l];trivial
  .rw[aq z] at q
   by_cases L:b=a
   .subst L;rw[aB] at q;cases q;exact ug h1
   .rw[aq L] at q;refine(I.hok b r q).stay (λ c v x n=>J c v ?_ n) (λ c n=>k c _ n λ l=>by rw[l,e] at n;cases n) λ c xs n=>k c _ n λ l=>by rw[l,e] at n;cases n
    rcases x with rfl | x
    .exact L
    .intro l;rw[l,e] at x;cases x
end
def Ko(C:Addr)(ta d:TE)(f:Str):TS:=λ D Y H=>d Y H λ y g=>ta Y g λ x c=>∃a t,x=.ref a/\c a=some (jl a (fZ C t))/\
 ∀b,c b=none->b≠a->D.nx Y (upd (upd c a (jl a {fZ C t with dict:=some b})) b (.xd [(f,y)]))
def Iv(C:Addr)(f:Str):Sp:=λ c H Q _=>∃a t y,c=[.ref a,y]/\H a=some (jl a (fZ C t))/\∀b,H b=none->b≠a->Q .non (upd (upd H a (jl a {fZ C t with dict:=some b})) b (.xd [(f,y)]))
section
variable{X:Cx}{o value:Expr}{f:Str}{pos pos':Pos}{ta tv:TE}{C:Addr}{bm:List Value}{i:Option Value}
theorem CB(c:XC X.K C bm i)(m:PySem.W.findIn X.K (.ref C) f=some none)(v:PE X o ta)(n:PE X value tv)(p:swapsWith value @(.Attribute o f pos') pos.line X.env=pure false):PS X (.Assign [.Attribute o f pos'] value pos) (Ko C ta tv f):=by
 intro aa s Y H D I h;refine S6 (bP (n aa s Y H _ I h) λ u d ⟨y,J,G,g,q⟩=>bP (v aa d Y J _ G q) λ l N ⟨x,O,F,j,a,t,z,A,k⟩=>?_) p;subst z;obtain rfl:l=Value.ref a:=j;exact xD c m F A rfl rfl rfl g λ B L r b E=>⟨Y,_,E,k B r b⟩
theorem CC{CX:uV}{k:Nat}{fd:FuncData}{G:List Str}{E:XK}{v:V}{u:Value}(c:XC X.K C bm @(.ref fa))(R:PySem.W.typeIn X.K (.ref fa)=@(.type "function"))
  (F:cg X.prog X.w X.K X.mg X.base Cg k fa fd G (Iv C f)) (hr:bV (k+1) X.A) (hb:Binds X.K fd G []) (O:G.length=2) (I:Inv X aa Y H s) (r:RelV v u) {Q:Value->Shared->Prop}
  (hQ:∀a dx m,H dx=none->Inv X aa Y (upd H dx (.xd [(f,v)])) m->rJ s.heap (upd H dx (.xd [(f,v)])) m.heap a (.ref C) (some dx)->(∃z,m.heap.get? a=some {fZ C z with dict:=some dx})->Q (.ref a) m):wpAny (model X.prog X.w) X.A (call (.ref C) [u]) Q E' s:=by
 let⟨nm,q,N,bs,sn,sub,ab,col,dd,k0,k1,k2,k3,k5,Bn,L,inN,bmN,mN,hC,Fn,S,hi,T⟩:=c.ex;let⟨l,g,d,t,os⟩:=s;let⟨hN,hT⟩:=T _ I.fR;refine zI (bmB:=VE) Fn S Sn hT (I.fR _ _ hC) hN hi (λ p=>PySem.W.bind_fn I.fR p R) (by rw[RP];show 1<=_;decide) ?_;generalize x:l.objs.size=z;have e2:((l.push (om [u])).push (fZ C z)).get? (z+1)=some (fZ C z):=by
  have:=Qp (l.push (om [u])) (o:=fZ C z) rfl
  rwa [RA,x] at this
 have I2:Inv X aa Y (upd H (z+1) (jl (z+1) (fZ C z))) ⟨(l.push (om [u])).push (fZ C z),g,d,t,os⟩:=
  I.laid (t':=t) (h':=(l.push (om [u])).push (fZ C z)) (a:=z+1) (λ b J q=>Qd _ (Qd _ q)) (by rw[<-x];exact Ru _) (ug e2)
 have hn:H (z+1)=none:=I.hok.fresh (by rw[<-x];exact Ru _);refine Rz (F.run _ X.stack _ _ ⟨[.ref (z+1),u],[]⟩ [.ref (z+1),u] [.ref (z+1),v] (λ v' H'=>v'=.non/\∃dx,H dx=none/\dx≠z+1/\H'=upd (upd (upd H (z+1) (jl (z+1) (fZ C z))) (z+1) (jl (z+1) {fZ C z with dict:=some dx})) dx (.xd [(f,v)])) E0
  (hr.make C [u] []) (I2.yW.make C [u] []) (by have:=hb ⟨(l.push (om [u])).push (fZ C z),g,d,t,os⟩ [.ref (z+1),u] I2.fR (by rw[O];rfl);rwa [Rm] at this) %[rfl,|r] ⟨z+1,z,v,rfl,aB,λ dx B j=>⟨rfl,dx,?_,j,rfl⟩⟩) λ rr m n=>?_
 .rw[aq j] at B;exact B
 .cases rr with
  |error e=>exact False.elim n
  |ok fl=>
   cases fl with
   |ret u'=>
    let⟨v',H',Z,rv,ev,dx,B,j,eH⟩:=I2.after n;subst ev;subst eH;have U:upd (upd (upd H (z+1) (jl (z+1) (fZ C z))) (z+1) (jl (z+1) {fZ C z with dict:=some dx})) dx (.xd [(f,v)]) (z+1)=some (jl (z+1) {fZ C z with dict:=some dx}):=by rw[aq (Ne.symm j),aB]
    have I4:=Z.drop U;have eD:Ed (upd (upd (upd H (z+1) (jl (z+1) (fZ C z))) (z+1) (jl (z+1) {fZ C z with dict:=some dx})) dx (.xd [(f,v)])) (z+1)=upd H dx (.xd [(f,v)]):=by
     funext b;unfold Ed
     by_cases y:b=z+1
     .rw[Qn y,y,aq (Ne.symm j),hn]
     .rw[Qu y]
      by_cases D:b=dx
      .rw[D,aB,aB]
      .rw[aq D,aq y,aq y,aq D]
    rw[eD] at I4;refine⟨rv,hQ (z+1) dx m B I4 ⟨.none,⟨_,_,iH Z.hok U,rfl,rfl,rfl,rfl⟩,.inl rfl,Heap.get?_none_of_le (by show l.objs.size<=z+1;rw[<-x];exact Ru _),?_,λ T e=>(by cases e),λ b J q=>?_⟩ ⟨z,iH Z.hok U⟩⟩
    .rw[aq (Ne.symm j)];exact hn
    .have q0:((l.push (om [u])).push (fZ C z)).get? b=some J:=Qd _ (Qd _ q);let⟨_,_,_,_,un,_⟩:=id n;exact un.there b J q0 's'
   |next=>exact False.elim n
   |brk=>exact False.elim n
   |cont=>exact False.elim n
end
def Old(X:Cx)(aa:List (Addr×Obj))(g:Heap):Prop:=(∀b o,X.s₀.heap.get? b=some o->∃a,g.get? b=some a)/\∀p∈X.pn++aa,∃a,g.get? p.1=some a
theorem Inv.old(I:Inv X aa Y H s)(a:X.ex=[]):Old X aa s.heap:=⟨λ b o e=>I.base.there b o e (by rw[a];simp),λ p c=>⟨_,(I.pin p c).1⟩⟩
theorem rJ.old{g:Heap}{m:Hp}{a:Addr}{cls:Value}{f:Option Addr}(d:Old X aa g)(x:rJ g m h a cls f):rJ X.s₀.heap m h a cls f:=by
 have k:∀b,g.get? b=none->X.s₀.heap.get? b=none:=λ b q=>by
  cases z:X.s₀.heap.get? b with
  |none=>rfl
  |some o=>
   let⟨j,c⟩:=d.1 b o z;rw[q] at c;cases c
 let⟨n,v,u,t,r,l,p⟩:=x;exact⟨n,v,u,k _ t,r,λ T e=>⟨k _ (l T e).1,(l T e).2⟩,λ b o q=>by
  let⟨j,c⟩:=d.1 b o q;exact p b j c⟩
def kD(X:Cx)(Y:St)(cls:Value)(b:Option Addr)(H:Hp):Prop:=∀(aa:List (Addr×Obj)) (s:Shared) (a:Addr) (g:Heap),Inv X aa Y H s->Old X aa g->rJ g H s.heap a cls b->X.xe (.ref a) s
theorem XC.base(c:XC K C bm i){A:Around}{E:Value->Shared->Prop}{env:Env}{x:Sem Value}{Q:Flow->Shared->Prop}(p:A.handled=none)
  (h:wpAny M A x (λ v a=>∃e j z,v=.ref e/\K.In a.heap/\a.heap.get? e=some {fZ C z with dict:=j}/\E (.ref e) a) E s):wpAny M A (raiseStmt env (some x) none) Q E s:=by
 let⟨J,q,N,bs,G,m,ab,B,dd,V,U,S,R,O,Bn,f,n,D,L,u,Fn,y,hi,T⟩:=c.ex;unfold raiseStmt;refine Qa (Qw h (λ v a b=>?_) λ _ _ x=>x);let⟨e,j,z,rfl,k,r,t⟩:=b;let⟨Z,g,d,tk,I⟩:=a;have l:=k _ _ u;have F:(Value.ref C::bm).contains (.type "BaseException")=true:=by rw[S9,(T _ k).2.hasType (show VE.contains (.type "BaseException")=true from by decide),Tr]
 repeat (first | with_reducible refine QD r ?_ | with_reducible refine QD l ?_ | (with_reducible refine Rq l ?_;rw[F]) | wp_step)
 exact wpAny_raiseNew_none p t
def GF(X:Cx)(C:Addr)(f:Str)(c:TE):TS:=λ _ Y H=>c Y H λ y b=>∀a,b a=none->kD X Y (.ref C) (some a) (upd b a (.xd [(f,y)]))
section
variable{X:Cx}{e:Expr}{f x:Str}{pos cpos np:Pos}{tv:TE}{C:Addr}{bm:List Value}
theorem zJ{k:Nat}{L:FuncData}{j:List Str}(c:XC X.K C bm @(.ref fa))(n:PySem.W.typeIn X.K (.ref fa)=@(.type "function"))
  (F:cg X.prog X.w X.K X.mg X.base Cg k fa L j (Iv C f)) (G:bV (k+1) X.A) (hb:Binds X.K L j []) (m:j.length=2) (l:X.ex=[]) (Z:Gl X x) (V:X.mg x=@(.ref C)) (U:PE X e tv) (t:(x==("__debug__":Str))=false:=by decide)
  (J:starEach [e] X.env=(false,eval e X.env)::starEach [] X.env:=by rfl) (p:evalOpt @(.Call (.Name x np) [e] [] cpos) X.env=some (eval (.Call (.Name x np) [e] [] cpos) X.env):=by rfl):PS X (.Raise @(.Call (.Name x np) [e] [] cpos) none pos) (GF X C f tv):=by
 intro aa s Y H D I h;rw[arm_exec_Raise,p];refine Qa (Ra ?_);show wpAny _ _ (raiseStmt X.env @(do let v <-eval (.Call (.Name x np) [e] [] cpos) X.env;standAt pos;pure v) none) _ _ _;refine c.base G.hd (Qa ?_);refine Q4 (dR I Z V ?_ t);have h':yU tv yT Y H λ g d=>match g with | [y]=>∀b,d b=none->kD X Y (.ref C) (some b) (upd d b (.xd [(f,y)])) | _=>False:=h
 refine Rw (h₀:=X.base) I.ok.mod.kin c.kp (bP (dm U gB J cpos aa s Y H _ I h') λ us s1 ⟨g,d,B,r,q⟩=>⟨B.fR,?_⟩) J rfl;obtain⟨y,rfl⟩:∃y,g=[y]:=by
  match g,q with
  | [y],_=>exact⟨y,rfl⟩
 replace q:∀b,d b=none->kD X Y (.ref C) (some b) (upd d b (.xd [(f,y)])):=q;let⟨u,rfl,S⟩:=vals1 r;refine CC (CX:=Cg) (E:=E0) c n F G hb m B S λ a b R hd N O ⟨z,T⟩=>?_;refine Qa (Ra (Qj ?_));exact⟨a,_,z,rfl,N.fR,T,q b hd aa R a _ N (B.old l) O⟩
end
theorem bA.Kq{a:Addr}{o:HO}(x:bA P w H h a o):∃u,h.get? a=some u:=by
 cases o with
 |lst xs=>let⟨_,_,_,_,e⟩:=x;exact⟨_,e⟩
 |tup xs=>let⟨_,_,_,c,e,_⟩:=x;exact⟨_,e⟩
 |dK b=>let⟨_,_,_,_,o,_,_,e,_⟩:=x;exact⟨_,e⟩
 |dT b=>let⟨_,_,_,_,o,_,_,e,_⟩:=x;exact⟨_,e⟩
 |set S n=>let⟨o,_,_,_,e,_⟩:=x;exact⟨_,e⟩
 |ins C g fs=>let⟨_,_,_,e,_⟩:=x;exact⟨_,e⟩
 |own y=>let⟨_,e⟩:=x;exact⟨_,e⟩
 |xd fs=>let⟨_,⟨_,_,_,e,_⟩,_⟩:=x;exact⟨_,e⟩
 |rng lo hi=>let⟨_,_,_,e⟩:=x;exact⟨_,e⟩
 |frz c u=>let⟨e,_⟩:=x;exact⟨_,e⟩
 |tbl ps=>exact⟨_,show h.get? a=some _ from x⟩
 |met f y=>exact⟨_,show h.get? a=some _ from x⟩
 |ext d=>let⟨_,⟨_,e⟩,_⟩:=x;exact⟨_,e⟩
def CD(X:Cx)(C:Addr)(a:TE):TS:=λ _ Y H=>a Y H λ _ b=>kD X Y (.ref C) none b
section
variable{X:Cx}{e:Expr}{f x:Str}{pos cpos np:Pos}{tv:TE}{C:Addr}{bm:List Value}
theorem xE(c:XC X.K C bm none)(n:X.A.handled=none)(B:X.ex=[])(hg:Gl X x)(j:X.mg x=@(.ref C))(hv:PE X e tv)(F:(x==("__debug__":Str))=false:=by decide)
  (O:starEach [e] X.env=(false,eval e X.env)::starEach [] X.env:=by rfl) (E:evalOpt @(.Call (.Name x np) [e] [] cpos) X.env=some (eval (.Call (.Name x np) [e] [] cpos) X.env):=by rfl):PS X (.Raise @(.Call (.Name x np) [e] [] cpos) none pos) (CD X C tv):=by
 intro aa s Y H D I h;let⟨nm,q,N,bs,sn,U,ab,col,dd,k0,k1,k2,k3,k5,Bn,p,inN,bmN,mN,hC,Fn,G,hi,T⟩:=c.ex;rw[arm_exec_Raise,E];refine Qa (Ra ?_);show wpAny _ _ (raiseStmt X.env @(do let v <-eval (.Call (.Name x np) [e] [] cpos) X.env;standAt pos;pure v) none) _ _ _;refine c.base n (Qa ?_);refine Q4 (dR I hg j ?_ F);have J:yU tv yT Y H λ m l=>match m with | [_]=>kD X Y (.ref C) none l | _=>False:=h
 refine Rw (h₀:=X.base) I.ok.mod.kin c.kp (bP (dm hv gB O cpos aa s Y H _ I J) λ us V ⟨m,l,k,r,q⟩=>⟨k.fR,?_⟩) O rfl;obtain⟨y,rfl⟩:∃y,m=[y]:=by
  match m,q with
  | [y],_=>exact⟨y,rfl⟩
 replace q:kD X Y (.ref C) none l:=q;let⟨u,rfl,ru⟩:=vals1 r;let⟨n,g,d,t,Z⟩:=V;let⟨hN,hT⟩:=T _ k.fR;refine wpAny_call_exc_subU (bmB:=VE) (hrest:=by rw[RP];show 1<=_;decide) Fn G Sn hT (k.fR _ _ hC) hN hi λ J a j=>?_;refine Qa (Ra (Qj ?_));let⟨z,R,g2,g3⟩:=j.there;have S:Inv X aa Y l ⟨J,g,d,t,Z⟩:=k.kept (t':=t) j.keeps;have hn:l a=none:=by
  cases w1:l a with
  |none=>rfl
  |some o=>
   let⟨ob,L⟩:=bA.Kq (k.hok _ _ w1);rw[show n.get? a=none from j.new] at L;cases L
 exact⟨a,none,z,rfl,S.fR,R,q aa _ a n S (k.old B) ⟨.none,⟨_,_,R,rfl,rfl,rfl,rfl⟩,.inl rfl,j.new,hn,λ T e=>(by cases e),λ b o q=>⟨o,j.keeps b o q⟩⟩⟩
end
section
variable{P:Program}{w:World}{K:ae}{mg:Str->Option Value}{base:Heap}{N:List Str}{qual:Str}{scope:Scope}{f:Addr}{cd:Value}{A:Around}{outer:List Env}{s:Shared}{H:Hp}{E:XK}
theorem vm{cls:Value}{b:Option Addr}{d:Hp}(h:E cls b d):kD (jc (lX P w) P w K mg base N qual scope f cd A outer s H E) Y cls b d:=λ aa m a g I l x=>
 left (X:=jc (lX P w) P w K mg base N qual scope f cd A outer s H E) rfl rfl rfl I (x.old l) λ n k c j=>⟨a,cls,b,d,rfl,I.os,I.bare,k,c,j,h⟩
theorem Ef(l:X.ex=[]){k:XK}(h:∀cls c d,k cls c d->kD X Y cls c d){j:Hp}{g b:Shared}(I:Inv X aa Y j g)(m:lX X.prog X.w X.stack j g k e b):X.xe e b:=by
 let⟨a,cls,c,d,rfl,n,x,q⟩:=I.GC m;exact h _ _ _ q aa b a _ n (I.old l) x
theorem CG:PassesOwn (model P w) (jc (lX P w) P w K mg base N qual scope f cd A outer s H E).A (jc (lX P w) P w K mg base N qual scope f cd A outer s H E).env (jc (lX P w) P w K mg base N qual scope f cd A outer s H E).xe:=by
 have:=PassesOwn.leaving (M:=model P w) (A:=A.deeper (envOfC qual scope s⁻¹ f cd)) (env:=envOfC qual scope s⁻¹ f cd) (Q₁:=λ e a=>lX P w outer H s E e a) (E₁:=λ b a=>lX P w outer H s E b a);exact this
end
section
variable{X:Cx}{aa:List (Addr×Obj)}{Y:St}{H:Hp}{s:Shared}{a:Addr}{cls:Value}{od:Option Addr}{g:Heap}
theorem Inv.past{h':Heap}{tb:Value}(I:Inv X aa Y H s)(hx:X.ex=[])(ol:Old X aa g)(h1:jO s.heap a cls od tb)(h2:Cy s.heap a tb)(h3:g.get? a=none)(h4:H a=none)(h5:∀T,tb=.ref T->g.get? T=none/\H T=none)
  (R:∀b o,s.heap.get? b=some o->b∉frs X.stack->b≠a->tb≠.ref b->h'.get? b=some o) (B:∀b o,s.heap.get? b=some o->b≠a->tb≠.ref b->∃sl,h'.get? b=some {o with slots:=sl})
  : Inv X aa Y H {s with heap:=h'}:=by
 have na:∀b o,s.heap.get? b=some o->(∀j,o.data≠.fields j)->b≠a/\tb≠.ref b:=λ b o q nf=>by
  let⟨oe,j,Z,_,_,V,_⟩:=h1;refine⟨λ z=>?_,λ z=>?_⟩
  .rw[z,Z] at q;cases q;exact nf j V
  .rcases h2 with y | ⟨T,y,⟨oT,ts,t1,t2,_⟩,_⟩
   .rw[y] at z;cases z
   .rw[y] at z;cases z;rw[t1] at q;cases q;exact nf ts t2
 have O:∀b o,g.get? b=some o->b≠a/\tb≠.ref b:=λ b o q=>⟨λ z=>(by rw[z,h3] at q;cases q),λ z=>(by rw[(h5 b z).1] at q;cases q)⟩;have f:∀b o,X.s₀.heap.get? b=some o->b≠a/\tb≠.ref b:=λ b o q=>by
  let⟨N,q'⟩:=ol.1 b o q;exact O b N q'
 have fr:∀b∈frs X.stack,H b=none:=I.kN;have A:∀b,b∉X.ex:=λ b=>by rw[hx];simp
 have kh:∀b u o,H b=some u->s.heap.get? b=some o->h'.get? b=some o:=λ b u o d q=>R b o q (λ z=>by rw[fr b z] at d;cases d) (λ z=>by rw[z,h4] at d;cases d) λ z=>by rw[(h5 b z).2] at d;cases d
 have lo:∀b o,X.s₀.heap.get? b=some o->b∈frs X.stack->b∈X.fs:=λ b o q d=>by
  rcases Qv.mp (I.jH b d) with e | e
  .rw[e] at q;exact absurd (Qg q) (Ue.mpr I.ok.above)
  .exact e
 let⟨m,hm,hl⟩:=I.loc;have S:h'.Ns X.env.locals m:=by
  let⟨o,es,ep,k,l,r⟩:=hm;let⟨G,F⟩:=na _ _ k (λ j z=>by rw[l] at z;cases z);let⟨sl,q⟩:=B _ _ k G F;exact⟨_,es,ep,q,l,r⟩
 have t:∀c v,s.heap.IsCell c v->h'.IsCell c v:=λ c v ⟨o,k,l⟩=>by
  let⟨G,F⟩:=na _ _ k (λ j z=>by rw[l] at z;cases z);let⟨sl,q⟩:=B _ _ k G F;exact⟨_,q,l⟩
 refine⟨I.ok,I.os,I.bare,⟨λ b o q n d _=>?_,λ b o q n d _=>?_,λ b o q n _=>I.base.free b o q n (A b),λ b o q _=>?_,I.base.tups,I.base.gS,I.base.iN⟩,⟨m,S,λ i x v Z V e3=>?_⟩,λ x c q=>?_,I.free,I.freeC,λ p hp=>?_,λ b u d=>?_,I.len⟩
 .exact R b o (I.base.keep b o q n d (A b)) (λ z=>d (lo b o q z)) (f b o q).1 (f b o q).2
 .let⟨sl,L⟩:=I.base.slot b o q n d (A b);let⟨yr,J⟩:=B b _ L (f b o q).1 (f b o q).2;exact⟨yr,J⟩
 .let⟨N,L⟩:=I.base.there b o q (A b);let⟨yr,J⟩:=B b _ L (f b o q).1 (f b o q).2;exact⟨_,J⟩
 .let⟨u,r,z⟩:=hl i x v Z V e3;refine⟨u,r,?_⟩;rcases z with⟨E,D⟩ | ⟨E,c,D,z3⟩
  .exact .inl ⟨E,D⟩
  .exact .inr ⟨E,c,D,t _ _ z3⟩
 .let⟨v,z⟩:=I.cell x c q;exact⟨v,t _ _ z⟩
 .let⟨p1,p2,p3,p4,p5⟩:=I.pin p hp;let⟨N,y⟩:=ol.2 p hp;refine⟨R _ _ p1 (λ z=>?_) (O _ _ y).1 (O _ _ y).2,p2,p3,p4,p5⟩;rcases Qv.mp (I.jH _ z) with e | e
  .exact p3 e
  .exact p4 e
 .refine(I.hok b u d).stay (λ c o U q=>?_) (λ _ q=>q) λ _ _ q=>q;rcases U with rfl | U
  .exact kh _ _ _ d q
  .exact kh _ _ _ U q
theorem landed(hx:X.ex=[])(c:X.stack=X.env::X.outer)(v:X.env.frame=some X.env.locals)(I:Inv X aa Y H s)(ol:Old X aa g)(x:rJ g H s.heap a cls od)
  (hQ:∀h',Inv X aa Y H {s with heap:=h'}->rJ g H h' a cls od->Q () {s with heap:=h'}):wpAny M X.A (noteFrame (.ref a) X.env) (λ _ s2=>wpAny M X.A (setFlight (.ref a) none) Q E' s2) E' s:=by
 let⟨Z,D,S,B,R,O,N⟩:=x;have hl:s.heap.FunFrames X.base (X.env::X.outer):=by rw[<-c];exact I.stack
 refine vj (base:=X.base) (L:=X.env.locals) (by rw[<-c];exact I.ok.frames) hl v D S λ g1 T k1 J G k4 u=>?_;refine pX (s:={s with heap:=g1}) G k4 λ h' _ l j2=>?_;have k:∀b o,s.heap.get? b=some o->b≠T:=λ b o q=>Qo (Qm (Qg q) u);let⟨F,V,j,p,q3,q4,q5⟩:=G;have f:T≠a:=λ z=>by
  let⟨r,_,q,_⟩:=D;exact k a r q z.symm
 have ka:h'.get? a=some F:=by rw[l a (Ne.symm f)];exact j
 have hH:H T=none:=I.hok.fresh u;have I':Inv X aa Y H {s with heap:=h'}:=I.past hx ol D S B R O (λ b o d n m U=>by rw[l b (k b o d)];exact k1 b o d (by rw[<-c];exact n) m U) (λ b o d n m=>by
  let⟨E,y⟩:=J b o d n m;exact⟨E,by rw[l b (k b o d)];exact y⟩)
 refine hQ h' I' ⟨.ref T,⟨F,V,ka,p,q3,q4,q5⟩,.inr ⟨T,rfl,j2,f⟩,B,R,λ T' e=>?_,λ b o q=>?_⟩
 .cases e;refine⟨?_,hH⟩;cases z:g.get? T with
  |none=>rfl
  |some o=>
   let⟨t,q⟩:=N T o z;exact absurd (Qg q) (Ue.mpr u)
 .have n1:b≠a:=λ z=>by rw[z,B] at q;cases q
  have n2:Z≠.ref b:=λ z=>by rw[(O b z).1] at q;cases q
  let⟨t,j⟩:=N b o q;let⟨E,p⟩:=J b t j n1 n2;exact⟨_,by rw[l b (k b t j)];exact p⟩
end
section
variable{prog:Program}{w:World}{A:Around}{E:Value->Shared->Prop}{h:Heap}{g:Array GenState}{d:Drawn}{t:Nat}{os:OsState}
variable{nm q:Str}{C N x dx:Addr}{bs bm:List Value}{sn:List Str}{sub:List Value}{ab:Bool}{col:Option Bool}{dd:Option Addr}{k0 k1 k2 k3 k5:Option Value}{newId:String}{name:Str}{v:Value}{o:Obj}{vs:Array Value}{mA:Str->Option Value}
theorem oq{P e:Addr}{I:List Value}{j:Option Value}{z:Obj}{Q:Bool->Shared->Prop}(c:XC K C bm i)(p:XC K P I j)(r:K.In h)(he:h.get? e=some z)(a:z.cls=.ref C)
  (m:Q ((Value.ref C::bm).contains (.ref P)) ⟨h,g,d,t,os⟩):wpAny M A (excMatches (.ref e) (.ref P)) Q E ⟨h,g,d,t,os⟩:=by
 let⟨nm,q,N,bs,sn,sub,ab,col,dd,k0,k1,k2,k3,k5,Bn,newId,inN,bmN,mN,u,Fn,hBn,hi,T⟩:=c.ex;let⟨L,q',N',bs',J,y,ab',F,dd',Z,V,U,S,R,Bn',k,B,G,O,l,Fn',D,hi',T'⟩:=p.ex;have u:=r _ _ u;have l:=r _ _ l;have CA:(Value.ref P::I).contains (.type "BaseException")=true:=by rw[S9,(T' _ r).2.hasType (show VE.contains (.type "BaseException")=true from by decide),Tr]
 have f:=tc_notTuple;generalize n:(Value.ref C::bm).contains (.ref P)=b at m;unfold excMatches
 repeat (first | (with_reducible refine QD he ?_;rw[a]) | with_reducible refine QD l ?_ | (with_reducible refine Rq l ?_;rw[CA]) | (with_reducible refine Rq u ?_;rw[n]) | wp_step)
 cases b<;>first | exact m | (wp_walk;exact m)
theorem xF{Q:Fin->Shared->Prop}(r:h.get? C=@(excClassObj nm q C N bs bm true sn sub ab col dd k0 k1 k2 k3 k5 newId))(j:PySem.W.Looks (model prog w) h (typeLookup (.ref C) name) none)
  (l:h.get? x=some o) (m:o.cls=.ref C) (a:o.data=.fields vs) (k:o.dict=some dx) (f:h.Ns1 dx mA) (n:mA name=some v) (p:Q (.done (.ret v)) ⟨h,g,d,t,os⟩) :
  wpAny (model prog w) A (Builtin.«object.__getattribute__» ⟨[.ref x,.str name tk],[]⟩) Q E ⟨h,g,d,t,os⟩:=by
 unfold Builtin.«object.__getattribute__»
 repeat (first | (with_reducible refine QD l ?_;rw[m]) | with_reducible refine Rx j ?_ | wp_step)
 split
 .ext c b;rw[a] at b;cases b
 unfold instanceDict
 repeat (first | (with_reducible refine QD l ?_;rw[m]) | with_reducible refine QD r ?_ | wp_step)
 rw[k]
 repeat (first | (with_reducible refine wpAny_nsGet f.ns ?_;rw[n]) | wp_step)
 exact p
theorem jm{a:Value}(l:h.get? C=@(excClassObj nm q C N bs bm true sn sub ab col dd k0 k1 k2 k3 k5 newId))(m:bm.contains (.type "BaseException")=true)
  (c:h.get? x=some o) (k:o.cls=.ref C) (f:Q () ⟨h,g,d,t,os⟩):wpAny M A (checkBuiltinCall "BaseException.__getattribute__" ⟨[.ref x,a],[]⟩) Q E ⟨h,g,d,t,os⟩:=by
 have j:builtinKind "BaseException.__getattribute__"=some .slot:=by decide +kernel
 have b:splitId "BaseException.__getattribute__"=some ("BaseException","__getattribute__"):=by decide +kernel
 have n:(Value.ref C::bm).contains (.type "BaseException")=true:=by rw[S9,m,Tr]
 have p:=PySem.F.args_bexc_ga (.ref x) a;erw[checkBuiltinCall,j,b];refine Qa ?_
 .unfold isInstance
  repeat (first | (with_reducible refine QD c ?_;rw[k]) | (with_reducible refine Rq l ?_;rw[n]) | wp_step)
  exact f
theorem zK{a:Bool}{Q:Value->Shared->Prop}(r:ExcAttrFacts "ValueError")(p:h.get? C=@(excClassObj nm q C N bs bm true sn sub ab col dd k0 k1 k2 k3 k5 newId))(y:bm.contains (.type "BaseException")=true)
  (l:PySem.W.Looks (model prog w) h (typeLookup (.ref C) "__getattribute__") @(.builtin "BaseException.__getattribute__")) (k:PySem.W.Looks (model prog w) h (typeLookup (.ref C) "__getattr__") none)
  (j:PySem.W.Looks (model prog w) h (typeLookup (.ref C) name) none) (c:h.get? x=some o) (n:o.cls=.ref C) (b:o.data=.fields vs) (m:o.dict=some dx) (f:h.Ns1 dx mA) (u:mA name=some v) (D:handedOut v=pure v) (B:Q v ⟨h,g,d,t+1,os⟩) :
  wpAny (model prog w) A (getAttr (.ref x) name a) Q E ⟨h,g,d,t,os⟩:=by
 have F:=r.ga.bind (.ref x);have G:(a&&onTheHeap (Value.builtin "BaseException.__getattribute__"))=false:=by cases a<;>rfl
 have z:(Value.builtin "BaseException.__getattribute__"==Value.builtin "object.__getattribute__")=false:=by decide +kernel
 have I:(onTheHeap (Value.ref C)&&Value.builtin "BaseException.__getattribute__"==Value.builtin "object.__getattribute__")=false:=by rw[z];rfl
 unfold getAttr
 repeat (any_goals (first | assumption | (with_reducible refine QD c ?_;rw[n]) | with_reducible refine Rx l ?_ | with_reducible refine Rx k ?_ | wp_step))
 refine Sm r.ga.plain Uv (jm p y c n (xF p j c n b m f u ?_))
 repeat (any_goals (first | assumption | wp_step))
end
abbrev Cx.nF(X:Cx)(pn:List (Addr×Obj))(xe:Value->Shared->Prop):Cx:={X with pn:=X.pn++pn,xe:=xe}
abbrev Cx.kE(X:Cx)(e:Value)(pn:List (Addr×Obj))(xe:Value->Shared->Prop):Cx:={X with A:=X.A.mark (some e),calm:=false,pn:=X.pn++pn,xe:=xe}
section
variable{X:Cx}{aa:List (Addr×Obj)}{Y:St}{H:Hp}{s:Shared}{a:Addr}{cls:Value}{od:Option Addr}{g:Heap}
theorem Inv.nF(I:Inv X aa Y H s):Inv (X.nF aa xe) [] Y H s:=
 ⟨⟨I.ok.mod,I.ok.kind,I.ok.glob,I.ok.blt,I.ok.above,I.ok.inj,I.ok.has,I.ok.cab,I.ok.hd,I.ok.frames,I.ok.stk,I.ok.exf,I.ok.bs,I.ok.bsz,I.ok.noex,I.ok.exfs,I.ok.iZ,I.ok.frf⟩,
  I.os,I.bare,I.base,I.loc,I.cell,I.free,I.freeC,λ p b=>I.pin p (~~~b),I.hok,I.len⟩
theorem Inv.rK{b:List (Addr×Obj)}(I:Inv (X.nF aa xe) b Y H s):Inv X aa Y H s:=
 ⟨⟨I.ok.mod,I.ok.kind,I.ok.glob,I.ok.blt,I.ok.above,I.ok.inj,I.ok.has,I.ok.cab,I.ok.hd,I.ok.frames,I.ok.stk,I.ok.exf,I.ok.bs,I.ok.bsz,I.ok.noex,I.ok.exfs,I.ok.iZ,I.ok.frf⟩,
  I.os,I.bare,I.base,I.loc,I.cell,I.free,I.freeC,λ p c=>I.pin p (Q8 _ c),I.hok,I.len⟩
theorem Inv.kE(I:Inv X aa Y H s):Inv (X.kE e aa xe) [] Y H s:=
 ⟨⟨I.ok.mod,I.ok.kind,I.ok.glob,I.ok.blt,I.ok.above,I.ok.inj,I.ok.has,I.ok.cab,λ z=>(by cases z),I.ok.frames,I.ok.stk,I.ok.exf,I.ok.bs,I.ok.bsz,I.ok.noex,I.ok.exfs,I.ok.iZ,I.ok.frf⟩,
  I.os,I.bare,I.base,I.loc,I.cell,I.free,I.freeC,λ p b=>I.pin p (~~~b),I.hok,I.len⟩
theorem Inv.kj(c:X.Ok)(I:Inv (X.kE e aa xe) [] Y H s):Inv X aa Y H s:=
 ⟨c,I.os,I.bare,I.base,I.loc,I.cell,I.free,I.freeC,λ p b=>I.pin p (by rw[Rm];exact b),I.hok,I.len⟩
theorem zL{A:Around}(Z:X.ex=[])(I:Inv X aa Y H s)(R:Old X aa g)(x:rJ g H s.heap a cls od)
  (E:∀h',Inv X aa Y H {s with heap:=h'}->rJ g H h' a cls od->Q () {s with heap:=h'}):wpAny M A (setFlight (.ref a) none) Q E' s:=by
 let⟨tb,d,h2,p,m,l,F⟩:=x;rcases h2 with rfl | ⟨T,rfl,D,c⟩
 .let⟨B,v,u,J,G,t,r⟩:=id d;unfold setFlight;refine Qa (Q5 u t r ?_);rw[Qu 'd'];exact Qj (E s.heap I ⟨.none,d,.inl rfl,p,m,λ T e=>(by cases e),F⟩)
 .refine pX d D λ h' _ f V=>?_;have y:∀b,b≠a->Value.ref T≠.ref b->b≠T:=λ b _ n z=>n (by rw[z]);have U:jO h' a cls od (.ref T):=by
   let⟨B,v,u,J,G,t,r⟩:=d;exact⟨B,v,(by rw[f a (Ne.symm c)];exact u),J,G,t,r⟩
  refine E h' (I.past Z R d (.inr ⟨T,rfl,D,c⟩) p m l (λ b o k _ j L=>by rw[f b (y b j L)];exact k) λ b o k N j=>⟨o.slots,by rw[f b (y b N j)];exact k⟩) ⟨.ref T,U,.inr ⟨T,rfl,V,c⟩,p,m,l,λ b o q=>?_⟩;let⟨S,O⟩:=F b o q;refine⟨S,?_⟩;rw[f b λ z=>by
   subst z;rw[(l _ rfl).1] at q;cases q]
  exact O
theorem name_goes{A:Around}{E:Value->Shared->Prop}{i:Nat}{n:Str}{pos:Pos}(I:Inv X aa Y H s)(hN:X.N.Nodup)(hi:X.N[i]?=some n)(hk:X.env.kindOf n=some .local)
  (hQ:∀O,Inv X aa (Y.set i none) H O->Q () O):wpAny M A (do bindName X.env n .none;unbindBehindTheSuite X.env n pos) Q E s:=by
 let⟨m,S,hl⟩:=id I.loc;have t:(X.env.scope.kind==.class||(X.env.scope.kind==.module&&X.env.locals != X.env.globals))=false:=by rw[I.ok.kind];rfl
 have F:i<Y.length:=by rw[I.len];exact(Qc.mp hi).1
 refine wpAny_nameGoes_keeps hk S t λ h' v B f=>hQ _ ?_;have J:=I.yE;let⟨oL,_,_,hoL,_⟩:=id S;refine⟨I.ok,I.os,I.bare,⟨λ b o e n G r=>?_,λ b o e n G r=>?_,I.base.free,λ b o e r=>?_,I.base.tups,I.base.gS,I.base.iN⟩,⟨_,B,λ j y T l x e3=>?_⟩,λ y c e=>?_,I.free,I.freeC,λ p hp=>?_,λ b ob e=>?_,~~~I.len⟩
 .exact(f.2 b (Qo (Qm (Qg e) I.ok.above))).trans (I.base.keep b o e n G r)
 .let⟨V,l⟩:=I.base.slot b o e n G r;exact⟨V,(f.2 b (Qo (Qm (Qg e) I.ok.above))).trans l⟩
 .let⟨o',l⟩:=I.base.there b o e r;exact⟨o',(f.2 b (Qo (Qm (Qg e) I.ok.above))).trans l⟩
 .by_cases D:j=i
  .subst D;rw[QG F] at x;cases x
  .rw[QA (Ne.symm D)] at x;let⟨U,Z,q⟩:=hl j y T l x e3;refine⟨U,Z,?_⟩;rcases q with⟨k,e⟩ | ⟨k,c,e,z⟩
   .refine .inl ⟨k,?_⟩;have:y≠n:=λ e=>D (lC hN l (e▸hi));simp[this,e]
   .exact .inr ⟨k,c,e,z.sameBut f (J y c e)⟩
 .let⟨L,z⟩:=I.cell y c e;exact⟨L,z.sameBut f (J y c e)⟩
 .let⟨e,n,R,nf,d⟩:=I.pin p hp;exact⟨(f.2 p.1 R).trans e,n,R,nf,d⟩
 .refine(I.hok b ob e).stay (λ c L u q=>(f.2 c ?_).trans q) (λ _ q=>q) λ _ _ q=>q;rintro rfl;rcases u with rfl | u
  .rw[I.free] at e;cases e
  .rw[I.free] at u;cases u
end
def CI(C:Addr)(b:Option Addr)(o:Obj):Prop:=o.cls=.ref C/\o.dict=b/\∃a,o.data=.fields a
section
variable{X:Cx}{aa:List (Addr×Obj)}{Y:St}{H:Hp}{s:Shared}{a C:Addr}{od:Option Addr}{g:Heap}
theorem tracked(I:Inv X aa Y H s)(D:Old X aa g)(x:rJ g H s.heap a (.ref C) od):∃E,CI C od E/\H a=none/\Inv X aa Y (upd H a (jl a E)) s:=by
 let⟨tb,⟨V,L,B,e2,e3,A,e5⟩,h2,J,G,h5,h6⟩:=x;have t:X.env.locals≠a:=λ z=>by
  let⟨m,⟨o,es,ep,k,d,_⟩,_⟩:=I.loc;rw[z,B] at k;cases k;rw[A] at d;cases d
 have j:∀b u,H b=some u->b≠a:=λ b u q z=>by rw[z,G] at q;cases q
 refine⟨V,⟨e2,e3,L,A⟩,G,I.ok,I.os,I.bare,⟨I.base.keep,I.base.slot,λ b o q n hx=>?_,I.base.there,λ b l q=>?_,λ b o u q=>?_,λ b N q=>?_⟩,I.loc,I.cell,?_,λ y c q=>?_,λ p F=>?_,λ b u q=>?_,I.len⟩
 .let⟨Z,f⟩:=D.1 b o q;rw[aq λ z=>by rw[z,J] at f;cases f];exact I.base.free b o q n hx
 .rw[aq (j _ _ (I.base.tups b l q))];exact I.base.tups b l q
 .rw[aq (j _ _ (I.base.gS b o u q))];exact I.base.gS b o u q
 .let⟨m,f⟩:=I.base.iN b N q;exact⟨m,by rw[aq (j _ _ f)];exact f⟩
 .rw[aq t];exact I.free
 .rw[aq λ z=>?_]
  .exact I.freeC y c q
  .let⟨v,o,k,d⟩:=I.cell y c q;rw[z,B] at k;cases k;rw[A] at d;cases d
 .let⟨U,T,S,R,O⟩:=I.pin p F;let⟨Z,f⟩:=D.2 p F;exact⟨U,by rw[aq λ z=>by rw[z,J] at f;cases f];exact T,S,R,O⟩
 .by_cases z:b=a
  .subst z;rw[aB] at q;cases q;exact ug B
  .rw[aq z] at q;exact(I.hok b u q).stay (λ _ _ _ r=>r) (λ c r=>by rw[aq (j _ _ r)];exact r) λ c l r=>by rw[aq (j _ _ r)];exact r
end
abbrev rL:Value->Shared->Prop:=λ _ _=>False
def Ends.gone(D:Ends)(i:Nat):Ends:={nx:=fun Y H=>D.nx (Y.set i none) H,rt:=D.rt,bk:=fun Y H=>D.bk (Y.set i none) H,ct:=fun Y H=>D.ct (Y.set i none) H}
def O1(X:Cx)(P:Addr)(i:Nat)(ts:Cx->TS)(D:Ends)(Y:St)(cls:Value)(d:Option Addr)(H:Hp):Prop:=
 ∃C bm j,cls=.ref C/\XC X.K C bm j/\(Value.ref C::bm).contains (.ref P)=true/\∀a c b,CI C d b->H a=none->ts (X.kE (.ref a) c rL) (D.gone i) (Y.set i @(.ref a)) (upd H a (jl a b))
def O2(X:Cx)(P:Addr)(ts:Cx->TS)(D:Ends)(Y:St)(cls:Value)(d:Option Addr)(H:Hp):Prop:=
 ∃C bm j,cls=.ref C/\XC X.K C bm j/\(Value.ref C::bm).contains (.ref P)=true/\∀a c b,CI C d b->H a=none->ts (X.kE (.ref a) c rL) D Y (upd H a (jl a b))
def Nl(X:Cx)(g:Ends->St->Value->Option Addr->Hp->Prop)(tb:Cx->TS):TS:=λ D Y H=>∀c xe,(∀a b d f,g D a b d f->kD (X.nF c xe) a b d f)->tb (X.nF c xe) D Y H
section
variable{X:Cx}{body suite:List Stmt}{b₀:Stmt}{cn n:Str}{np hpos pos:Pos}{P:Addr}{CH:List Value}{jP:Option Value}{i:Nat}{tb ts:Cx->TS}{hd:Ends->St->Value->Option Addr->Hp->Prop}{h₀:ExceptHandler}
theorem zM(N:X.ex=[])(F:X.stack=X.env::X.outer)(J:X.env.frame=some X.env.locals)
  (R:∀pn xe,PassesOwn (model X.prog X.w) X.A X.env xe->iE (X.nF pn xe) body (tb (X.nF pn xe)))
  (O:∀aa Y H s a g cls x D,Inv X aa Y H s->Old X aa g->rJ g H s.heap a cls x->hd D Y cls x H->wpAny (model X.prog X.w) X.A (handleBy (.ref a) X.env [h₀]) (SP X aa D) X.xe s) :
  PS X (.Try body [h₀] [] [] pos) (Nl X hd tb):=by
 intro aa s Y H D I h;refine wpAny_Try_except ?_;have B:=R aa (λ e c=>wpAny (model X.prog X.w) X.A (noteFrame e X.env) (λ _ m=>wpAny (model X.prog X.w) X.A (setFlight e none) (λ _ l=>wpAny (model X.prog X.w) X.A (handleBy e X.env [h₀]) (SP X aa D) X.xe l) X.xe m) X.xe c) PassesOwn.looking
  [] s Y H D I.nF (h aa _ fun y cls x U q Z V a g T t L=>landed N F J T.rK ⟨t.1,λ p G=>t.2 p (Q8 _ G)⟩ L λ h' S E=>O aa y U _ a g cls x D S ⟨t.1,λ p G=>t.2 p (Q8 _ G)⟩ E q)
 refine Qw B (λ f c q=>?_) λ _ _ z=>z;cases f with
 |next=>
  let⟨b,k,j,d⟩:=q;exact uP aa c b k D j.rK d
 |brk=>
  let⟨b,k,j,d⟩:=q;exact⟨b,k,j.rK,d⟩
 |cont=>
  let⟨b,k,j,d⟩:=q;exact⟨b,k,j.rK,d⟩
 |ret u=>
  let⟨v,b,k,j,r,d⟩:=q;exact⟨v,b,k,j.rK,r,d⟩
theorem Nm(hx:X.ex=[])(x:X.N.Nodup)(hi:X.N[i]?=some n)(t:X.env.kindOf n=some .local)(p:XC X.K P CH jP)(hg:Gl X cn)(hm:X.mg cn=@(.ref P))
  (hs:∀a pn,iE (X.kE (.ref a) pn rL) (b₀::suite) (ts (X.kE (.ref a) pn rL))) (L:(cn==("__debug__":Str))=false:=by decide)
  (aa:List (Addr×Obj)) (Y:St) (H:Hp) (s:Shared) (a:Addr) (g:Heap) (y:Value) (S:Option Addr) (D:Ends) (I:Inv X aa Y H s) (R:Old X aa g) (O:rJ g H s.heap a y S) (h:O1 X P i ts D Y y S H) :
  wpAny (model X.prog X.w) X.A (handleBy (.ref a) X.env [.ExceptHandler @(.Name cn np) (some n) (b₀::suite) hpos]) (SP X aa D) X.xe s:=by
 let⟨C,bm,j,rfl,c,J,q⟩:=h;refine wpAny_handleBy_cons (codeAny_handlers_test ?_) (by intro z;cases z);refine dR (X:=X.kE (.ref a) aa rL) I.kE hg hm ?_ L;let⟨tb,⟨oe,vs,e1,e2,_⟩,_⟩:=id O;let⟨hp,gg,d,tk,os⟩:=s;refine oq c p I.fR e1 e2 ?_;rw[J];refine codeAny_handlers_suite_as ?_;refine zL hx I R O λ h2 I2 B=>?_;let⟨Z,T,G,I3⟩:=tracked I2 R B;refine lD (X:=X.kE (.ref a) aa rL) (I3.kE (e:=.ref a) (xe:=rL)) x hi (.inl t) (v:=V.ref a) rfl (λ U I4=>?_) (.inr t);refine Qw (hs a aa [] U _ _ _ I4 (q a _ Z T G)) (λ f s5 z=>?_) λ _ _ z=>z.elim;cases f with
 |next=>
  let⟨b,E,m,k⟩:=z;exact name_goes (m.kj I.ok) x hi t λ F l=>⟨_,_,l,k⟩
 |brk=>
  let⟨b,E,m,k⟩:=z;exact name_goes (m.kj I.ok) x hi t λ F l=>⟨_,_,l,k⟩
 |cont=>
  let⟨b,E,m,k⟩:=z;exact name_goes (m.kj I.ok) x hi t λ F l=>⟨_,_,l,k⟩
 |ret u=>
  let⟨v,b,E,m,r,k⟩:=z;exact name_goes (m.kj I.ok) x hi t λ F l=>⟨v,_,_,l,r,k⟩
theorem Nn(O:X.ex=[])(p:XC X.K P CH jP)(T:Gl X cn)(S:X.mg cn=@(.ref P))
  (R:∀a pn,iE (X.kE (.ref a) pn rL) (b₀::suite) (ts (X.kE (.ref a) pn rL))) (E:(cn==("__debug__":Str))=false:=by decide)
  (aa:List (Addr×Obj)) (Y:St) (H:Hp) (s:Shared) (a:Addr) (g:Heap) (t:Value) (J:Option Addr) (D:Ends) (I:Inv X aa Y H s) (G:Old X aa g) (F:rJ g H s.heap a t J) (h:O2 X P ts D Y t J H) :
  wpAny (model X.prog X.w) X.A (handleBy (.ref a) X.env [.ExceptHandler @(.Name cn np) none (b₀::suite) hpos]) (SP X aa D) X.xe s:=by
 let⟨C,bm,j,rfl,c,B,q⟩:=h;refine wpAny_handleBy_cons (codeAny_handlers_test ?_) (by intro z;cases z);refine dR (X:=X.kE (.ref a) aa rL) I.kE T S ?_ E;let⟨tb,⟨oe,vs,V,U,_⟩,_⟩:=id F;let⟨hp,gg,d,tk,os⟩:=s;refine oq c p I.fR V U ?_;rw[B];refine codeAny_handlers_suite ?_;refine zL O I G F λ h2 I2 x=>?_;let⟨N,L,y,Z⟩:=tracked I2 G x;refine Qw (R a aa [] _ _ _ _ (Z.kE (e:=.ref a) (xe:=rL)) (q a _ N L y)) (λ f s5 z=>?_) λ _ _ z=>z.elim;cases f with
 |next=>
  let⟨b,k,m,l⟩:=z;exact⟨b,k,m.kj I.ok,l⟩
 |brk=>
  let⟨b,k,m,l⟩:=z;exact⟨b,k,m.kj I.ok,l⟩
 |cont=>
  let⟨b,k,m,l⟩:=z;exact⟨b,k,m.kj I.ok,l⟩
 |ret u=>
  let⟨v,b,k,m,r,l⟩:=z;exact⟨v,b,k,m.kj I.ok,r,l⟩
end
section
variable{prog:Program}{w:World}{A:Around}{E:Value->Shared->Prop}{h:Heap}{g:Array GenState}{d:Drawn}{t:Nat}{os:OsState}
variable{nm q:Str}{C N x:Addr}{bs bm:List Value}{sn:List Str}{sub:List Value}{ab:Bool}{col:Option Bool}{dd:Option Addr}{k0 k1 k2 k3 k5:Option Value}{newId:String}{o:Obj}
theorem uh{R:Result->Shared->Prop}(f:h.get? C=@(excClassObj nm q C N bs bm true sn sub ab col dd k0 k1 k2 k3 k5 newId))(c:bm.contains (.type "object")=true)(a:h.get? x=some o)(b:o.cls=.ref C)(l:R (.ok (.ret (.ref C))) ⟨h,g,d,t,os⟩) :
  codeAny (model prog w) A (.call (.builtin "getset_descriptor.__get__") ⟨[.builtin "object.__class__",.ref x,.ref C],[]⟩) R ⟨h,g,d,t,os⟩:=by
 have j:(⟨h,g,d,t,os⟩:Shared).TypeIs (.builtin "object.__class__") "getset_descriptor":=Sf;have k:(Value.ref C::bm).contains (.type (".".intercalate ("object.__class__".cutAt '.').dropLast))=true:=by rw[PySem.F.owner_object_class,S9,c,Tr]
 refine Sm PySem.F.slot_gs_get.plain PySem.F.entry_gs_get (PySem.F.slot_gs_get.check _ _ _ _ _ _ _ _ j (PySem.F.args_gs_get _ _ _) ?_)
 repeat (any_goals (first | assumption | (with_reducible refine QD a ?_;rw[b]) | (with_reducible refine Rq f ?_;rw[k]) | wp_step))
 refine⟨TR _ 'k',codeAny_builtin PySem.F.entry_object_class ?_⟩
 repeat (any_goals (first | assumption | (with_reducible refine QD a ?_;rw[b]) | wp_step))
theorem pY{Q:Fin->Shared->Prop}(j:h.get? C=@(excClassObj nm q C N bs bm true sn sub ab col dd k0 k1 k2 k3 k5 newId))(f:bm.contains (.type "object")=true)(c:PySem.W.Looks (model prog w) h (typeLookup (.ref C) "__class__") @(.builtin "object.__class__"))
  (a:h.get? x=some o) (b:o.cls=.ref C) (k:Q (.done (.ret (.ref C))) ⟨h,g,d,t,os⟩):wpAny (model prog w) A (Builtin.«object.__getattribute__» ⟨[.ref x,.str "__class__" tk],[]⟩) Q E ⟨h,g,d,t,os⟩:=by
 have p:(⟨h,g,d,t,os⟩:Shared).TypeIs (.builtin "object.__class__") "getset_descriptor":=Sf;have n:=Sf;have m:=PySem.F.slot_gs_get.lookup;have l:=PySem.F.slot_gs_set.lookup
 repeat (any_goals (first | assumption | (with_reducible refine QD a ?_;rw[b]) | with_reducible refine Rx c ?_ | wp_step))
 refine uh j f a b ?_
 repeat (any_goals (first | assumption | wp_step))
theorem xG{Q:Value->Shared->Prop}(j:h.get? C=@(excClassObj nm q C N bs bm true sn sub ab col dd k0 k1 k2 k3 k5 newId))(l:bm.contains (.type "object")=true)(m:bm.contains (.type "BaseException")=true)
  (k:PySem.W.Looks (model prog w) h (typeLookup (.ref C) "__class__") @(.builtin "object.__class__")) (c:PySem.W.Looks (model prog w) h (typeLookup (.ref C) "__getattribute__") @(.builtin "BaseException.__getattribute__")) (b:PySem.W.Looks (model prog w) h (typeLookup (.ref C) "__getattr__") none)
  (a:h.get? x=some o) (f:o.cls=.ref C) (p:Q (.ref C) ⟨h,g,d,t,os⟩):wpAny (model prog w) A (getAttrBy (.ref x) (.str "__class__" tk) false) Q E ⟨h,g,d,t,os⟩:=by
 have r:=PySem.F.excAttr_ValueError.ga.bind (.ref x);have n:(Value.builtin "BaseException.__getattribute__"==Value.builtin "object.__getattribute__")=false:=by decide +kernel
 have u:(onTheHeap (Value.ref C)&&Value.builtin "BaseException.__getattribute__"==Value.builtin "object.__getattribute__")=false:=by rw[n];rfl
 repeat (any_goals (first | assumption | (with_reducible refine QD a ?_;rw[f]) | with_reducible refine Rx c ?_ | with_reducible refine Rx b ?_ | wp_step))
 refine Sm PySem.F.excAttr_ValueError.ga.plain Uv (jm j m a f (pY j l k a f ?_))
 repeat (any_goals (first | assumption | wp_step))
theorem rM{Q:Option Value->Shared->Prop}(l:h.get? C=@(excClassObj nm q C N bs bm true sn sub ab col dd k0 k1 k2 k3 k5 newId))(k:bm.contains (.type "object")=true)(m:bm.contains (.type "BaseException")=true)
  (f:PySem.W.Looks (model prog w) h (typeLookup (.ref C) "__class__") @(.builtin "object.__class__")) (b:PySem.W.Looks (model prog w) h (typeLookup (.ref C) "__getattribute__") @(.builtin "BaseException.__getattribute__")) (a:PySem.W.Looks (model prog w) h (typeLookup (.ref C) "__getattr__") none)
  (c:h.get? x=some o) (j:o.cls=.ref C) (n:Q @(.ref C) ⟨h,g,d,t+1,os⟩):wpAny (model prog w) A (getAttr? (.ref x) "__class__") Q E ⟨h,g,d,t,os⟩:=by
 unfold getAttr? getAttrBy?
 repeat (any_goals (first | assumption | with_reducible apply xG l k m f b a c j | wp_step))
end
structure XG(K:ae)(C:Addr):Prop where
 ga:PySem.W.findIn K (.ref C) "__getattribute__"=@(some (.builtin "BaseException.__getattribute__"))
 gt:PySem.W.findIn K (.ref C) "__getattr__"=some none
 kl:PySem.W.findIn K (.ref C) "__class__"=@(some (.builtin "object.__class__"))
theorem rN{x:Addr}(c:XC K C bm i)(r:XG K C):PySem.W.KitX K (.ref x) (.ref C) (λ h=>∃o,h.get? x=some o/\o.cls=.ref C):=by
 let⟨U,q,N,bs,L,u,ab,I,G,k0,k1,k2,k3,Z,Bn,a,y,J,V,f,Fn,D,hi,T⟩:=c.ex;refine⟨λ M h X p=>?_,λ M h X p=>?_,λ h m G v n O X b=>?_,λ {prog w A E Q s} X p k=>?_⟩
 .let⟨o,l,j⟩:=p;exact j▸(PySem.W.Looks.ld l).andThen .now
 .intro A' Q' E' R k q;unfold isType loadHead;exact Qa (wpAny_loadPart (k _ _ (X _ _ f)) (Qj q))
 .refine Bool.eq_false_iff.mpr λ q=>?_;have e:C=m:=Value.ref.inj (Q6.mp q);subst e;have z:=RU Obj.data (QN ((X _ _ f).symm.trans b));cases z
 .let⟨o,l,j⟩:=p;let⟨hh,g,d,t,S⟩:=s;have B:bm.contains (.type "object")=true:=(T _ X).2.hasType (show VE.contains (.type "object")=true from by decide);have F:bm.contains (.type "BaseException")=true:=(T _ X).2.hasType (show VE.contains (.type "BaseException")=true from by decide);exact rM (X _ _ f) B F (Q3 X r.kl) (Q3 X r.ga) (Q3 X r.gt) l j k
section
variable{X:Cx}
theorem zN:cG X (.builtin "isinstance") (λ xs H Q=>∃a C f d bm j y u b,xs=[.ref a,y]/\H a=some (jl a d)/\CI C f d/\XC X.K C bm j/\XG X.K C/\(∀u',RelV y u'->u'=u)/\PySem.W.kitOne X.K (.ref C) u=some b/\Q (.bl b) H):=by
 intro aa s Y H xs v Q I m h;let⟨a,C,f,d,bm,j,y,u,b,rfl,t,g,c,r,q,e,k⟩:=h;let⟨l,x,rfl,p,n⟩:=vals2 m;obtain rfl:l=Value.ref a:=p;obtain rfl:=q _ n;exact PySem.W.kia_one (rN c r) I.fR ⟨d,iH I.hok t,g.1⟩ e (λ z=>nomatch z) λ tk=>⟨.bl b,H,I.tok tk,rfl,k⟩
theorem xH:cG X (.builtin "isinstance") (λ xs H Q=>∃a C p f bm j tp ys vs b,xs=[.ref a,.ref tp]/\H a=some (jl a f)/\CI C p f/\XC X.K C bm j/\XG X.K C/\H tp=some (.tup ys)/\(∀d,Vals ys d->d=vs)/\PySem.W.kitAny X.K (.ref C) vs=some b/\Q (.bl b) H):=by
 intro aa s Y H xs O Q I x h;let⟨a,C,p,f,bm,j,tp,ys,vs,b,rfl,J,t,c,r,G,F,e,k⟩:=h;let⟨v,u,rfl,A,y⟩:=vals2 x;obtain rfl:v=Value.ref a:=A;obtain rfl:u=Value.ref tp:=y;let⟨_,l,q,o,N,L,m⟩:=(show bA X.prog X.w H s.heap tp (.tup ys) from I.hok tp _ G);obtain rfl:=F _ q;let⟨E,D,g,B⟩:=o;let⟨n,m⟩:=m;obtain rfl:E=Value.type "tuple":=L;obtain rfl:g=Data.seq l.toArray n:=m;exact PySem.W.kia_tup (rN c r) I.fR ⟨f,iH I.hok J,t.1⟩ N e (λ z=>nomatch z) λ tk=>⟨.bl b,H,I.tok tk,rfl,k⟩
def Np(K:ae)(ta:TE)(f:Str):TE:=fun Y H Q=>ta Y H λ x b=>∃a C g c bm j d y,x=.ref a/\b a=some (jl a c)/\CI C (some g) c/\XC K C bm j/\XG K C/\PySem.W.findIn K (.ref C) f=some none/\b g=some (.xd d)/\d.lookup f=some y/\Q y b
theorem GH{e:Expr}{f:Str}{pos:Pos}{ta:TE}(Z:PE X e ta)(hb:attributeBase e f X.env (eval e X.env)=eval e X.env):PE X (.Attribute e f pos) (Np X.K ta f):=by
 intro aa s Y H Q I h;refine uU hb (bP (Z aa s Y H _ I h) λ u m ⟨x,z,b,G,a,C,p,oa,bm,j,fs,y,ex,ha,⟨D,B,vs,A⟩,c,r,J,hd,l,q⟩=>?_);subst ex;obtain rfl:u=Value.ref a:=G;let⟨O,L,U⟩:=(show bA X.prog X.w z m.heap p (.xd fs) from b.hok p _ hd);let⟨u,S,n⟩:=fQ.some_of (v:=y) (o:=O f) (by rw[<-l];exact U f);let⟨nm,q',N,bs,sn,E,ab,col,dd,k0,k1,k2,k3,k5,Bn,k,R,bmN,mN,hC,Fn,hBn,hi,T⟩:=c.ex;have hB:bm.contains (.type "BaseException")=true:=(T _ b.fR).2.hasType (show VE.contains (.type "BaseException")=true from by decide);have V:=iH b.hok ha;let⟨hh,g,d,t,os⟩:=m;exact zK PySem.F.excAttr_ValueError (b.fR _ _ hC) hB (Q3 b.fR r.ga) (Q3 b.fR r.gt) (Q3 b.fR J) V D A B L S
  (PySem.W.handedOut_of (nR n)) ⟨y,z,b.tok _,n,q⟩
end
def Bu(X:Cx)(Y:St):XK:=λ a b H=>kD X Y a b H
def um(X:Cx)(sp:Sp)(b:List V)(t:TA):TE:=fun Y H Q=>t Y H λ a c=>sp (a++b) c Q (Bu X Y)
def uo(X:Cx)(C:Addr)(sp:Sp)(d:List V)(t:TA):TE:=fun Y H Q=>t Y H λ c b=>∀x a,b x=none->b a=none->a≠x->
 sp (.ref x::(c++d)) (upd (upd b a (.own x)) x (.ins C a [])) (λ v f=>v=.non/\Q (.ref x) f) (Bu X Y)
section
variable{X:Cx}{k:Nat}{f C:Addr}{fd:FuncData}{ps:List Str}{sp:Sp}{iP:List V}{ds:List Value}{x m:Str}{p pos apos:Pos}{e o:Expr}{es:List Expr}{ta:TE}{t:TA}
theorem CJ{Q:VK}{us:List Value}{vs:List V}(c:X.ex=[])(F:cg X.prog X.w X.K X.mg X.base (lX X.prog X.w) k f fd ps sp)(d:bV k X.A)(l:Binds X.K fd ps ds)(j:Vals iP ds)
  (I:Inv X aa Y H s) (r:Vals vs us) (h:sp (vs++iP) H Q (Bu X Y)):wpAny (model X.prog X.w) X.A (call (.ref f) us) (EP X aa Y Q) X.xe s:=by
 have b:Vals (vs++iP) (us++ds):=r.append j;have g:(us++ds).length=ps.length:=by rw[<-b.length];exact F.len _ _ _ _ h
 refine TJ (Rz (F.run X.A X.stack s H ⟨us,[]⟩ (us++ds) (vs++iP) Q (Bu X Y) d I.yW (l s us I.fR g) b h) λ r n a=>?_);cases r with
 |error e=>exact Ef c (λ _ _ _ z=>z) I a
 |ok fl=>
  cases fl with
  |ret u=>exact I.after a
  |next=>exact False.elim a
  |brk=>exact False.elim a
  |cont=>exact False.elim a
theorem zO(d:X.ex=[])(F:cg X.prog X.w X.K X.mg X.base (lX X.prog X.w) k f fd ps sp)(g:bV k X.A)(n:Gl X x)(j:X.mg x=@(.ref f))(l:PySem.W.keepIn X.K (.ref f)=true)(y:Binds X.K fd ps ds)(v:Vals iP ds)
  (z:PA X (e::es) t) (b:(x==("__debug__":Str))=false:=by decide) (u:starEach (e::es) X.env=(false,eval e X.env)::starEach es X.env:=by rfl) (a:(backTo pos (starEach es X.env)).any (·.1)=false:=by rfl) :
  PE X (.Call (.Name x p) (e::es) [] pos) (um X sp iP t):=by
 intro aa s Y H Q I h;refine Q4 (dR I n j ?_ b);refine Rw (h₀:=X.base) I.ok.mod.kin l (bP (z pos aa s Y H _ I h) λ D E ⟨B,G,c,r,q⟩=>⟨c.fR,?_⟩) u a;exact CJ d F g y v c r q
theorem xJ{Q:VK}{us:List Value}{vs:List V}(l:X.ex=[])(M:Mk X.K C f)(F:cg X.prog X.w X.K X.mg X.base (lX X.prog X.w) k f fd ps sp)(n:bV (k+1) X.A)(B:Binds X.K fd ps ds)(y:Vals iP ds)
  (I:Inv X aa Y H s) (r:Vals vs us)
  (h:∀x dx,H x=none->H dx=none->dx≠x->sp (.ref x::(vs++iP)) (upd (upd H dx (.own x)) x (.ins C dx [])) (λ v G=>v=.non/\Q (.ref x) G) (Bu X Y)) :
  wpAny (model X.prog X.w) X.A (call (.ref C) us) (EP X aa Y Q) X.xe s:=by
 have d:=h (s⁻¹+1) s⁻¹ (I.hok.fresh (Ru _)) (I.hok.fresh (Qf _)) (Qo (RV _));have b:=Inv.made (C:=C) I;have c:Vals (V.ref (s⁻¹+1)::(vs++iP)) (Value.ref (s⁻¹+1)::(us++ds)):=.cons rfl (r.append y);have q:(Value.ref (s⁻¹+1)::us++ds).length=ps.length:=by
  have e:=c.length;rw[F.len _ _ _ _ d] at e;exact e.symm
 refine TJ (qP (f:=f) I.fR M.makes M.init (Q6.mp M.fn) (Rz (F.run _ X.stack _ _ ⟨Value.ref (s⁻¹+1)::us,[]⟩ (Value.ref (s⁻¹+1)::(us++ds)) _ _ (Bu X Y) (n.make C us [])
  (b.yW.make C us []) (B _ (Value.ref (s⁻¹+1)::us) b.fR q) c d) λ r L a=>?_))
 cases r with
 |error e=>exact Ef l (λ _ _ _ z=>z) b a
 |ok fl=>
  cases fl with
  |ret u=>
   let⟨v,J,E,g,D,j⟩:=b.after a;subst D;exact⟨g,⟨V.ref (s⁻¹+1),J,E,rfl,j⟩⟩
  |next=>exact False.elim a
  |brk=>exact False.elim a
  |cont=>exact False.elim a
theorem zP(d:X.ex=[])(M:Mk X.K C f)(F:cg X.prog X.w X.K X.mg X.base (lX X.prog X.w) k f fd ps sp)(g:bV (k+1) X.A)(l:Gl X x)(j:X.mg x=@(.ref C))(v:Binds X.K fd ps ds)(u:Vals iP ds)
  (y:PA X (e::es) t) (b:(x==("__debug__":Str))=false:=by decide) (n:starEach (e::es) X.env=(false,eval e X.env)::starEach es X.env:=by rfl) (a:(backTo pos (starEach es X.env)).any (·.1)=false:=by rfl) :
  PE X (.Call (.Name x p) (e::es) [] pos) (uo X C sp iP t):=by
 intro aa s Y H Q I h;refine Q4 (dR I l j ?_ b);refine Rw (h₀:=X.base) I.ok.mod.kin M.kp (bP (y pos aa s Y H _ I h) λ B D ⟨z,E,c,r,q⟩=>⟨c.fR,?_⟩) n a;exact xJ d M F g v u c r q
end
theorem D6.O3{j:Str->Option Value}{base:Heap}{x qual:Str}{st:Stmt}{f:Addr}{l:FuncData}{N c:List Str}{k:Nat}{sp:Sp}(F:D6 K x qual st f l)(S:gC N c (aI st))(d:∀vs H Q E,sp vs H Q E->vs.length=c.length)
  (b:∀(a:Value) (A:Around) (outer:List Env) (s:Shared) (H:Hp) (vs:List V) (Q:VK) (E:XK),bV k (A.deeper (envOfC qual (aI st) s⁻¹ f a))->sp vs H Q E->
   ∃t,iE (jc (lX P w) P w K j base N qual (aI st) f a A outer s H E) (cK st) t/\t {nx:=λ _ u=>Q .non u,rt:=Q} (start N vs) H):cg P w K j base (lX P w) (k+1) f l c sp:=by
 let⟨z,y,B,r,v,G,a,D,n,rfl,p,g⟩:=F.ex;exact D0 p g S d λ A outer s H vs Q E q m=>b a A outer s H vs Q E q m
theorem CK{G:Str->Option Value}{base:Heap}{x qual:Str}{st:Stmt}{z:FuncData}{b v d:Str}{u r p n:Pos}{k:Nat}(F:D6 K x qual st fa z)(S:gC [b,v] [b,v] (aI st))
  (m:cK st=[.Assign [.Attribute (.Name b u) d r] (.Name v p) n]) (c:XC K C bm i) (D:PySem.W.findIn K (.ref C) d=some none) (j:DU (aI st) b) (g:DU (aI st) v)
  (T:(b==("__debug__":Str))=false) (R:(b==("__classdict__":Str))=false) (O:(v==("__debug__":Str))=false) (N:(v==("__classdict__":Str))=false)
  (I:∀env:Env,swapsWith (.Name v p) @(.Attribute (.Name b u) d r) n.line env=pure false):cg P w K G base Cg (k+1) fa z [b,v] (Iv C d):=by
 refine F.ok S (λ B H Q E h=>?_) (λ Z A f s H B Q E hr h=>?_)
 .let⟨a,t,y,rfl,_⟩:=h;rfl
 .let⟨a,t,y,rfl,L,q⟩:=h;rw[m];refine⟨_,BD (CB c D (sX (i:=0) rfl j T R) (sX (i:=1) rfl g O N) (I _)),?_⟩;exact⟨y,rfl,V.ref a,rfl,a,t,rfl,L,λ U J l=>q U J l⟩
end L2
end
section
namespace D
open PySem PySem.Spec PyProof.Rows L2 List
variable{H H2:Hp}{d p:Addr}{e:Expr}{n:Nat}{o:O}{v:V}{vs:List V}{w:W}{ws:List W}{Δ:Option Addr}{J β2:List Addr}{Y:L2.St}
def rO(K:ae)(H:Hp)(a:Addr)(xs:List V):Prop:=(∃o,H a=@(.frz o (.lst xs)))\/
 ∃(o:Obj) (b:Array Value) (n:Nat),K.lookup a=some o/\o.cls=.type "list"/\o.dict=none/\o.data=.seq b n/\b.size<=sizeLine/\Vals xs b.toList
theorem rO.l{K:ae}{a:Addr}{xs:List V}(h:rO K H a xs):gU K H a xs:=h.elim (λ ⟨o,e⟩=>.inl (.inr ⟨o,e⟩)) .inr
def aj(K:ae)(c:Str):Addr:=match PySem.W.nsIn K mainGlobals c with
 |some (some (.ref C))=>C
 |_=>0
set_option genInjectivity false in
structure Cl where
 P:Program
 w:World
section
variable(K:ae)(cl:Cl)
mutual
inductive RW(J:List Addr)(H:Hp):W->V->Prop
 |non:RW J H .non .non
 |bl (b:Bool):RW J H (.bl b) (.bl b)
 |int (i:Int):RW J H (.int i) (.int i)
 |str (x:Str):RW J H (.str x) (.str x)
 |tup {a vs xs}:ef K H a vs->aS J H xs vs->RW J H (.tup xs) (.ref a)
 |fz {a vs xs}:rO K H a vs->aS J H xs vs->RW J H (.fz xs) (.ref a)
 |obj {a c ks xs dx o fs}:H a=some (.frz o (.ins (aj K c) dx fs))->ks=fs.map (·.1)->aS J H xs (fs.map (·.2))->RW J H (.obj c ks xs) (.ref a)
 |ref {n a}:J[n]?=some a->RW J H (.ref n) (.ref a)
inductive aS(J:List Addr)(H:Hp):List W->List V->Prop
 |nil:aS J H [] []
 |cons {w:W} {v:V} {ws:List W} {vs:List V}:RW J H w v->aS J H ws vs->aS J H (w::ws) (v::vs)
end
inductive gm(J:List Addr)(H:Hp):List (Str×W)->List (Str×V)->Prop
 |nil:gm J H [] []
 |cons {f w v ws vs}:RW K J H w v->gm J H ws vs->gm J H ((f,w)::ws) ((f,v)::vs)
def keyed(a:List (Str×V)):List (Key×V):=a.map λ p=>(.inr p.1,p.2)
def XD(H:Hp)(a:Option Addr)(f:Str)(vs:List V):Prop:=(a=none/\vs=[])\/∃b y,a=some b/\vs=[y]/\H b=@(.xd [(f,y)])
def RO(J:List Addr)(H:Hp)(a:Addr):O->Prop
 |.lst ws=>∃vs,H a=some (.lst vs)/\aS K J H ws vs
 |.ins c fs=>∃dx fs',H a=some (.ins (aj K c) dx fs')/\gm K J H fs fs'
 |.set ks=>∃S,H a=some (lO cl.P cl.w a S ks.length)/\∀k,S k=lP k ks
 |.dic fs=>∃fs',H a=some (.dK (keyed fs'))/\gm K J H fs fs'
 |.exc c f ws=>∃g b vs,H a=some (jl a g)/\CI (aj K c) b g/\aS K J H ws vs/\XD H b f vs
structure Rel(J:List Addr)(m:Mem)(H:Hp):Prop where
 len:J.length=m.length
 nd:J.Nodup
 obj:∀{n:Nat} {o:O} {a:Addr},m[n]?=some o->J[n]?=some a->RO K cl J H a o
structure cU(Δ:Option Addr)(J:List Addr)(H:Hp)(J':List Addr)(H':Hp):Prop where
 pre:∃γ,J'=J++γ/\∀a∈γ,H a=none
 keep:∀{a:Addr} {o:HO},H a=some o->a∉J->some a≠Δ->H' a=some o
abbrev Ext:=cU none
structure RL(J:List Addr)(H:Hp)(Z:Loc)(Y:L2.St):Prop where
 len:Z.length=Y.length
 at_:∀{i:Nat} {w:W},Z[i]?=some (some w)->∃v,Y[i]?=some (some v)/\RW K J H w v
end
section
variable{K:ae}{cl:Cl}{J J' J'':List Addr}{H H' vn:Hp}{m m':Mem}{a:Addr}
theorem Rel.mem(r:Rel K cl J m H)(h:a∈J):∃(n:Nat) (o:O),J[n]?=some a/\m[n]?=some o/\RO K cl J H a o:=by
 let⟨n,b⟩:=Uq h;have c:n<m.length:=by
  have:=(Qc.mp b).1;rw[r.len] at this;exact this
 exact⟨n,m[n],b,by simp[c],r.obj (by simp[c]) b⟩
theorem RO.ex(h:RO K cl J H a o):∃u,H a=some u/\(∀xs,u≠.tup xs)/\∀g x,u≠.frz g x:=by
 cases o with
 |lst ws=>let⟨vs,e,_⟩:=h;exact⟨_,e,(by intro _ z;cases z),(by intro _ _ z;cases z)⟩
 |ins c fs=>let⟨l,b,e,_⟩:=h;exact⟨_,e,(by intro _ z;cases z),(by intro _ _ z;cases z)⟩
 |set k=>let⟨S,e,_⟩:=h;exact⟨_,e,(by intro _ z;cases z),(by intro _ _ z;cases z)⟩
 |dic fs=>let⟨b,e,_⟩:=h;exact⟨_,e,(by intro _ z;cases z),(by intro _ _ z;cases z)⟩
 |exc c f ws=>let⟨j,i,vs,e,_⟩:=h;exact⟨_,e,(by intro _ z;cases z),(by intro _ _ z;cases z)⟩
theorem RO.Kr(h:RO K cl J H a o)(g:List (Str×V)):H a≠some (.xd g):=λ q=>by
 cases o with
 |lst ws=>let⟨vs,e,_⟩:=h;rw[q] at e;cases e
 |ins c g=>let⟨l,b,e,_⟩:=h;rw[q] at e;cases e
 |set k=>let⟨S,e,_⟩:=h;rw[q] at e;cases e
 |dic g=>let⟨b,e,_⟩:=h;rw[q] at e;cases e
 |exc c f ws=>let⟨j,i,vs,e,_⟩:=h;rw[q] at e;cases e
theorem Rel.Kr(r:Rel K cl J m H){b:List (Str×V)}(e:H a=@(.xd b)):a∉J:=λ h=>by
 let⟨n,o,_,_,x⟩:=r.mem h;exact x.Kr b e
theorem Rel.ex(r:Rel K cl J m H)(h:a∈J):∃u,H a=some u/\(∀xs,u≠.tup xs)/\∀b x,u≠.frz b x:=by
 let⟨n,o,_,_,x⟩:=r.mem h;exact x.ex
theorem Ext.refl:cU Δ J H J H:=⟨⟨[],by simp,by simp⟩,λ h _ _=>h⟩
theorem cU.trans(x:cU Δ J H J' H')(k:Rel K cl J' m' H')(y:cU Δ J' H' J'' vn)(q:∀d,Δ=some d->H' d≠none:=by intro d z;cases z):cU Δ J H J'' vn:=by
 let⟨j,rfl,c⟩:=x.pre;let⟨i,rfl,b⟩:=y.pre;refine⟨⟨j++i,by simp,λ a l=>?_⟩,λ {a o} h hn f=>?_⟩
 .rcases Qz.mp l with z | z
  .exact c a z
  .by_cases g:a∈J
   .let⟨u,e,_⟩:=k.ex (Q8 _ g);rw[b a z] at e;cases e
   .cases e:H a with
    |none=>rfl
    |some o=>
     by_cases f:some a=Δ
     .exact absurd (b a z) (q a f.symm)
     .have:=x.keep e g f;rw[b a z] at this;cases this
 .refine y.keep (x.keep h hn f) (λ z=>?_) f;rcases Qz.mp z with z | z
  .exact hn z
  .rw[c a z] at h;cases h
def jQ:Option HO->Prop
 |some (.lst _)=>True
 |some (.dK _)=>True
 |_=>False
theorem cU.toD(x:Ext J H J' H'):cU (some d) J H J' H':=⟨x.pre,λ h b _=>x.keep h b 's'⟩
theorem cU.LU(x:cU Δ J H J' H')(r:Rel K cl J m H)(i:∀d,Δ=some d->jQ (H d))(h:ef K H a vs):ef K H' a vs:=by
 rcases h with h | h
 .refine .inl ?_;have c:a∉J:=λ z=>by
   let⟨u,e,g,f⟩:=r.ex z;rcases h with h | ⟨o,h⟩
   .rw[h] at e;cases e;exact g _ rfl
   .rw[h] at e;cases e;exact f _ _ rfl
  have b:some a≠Δ:=λ z=>by
   have e:=i a z.symm;rcases h with h | ⟨o,h⟩
   .rw[h] at e;exact e
   .rw[h] at e;exact e
  rcases h with h | ⟨o,h⟩
  .exact .inl (x.keep h c b)
  .exact .inr ⟨o,x.keep h c b⟩
 .exact .inr h
theorem cU.O4(x:cU Δ J H J' H')(r:Rel K cl J m H)(c:∀d,Δ=some d->jQ (H d))(h:rO K H a vs):rO K H' a vs:=by
 rcases h with⟨o,h⟩ | h
 .refine .inl ⟨o,x.keep h (λ z=>?_) λ z=>?_⟩
  .let⟨u,e,f,b⟩:=r.ex z;rw[h] at e;cases e;exact b _ _ rfl
  .have e:=c a z.symm;rw[h] at e;exact e
 .exact .inr h
theorem cU.fz(x:cU Δ J H J' H')(r:Rel K cl J m H)(c:∀d,Δ=some d->jQ (H d)){o:Obj}{u:HO}(h:H a=@(.frz o u)):H' a=some (.frz o u):=by
 refine x.keep h (λ z=>?_) λ z=>?_
 .let⟨u,e,f,b⟩:=r.ex z;rw[h] at e;cases e;exact b _ _ rfl
 .have e:=c a z.symm;rw[h] at e;exact e
theorem cU.get(x:cU Δ J H J' H')(h:J[n]?=some a):J'[n]?=some a:=by
 let⟨b,rfl,_⟩:=x.pre;rw[Qh (Qc.mp h).1];exact h
theorem RW.gen(c:∀{a:Addr} {vs:List V},ef K H a vs->ef K H2 a vs)(j:∀{a:Addr} {vs:List V},rO K H a vs->rO K H2 a vs)(g:∀{a:Addr} {o:Obj} {u:HO},H a=some (.frz o u)->H2 a=@(.frz o u))(f:∀{n:Nat} {a:Addr},J[n]?=some a->β2[n]?=some a)(q:RW K J H w v):RW K β2 H2 w v:=
 RW.rec (motive_1:=λ w v _=>RW K β2 H2 w v) (motive_2:=λ w v _=>aS K β2 H2 w v) .non .bl .int .str (λ h _ i=>.tup (c h) i) (λ h _ i=>.fz (j h) i) (λ h e _ i=>.obj (g h) e i) (λ h=>.ref (f h)) .nil (λ _ _ a b=>.cons a b) q
theorem aS.xK(f:∀{w:W} {v:V},RW K J H w v->RW K β2 H2 w v){w:List W}{v:List V}(q:aS K J H w v):aS K β2 H2 w v:=by
 induction w generalizing v with
 |nil=>cases q;exact .nil
 |cons x w c=>cases q with | cons a b=>exact .cons (f a) (c b)
theorem gm.xK(f:∀{w:W} {v:V},RW K J H w v->RW K β2 H2 w v){w:List (Str×W)}{v:List (Str×V)}(q:gm K J H w v):gm K β2 H2 w v:=by
 induction q with
 |nil=>exact .nil
 |cons a b c=>exact .cons (f a) c
theorem RW.cu(r:Rel K cl J m H)(b:∀d,Δ=some d->jQ (H d))(x:cU Δ J H J' H')(q:RW K J H w v):RW K J' H' w v:=
 q.gen (x.LU r b) (x.O4 r b) (x.fz r b) x.get
theorem aS.cu(r:Rel K cl J m H)(b:∀d,Δ=some d->jQ (H d))(x:cU Δ J H J' H'){w:List W}{v:List V}(q:aS K J H w v):aS K J' H' w v:=q.xK (RW.cu r b x)
theorem Bv{P:Addr->Prop}:∀d,(none:Option Addr)=some d->P d:=λ d z=>by cases z
theorem RW.mono(r:Rel K cl J m H)(x:Ext J H J' H')(h:RW K J H w v):RW K J' H' w v:=h.cu r Bv x
theorem aS.mono(r:Rel K cl J m H)(x:Ext J H J' H'){w:List W}{v:List V}(h:aS K J H w v):aS K J' H' w v:=h.cu r Bv x
theorem gm.cu(r:Rel K cl J m H)(b:∀d,Δ=some d->jQ (H d))(x:cU Δ J H J' H'){w:List (Str×W)}{v:List (Str×V)}(q:gm K J H w v):gm K J' H' w v:=q.xK (RW.cu r b x)
theorem RL.cu(r:Rel K cl J m H)(b:∀d,Δ=some d->jQ (H d))(x:cU Δ J H J' H'){Z:Loc}(l:RL K J H Z Y):RL K J' H' Z Y:=
 ⟨l.len,λ h=>let ⟨v,e,q⟩:=l.at_ h;⟨v,e,q.cu r b x⟩⟩
theorem RL.mono(r:Rel K cl J m H)(x:Ext J H J' H'){Z:Loc}(l:RL K J H Z Y):RL K J' H' Z Y:=l.cu r Bv x
theorem RO.cu(r:Rel K cl J m H)(i:∀d,Δ=some d->jQ (H d))(x:cU Δ J H J' H')(g:H' a=H a)(h:RO K cl J H a o):RO K cl J' H' a o:=by
 cases o with
 |lst ws=>let⟨vs,e,t⟩:=h;exact⟨vs,g.trans e,t.cu r i x⟩
 |ins c fs=>let⟨j,b,e,t⟩:=h;exact⟨j,b,g.trans e,t.cu r i x⟩
 |set B=>let⟨S,e,t⟩:=h;exact⟨S,g.trans e,t⟩
 |dic fs=>let⟨b,e,t⟩:=h;exact⟨b,g.trans e,t.cu r i x⟩
 |exc c f ws=>
  let⟨s,q,vs,e,l,t,d⟩:=h;refine⟨s,q,vs,g.trans e,l,t.cu r i x,?_⟩;rcases d with d | ⟨j,y,A,u,k⟩
  .exact .inl d
  .refine .inr ⟨j,y,A,u,x.keep k (r.Kr k) λ z=>?_⟩;have e:=i j z.symm;rw[k] at e;exact e
theorem RO.mono(r:Rel K cl J m H)(x:Ext J H J' H')(b:H' a=H a)(h:RO K cl J H a o):RO K cl J' H' a o:=h.cu r Bv x b
theorem aS.length:∀{ws:List W} {vs:List V},aS K J H ws vs->ws.length=vs.length
 |_,_,.nil=>rfl
 |_,_,.cons _ t=>by rw[QO,QO,aS.length t]
theorem aS.get:∀{ws:List W} {vs:List V} {i:Nat} {w:W},aS K J H ws vs->ws[i]?=some w->∃v,vs[i]?=some v/\RW K J H w v
 |_,_,_,_,.nil,e=>by simp at e
 |_,_,0,_,.cons h t,e=>by simp at e;subst e;exact⟨_,rfl,h⟩
 |_,_,i+1,_,.cons h t,e=>by simpa using aS.get (i:=i) t (~~~e)
theorem aS.append:∀{v w:List W} {d e:List V},aS K J H v d->aS K J H w e->aS K J H (v++w) (d++e):=by
 intro v
 induction v with
 |nil=>intro w d e h s;cases h;exact s
 |cons x v b=>intro w d e h s;cases h with | cons q t=>exact .cons q (b t s)
theorem aS.take:∀{ws:List W} {vs:List V} (n:Nat),aS K J H ws vs->aS K J H (ws.take n) (vs.take n)
 |_,_,0,_=>.nil
 |_,_,_+1,.nil=>.nil
 |_,_,n+1,.cons h t=>.cons h (aS.take n t)
theorem aS.drop:∀{ws:List W} {vs:List V} (n:Nat),aS K J H ws vs->aS K J H (ws.drop n) (vs.drop n)
 |_,_,0,r=>r
 |_,_,_+1,.nil=>.nil
 |_,_,n+1,.cons h t=>aS.drop n t
theorem aS.set(r:RW K J H w v):∀{ws:List W} {vs:List V} (i:Nat),aS K J H ws vs->aS K J H (ws.set i w) (vs.set i v)
 |_,_,_,.nil=>.nil
 |_,_,0,.cons _ t=>.cons r t
 |_,_,i+1,.cons q t=>.cons q (aS.set r i t)
theorem aS.eraseIdx:∀{ws:List W} {vs:List V} (i:Nat),aS K J H ws vs->aS K J H (ws.eraseIdx i) (vs.eraseIdx i)
 |_,_,_,.nil=>.nil
 |_,_,0,.cons _ t=>t
 |_,_,i+1,.cons q t=>.cons q (aS.eraseIdx i t)
theorem aS.dropLast(h:aS K J H ws vs):aS K J H ws.dropLast vs.dropLast:=by
 rw[dropLast_eq_take,dropLast_eq_take,h.length];exact h.take _
theorem aS.bools{f:List Bool}:∀{ws:List W} {vs:List V},aS K J H ws vs->D.bools ws=Option.some f->vs=f.map V.bl:=by
 induction f with
 |nil=>
  intro ws vs h e;cases h with
  |nil=>rfl
  |cons q t=>cases q<;>simp[D.bools] at e
 |cons b f g=>
  intro ws vs h e;cases h with
  |nil=>simp[D.bools] at e
  |cons q t=>
   cases q with
   |bl c=>
    erw[D.bools,P9] at e;let⟨r,j,i⟩:=e;cases i;rw[g t j];rfl
   |_=>simp[D.bools] at e
theorem RW.sub(h:∀{n:Nat} {a:Addr},J[n]?=Option.some a->J'[n]?=Option.some a)(q:RW K J H w v):RW K J' H w v:=q.gen id id id h
theorem aS.sub(h:∀{n:Nat} {a:Addr},J[n]?=Option.some a->J'[n]?=Option.some a){w:List W}{v:List V}(q:aS K J H w v):aS K J' H w v:=q.xK (RW.sub h)
theorem gm.sub(h:∀{n:Nat} {a:Addr},J[n]?=Option.some a->J'[n]?=Option.some a){w:List (Str×W)}{v:List (Str×V)}(q:gm K J H w v):gm K J' H w v:=q.xK (RW.sub h)
theorem RO.sub(h:∀{n:Nat} {a:Addr},J[n]?=Option.some a->J'[n]?=Option.some a)(q:RO K cl J H a o):RO K cl J' H a o:=by
 cases o with
 |lst ws=>let⟨vs,e,t⟩:=q;exact⟨vs,e,t.sub h⟩
 |ins c fs=>let⟨k,b,e,t⟩:=q;exact⟨k,b,e,t.sub h⟩
 |set l=>exact q
 |dic fs=>let⟨b,e,t⟩:=q;exact⟨b,e,t.sub h⟩
 |exc c f ws=>let⟨j,i,vs,e,g,t,d⟩:=q;exact⟨j,i,vs,e,g,t.sub h,d⟩
theorem Rel.pZ(r:Rel K cl J m H)(b:H p=none)(vs:List V):Ext J H J (upd H p (.tup vs))/\Rel K cl J m (upd H p (.tup vs)):=by
 have x:Ext J H J (upd H p (.tup vs)):=⟨⟨[],by simp,by simp⟩,λ h _ _=>by rw[aq (aA h b)];exact h⟩;refine⟨x,r.len,r.nd,λ f c=>?_⟩;have q:=r.obj f c;let⟨u,e,_⟩:=q.ex;exact q.mono r x (aq (aA e b))
theorem Rel.Ks(r:Rel K cl J m H)(b:H p=none):p∉J:=λ z=>by
 let⟨u,e,_⟩:=r.ex z;rw[b] at e;cases e
theorem Rel.zQ(r:Rel K cl J m H){ho:HO}(g:H p=none)(q:∀x:Ext J H (J++[p]) (upd H p ho),RO K cl (J++[p]) (upd H p ho) p o):Ext J H (J++[p]) (upd H p ho)/\Rel K cl (J++[p]) (m++[o]) (upd H p ho):=by
 have x:Ext J H (J++[p]) (upd H p ho):=⟨⟨[p],rfl,λ a i=>by simp at i;rw[i];exact g⟩,λ h _ _=>by rw[aq (aA h g)];exact h⟩;refine⟨x,by simp[r.len],?_,λ {n s a} c f=>?_⟩
 .rw[R6];refine⟨r.nd,by simp,λ a i b k=>?_⟩;simp at k;subst k;rintro rfl;exact r.Ks g i
 .by_cases j:n<m.length
  .rw[Qh j] at c;rw[Qh (by rw[r.len];exact j)] at f;have q:=r.obj c f;let⟨u,e,_⟩:=q.ex;exact q.mono r x (aq (aA e g))
  .have l:=(Qc.mp c).1;simp at l;have e:n=m.length:=by omega
   subst e;rw[Qy (Qf _)] at c;rw[<-r.len,Qy (Qf _)] at f;simp at c f;subst c f;exact q x
theorem Rel.newL(r:Rel K cl J m H)(b:H p=none)(q:aS K J H ws vs):Ext J H (J++[p]) (upd H p (.lst vs))/\Rel K cl (J++[p]) (m++[.lst ws]) (upd H p (.lst vs)):=
 r.zQ b λ x=>⟨vs,aB,q.mono r x⟩
theorem Rel.Nq(r:Rel K cl J m H){u':HO}(f:jQ (H d))(c:d∉J):cU (Option.some d) J H J (upd H d u')/\Rel K cl J m (upd H d u'):=by
 have x:cU (Option.some d) J H J (upd H d u'):=⟨⟨[],by simp,by simp⟩,λ {a o} h _ na=>by rw[aq (λ z=>na (by rw[z]))];exact h⟩;refine⟨x,r.len,r.nd,λ g b=>?_⟩;have q:=r.obj g b;refine q.cu r (λ i z=>?_) x (aq λ z=>?_)
 .cases z;exact f
 .exact c (by rw[<-z];exact QW b)
theorem Rel.out(r:Rel K cl J m H){i:O}(l:d∉J)(t:RO K cl J H d i):Rel K cl (J++[d]) (m++[i]) H:=by
 have g:∀{n:Nat} {a:Addr},J[n]?=Option.some a->(J++[d])[n]?=Option.some a:=λ {n a} h=>by
  rw[Qh (Qc.mp h).1];exact h
 refine⟨by simp[r.len],?_,λ {n o a} c f=>?_⟩
 .rw[R6];refine⟨r.nd,by simp,λ a q b k=>?_⟩;simp at k;subst k;rintro rfl;exact l q
 .by_cases j:n<m.length
  .rw[Qh j] at c;rw[Qh (by rw[r.len];exact j)] at f;exact(r.obj c f).sub g
  .have s:=(Qc.mp c).1;simp at s;have e:n=m.length:=by omega
   subst e;rw[Qy (Qf _)] at c;rw[<-r.len,Qy (Qf _)] at f;simp at c f;subst c f;exact t.sub g
theorem Rel.last(r:Rel K cl J m H)(p:Addr):(J++[p])[m.length]?=Option.some p:=by
 rw[<-r.len,Qy (Qf _)];simp
theorem Rel.kG(r:Rel K cl J m H){l:List W}{c:List V}(t:m[n]?=Option.some o)(j:J[n]?=Option.some a)(q:aS K J H l c):Ext J H J (upd H a (.lst c))/\Rel K cl J (m.set n (.lst l)) (upd H a (.lst c)):=by
 have y:a∈J:=QW j;have x:Ext J H J (upd H a (.lst c)):=⟨⟨[],by simp,by simp⟩,λ {b u} h hn _=>by rw[aq (show b≠a from λ z=>hn (by rw[z];exact y))];exact h⟩;refine⟨x,by simp[r.len],r.nd,λ {k C b} g f=>?_⟩
 by_cases i:n=k
 .subst i;rw[j] at f;cases f;rw[QG (Qc.mp t).1] at g;cases g;exact⟨c,aB,q.mono r x⟩
 .rw[QA i] at g;have s:=r.obj g f;refine s.mono r x (aq ?_);rintro rfl;let⟨E,B⟩:=Qc.mp f;let⟨D,A⟩:=Qc.mp j;exact i ((Uy r.nd).mp (A.trans B.symm))
theorem Rel.getL(r:Rel K cl J m H)(q:RW K J H w v)(e:D.getL m w=Option.some ws):∃a vs,v=.ref a/\gU K H a vs/\aS K J H ws vs:=by
 cases q with
 |ref h=>
  unfold D.getL at e;dsimp only at e;split at e
  .ext c b;cases e;let⟨vs,z,t⟩:=r.obj b h;exact⟨_,vs,rfl,.inl (.inl z),t⟩
  .cases e
 |fz h t=>cases e;exact⟨_,_,rfl,h.l,t⟩
 |_=>simp[D.getL] at e
theorem Rel.aP(r:Rel K cl J m H)(q:RW K J H w v)(e:D.aP m w=Option.some ws):∃a vs,v=.ref a/\(gU K H a vs\/ef K H a vs)/\aS K J H ws vs:=by
 cases w with
 |tup xs=>
  cases q with
  |tup h t=>
   cases e;exact⟨_,_,rfl,.inr h,t⟩
 |_=>
  let⟨a,vs,f,c,b⟩:=r.getL q e;exact⟨a,vs,f,.inl c,b⟩
theorem Rel.lst(r:Rel K cl J m H)(q:RW K J H (.ref n) v)(e:m[n]?=Option.some (.lst ws)):∃a vs,v=.ref a/\J[n]?=Option.some a/\H a=Option.some (.lst vs)/\aS K J H ws vs:=by
 cases q with
 |ref h=>
  let⟨vs,z,t⟩:=r.obj e h;exact⟨_,vs,rfl,h,z,t⟩
theorem ie{f:W->Option PyData}:∀{ws:List W} {vs:List V} {b:List PyData},(∀w v d,w∈ws->RW K J H w v->f w=Option.some d->Dt K H v d)->aS K J H ws vs->dJ f ws=Option.some b->D8 K H vs b
 | [],_,_,_,.nil,e=>by cases e;exact .nil
 |w::ws,_,_,h,.cons q t,e=>by
  unfold dJ at e;split at e
  .cases e
  .ext d j;split at e
   .cases e
   .ext b i;cases e;exact .cons (h w _ d QM q j) (ie (λ c g d' hw=>h c g d' (QC _ hw)) t i)
theorem gI(r:Rel K cl J m H):∀(n:Nat) {w:W} {v:V} {d:PyData},RW K J H w v->toD n m w=Option.some d->Dt K H v d
 |0,_,_,_,_,e=>by cases e
 |n+1,w,v,d,q,e=>by
  unfold toD at e;cases q with
  |non=>cases e;exact .non
  |bl b=>cases e;exact .bl b
  |int i=>cases e;exact .int i
  |str x=>
   dsimp only at e;split at e
   .cases e;exact .str x
   .cases e
  |tup h t=>
   erw[P9] at e;let⟨g,f,c⟩:=e;subst c;exact .tup h (ie (λ w v d _ q e=>gI r n q e) t f)
  |fz h t=>
   erw[P9] at e;let⟨g,f,c⟩:=e;subst c;exact .lst h.l (ie (λ w v d _ q e=>gI r n q e) t f)
  |obj h y t=>cases e
  |ref h=>
   dsimp only at e;split at e
   .ext xs f;erw[P9] at e;let⟨g,c,u⟩:=e;subst u;let⟨a,vs,s,k,j⟩:=r.getL (.ref h) f;cases s;exact .lst k (ie (λ w v d _ q e=>gI r n q e) j c)
   .cases e
theorem ig{f:W->Option PyData}:∀{ws:List W} {b:List PyData},(∀w d,f w=Option.some d->d.canLay0=true/\d.depth<=n)->dJ f ws=Option.some b->PyData.canLayAll0 b=true/\PyData.depthAll b<=n
 | [],_,_,e=>by cases e;exact⟨rfl,RB _⟩
 |w::ws,_,h,e=>by
  unfold dJ at e;split at e
  .cases e
  .ext d g;split at e
   .cases e
   .ext b c;cases e;let⟨j,l⟩:=h w d g;let⟨i,k⟩:=ig h c;refine⟨by simp[PyData.canLayAll0,j,i],?_⟩;erw[PyData.depthAll];omega
theorem cL:∀(n:Nat) {w:W} {d:PyData},toD n m w=Option.some d->d.canLay0=true/\d.depth<=n
 |0,_,_,e=>by cases e
 |n+1,w,d,e=>by
  unfold toD at e;cases w with
  |non=>cases e;exact⟨rfl,by simp[PyData.depth]⟩
  |bl b=>cases e;exact⟨rfl,by simp[PyData.depth]⟩
  |int i=>cases e;exact⟨rfl,by simp[PyData.depth]⟩
  |str x=>
   dsimp only at e;split at e
   .ext q;cases e;exact⟨q,by simp[PyData.depth]⟩
   .cases e
  |tup xs=>
   erw[P9] at e;let⟨j,h,f⟩:=e;subst f;let⟨g,l⟩:=ig (λ w d e=>cL n e) h;exact⟨g,by erw[PyData.depth];omega⟩
  |fz xs=>
   erw[P9] at e;let⟨j,h,f⟩:=e;subst f;let⟨g,l⟩:=ig (λ w d e=>cL n e) h;exact⟨g,by erw[PyData.depth];omega⟩
  |obj c ks vs=>cases e
  |ref k=>
   dsimp only at e;split at e
   .erw[P9] at e;let⟨j,f,r⟩:=e;subst r;let⟨g,l⟩:=ig (λ w d e=>cL n e) f;exact⟨g,by erw[PyData.depth];omega⟩
   .cases e
theorem R.ah{b γ:Type}{x:R b}{f:b->Mem->R γ}{c:γ}(h:x.bind f=.ok c m'):∃a m,x=.ok a m/\f a m=.ok c m':=by
 cases x with
 |no=>cases h
 |ok a m=>exact⟨a,m,rfl,h⟩
end
structure UN(X:L2.Cx)(cl:Cl):Prop where
 un:X.A.units+64<cLine
 P:cl.P=X.prog
 w:cl.w=X.w
 gd:X.A.guards=some []
theorem bS:lim<=sizeLine:=by rw[RP];decide
section
variable(X:L2.Cx)(cl:Cl)
inductive SE(ev:Loc->Mem->R W)(Y:L2.St)(H:Hp)(Q:VK):Prop
 |mk (J:List Addr) (Z:Loc) (m:Mem) (w:W) (m':Mem) (h1:Rel X.K cl J m H) (h2:RL X.K J H Z Y) (h3:ev Z m=.ok w m') (h4:∀J' H' v,Ext J H J' H'->Rel X.K cl J' m' H'->RW X.K J' H' w v->Q v H'):SE ev Y H Q
inductive ST(ev:Loc->Mem->R Bool)(Y:L2.St)(H:Hp)(Q:Bool->Hp->Prop):Prop
 |mk (J:List Addr) (Z:Loc) (m:Mem) (b:Bool) (m':Mem) (h1:Rel X.K cl J m H) (h2:RL X.K J H Z Y) (h3:ev Z m=.ok b m') (h4:∀J' H',Ext J H J' H'->Rel X.K cl J' m' H'->Q b H'):ST ev Y H Q
inductive SA(ev:Loc->Mem->R (List W))(Y:L2.St)(H:Hp)(Q:List V->Hp->Prop):Prop
 |mk (J:List Addr) (Z:Loc) (m:Mem) (ws:List W) (m':Mem) (h1:Rel X.K cl J m H) (h2:RL X.K J H Z Y) (h3:ev Z m=.ok ws m') (h4:∀J' H' vs,Ext J H J' H'->Rel X.K cl J' m' H'->aS X.K J' H' ws vs->Q vs H'):SA ev Y H Q
inductive Iw(ev:Loc->Mem->R (Option Int))(Y:L2.St)(H:Hp)(Q:Option Int->Hp->Prop):Prop
 |mk (J:List Addr) (Z:Loc) (m:Mem) (o:Option Int) (m':Mem) (h1:Rel X.K cl J m H) (h2:RL X.K J H Z Y) (h3:ev Z m=.ok o m') (h4:∀J' H',Ext J H J' H'->Rel X.K cl J' m' H'->Q o H'):Iw ev Y H Q
inductive CM(f:W->W->Mem->R W)(x y:V)(H:Hp)(Q:VK):Prop
 |mk (J:List Addr) (m:Mem) (wx wy w:W) (m':Mem) (h1:Rel X.K cl J m H) (h2:RW X.K J H wx x) (h3:RW X.K J H wy y) (h4:f wx wy m=.ok w m') (h5:∀J' H' v,Ext J H J' H'->Rel X.K cl J' m' H'->RW X.K J' H' w v->Q v H'):CM f x y H Q
inductive Oj(f:List W->Mem->R W)(xs:List V)(H:Hp)(Q:VK):Prop
 |mk (J:List Addr) (m:Mem) (ws:List W) (w:W) (m':Mem) (h1:Rel X.K cl J m H) (h2:aS X.K J H ws xs) (h3:f ws m=.ok w m') (h4:∀J' H' v,Ext J H J' H'->Rel X.K cl J' m' H'->RW X.K J' H' w v->Q v H'):Oj f xs H Q
end
theorem PE.imp{X:L2.Cx}{t t':TE}(h:PE X e t)(i:∀Y H Q,t' Y H Q->t Y H Q):PE X e t':=λ a s Y H Q I q=>h a s Y H Q I (i Y H Q q)
theorem PT.imp{X:L2.Cx}{t t':TT}(h:PT X e t)(i:∀Y H Q,t' Y H Q->t Y H Q):PT X e t':=λ a s Y H Q I q=>h a s Y H Q I (i Y H Q q)
theorem PW.imp{X:L2.Cx}{t t':TT}(h:PW X e t)(i:∀Y H Q,t' Y H Q->t Y H Q):PW X e t':=λ a b s Y H Q I q=>h a b s Y H Q I (i Y H Q q)
theorem PA.imp{X:L2.Cx}{e:List Expr}{t t':TA}(h:PA X e t)(i:∀Y H Q,t' Y H Q->t Y H Q):PA X e t':=λ a b s Y H Q I q=>h a b s Y H Q I (i Y H Q q)
theorem PO.imp{X:L2.Cx}{e:Option Expr}{t t':TO}(h:PO X e t)(i:∀Y H Q,t' Y H Q->t Y H Q):PO X e t':=λ a s Y H Q I q=>h a s Y H Q I (i Y H Q q)
theorem jR{z:Str}:∀(a:List (Str×V)),jK (keyed a) (.inr z)=a.lookup z:=by
 intro a
 induction a with
 |nil=>rfl
 |cons p r b=>
  let⟨k,v⟩:=p;unfold jK keyed at b ⊢;rw[QF,SN,Qs]
  by_cases h:k=z
  .subst h;simp
  .have f:(z==k)=false:=by simpa using λ e=>h e.symm
   have c:decide ((Sum.inr k:Key)=.inr z)=false:=QH λ e=>h (Sum.inr.inj e);rw[f];erw[c];exact b
theorem gm.look{K:ae}{z:Str}{b:List (Str×W)}{a:List (Str×V)}(h:gm K J H b a):(b.lookup z).isSome=(a.lookup z).isSome/\∀w,b.lookup z=some w->∃v,a.lookup z=some v/\RW K J H w v:=by
 induction h with
 |nil=>exact⟨rfl,λ w e=>by cases e⟩
 |@cons f w v ws vs q t c=>
  rw[Qs,Qs];cases h:z==f with
  |true=>exact⟨rfl,λ g e=>by cases e;exact⟨v,rfl,q⟩⟩
  |false=>exact c
theorem GI{X:L2.Cx}:FY X (λ x y H Q=>∃z a i v,y=.str z/\x=.ref a/\H a=some (.dK (keyed i))/\i.lookup z=some v/\Q v H):=by
 intro b c D s Y H x y v u Q I m l h t;let⟨z,a,i,o,rfl,rfl,e,A,q⟩:=h;cases m;let⟨_,C,vs,g,j⟩:=u5 I.hok (.inl e);let⟨B,r,f⟩:=fQ.some_of (v:=o) (o:=valueAt vs (.inr z)) (by rw[<-A,<-jR];exact g.val (.inr z));exact tail_any j.typeIs slot_dict_getitem.lookup (wpAny_getItem_of (nZ (k:=.inr z) l) j.mapOf r ⟨o,H,I.tok _,f,q⟩) t
section
variable{X:L2.Cx}{cl:Cl}
theorem zS:gf X (binaryOp .Add) (λ x y H Q=>∃a b ys,x=.ref a/\y=.ref b/\ef X.K H a []/\ef X.K H b ys/\Q (.ref b) H):=by
 intro U s Y H x y v u Q I D C h;let⟨a,b,ys,rfl,rfl,R,P,q⟩:=h;cases D;cases C;let⟨N,F,L,_⟩:=I.tuple R;let⟨c,E,G,_⟩:=I.tuple P;cases F;let⟨⟨T,S,z,B⟩,m,t,n,r⟩:=id L;let⟨⟨A,k,l,j⟩,f,i,M,g⟩:=id G;simp only at t r i g;subst t r i g;exact Ub ⟨_,m,rfl⟩ ⟨_,f,rfl⟩ T4 UE S2 SR (Sy _ _)
   (tuple_addW0 a b _ c.toArray n M S k B j 's') ⟨m,f,⟨.ref b,H,I,rfl,q⟩⟩
theorem CN:gf X (binaryOp .Add) (λ x y H Q=>∃a b xs ys,x=.ref a/\y=.ref b/\gU X.K H a xs/\gU X.K H b ys/\xs.length+ys.length<=sizeLine/\∀p,H p=none->Q (.ref p) (upd H p (.lst (xs++ys)))):=by
 intro aa s Y H x y v u Q I M L h;let⟨a,b,xs,ys,rfl,rfl,U,T,hz,q⟩:=h;cases M;cases L;let⟨f,t,P,_⟩:=I.list U;let⟨c,g,N,_⟩:=I.list T;let⟨⟨cls,dd,D,G⟩,n,z,C,S,B⟩:=id P;let⟨⟨E,m,r,l⟩,R,i,k,A,j⟩:=id N;simp only at C B k j;subst C B k j;have l1:=t.length;have l2:=g.length;have Z:f.toArray++c.toArray=(f++c).toArray:=by simp
 refine Ub ⟨_,z,rfl⟩ ⟨_,i,rfl⟩ noFill_list_add seq_list_add PySem.F.slot_list_add PySem.F.entry_list_add (PySem.F.args_list_add_2 _ _)
   (list_addW a b f.toArray c.toArray n R dd m G l (by rw[Qi,Qi];omega)) ⟨z,i,?_⟩
 rw[Z];exact⟨.ref _,_,I.J5 (t':=s.toks) (t.append g) (by rw[QU];omega),rfl,q _ I.fresh⟩
theorem GJ(M:Operator):gf X (binaryOp M) (CM X cl (binop M)):=by
 intro i s Y H x y v u Q I g f h;let⟨J,m,wx,Z,w,m',r,l,j,e,k⟩:=h;unfold binop at e;split at e
 .
  split at e
  .cases e;cases l;cases j;exact FE i s Y H _ _ v u Q I g f ⟨_,_,rfl,rfl,k _ _ _ Ext.refl r (.int _)⟩
  .ext P N;split at e
   .ext c;cases e;cases l with
    |tup D q=>
     cases j with
     |tup C A=>
      ext a vs b F;cases q with
      |nil=>exact zS i s Y H _ _ v u Q I g f ⟨_,_,_,rfl,rfl,D,C,k _ _ _ Ext.refl r (.tup C (~~~A))⟩
      |cons q t=>
       ext w1 L R B;have S:(L::B).length+F.length<=lim:=by
        rw[<-(aS.cons q t).length,<-A.length];exact c
       refine BZ i s Y H _ _ v u Q I g f ⟨_,_,_,_,rfl,rfl,D,C,by simp,Qk S bS,λ z=>?_,λ z p K=>?_⟩
       .subst z;cases A;exact k _ _ _ Ext.refl r (.tup D (by simpa using aS.cons q t))
       .let⟨E,G⟩:=r.pZ K (L::B++F);refine k _ _ _ E G (.tup (.of aB) ?_);exact((aS.cons q t).append A).mono r E
   .cases e
  .split at e
   .ext c;cases e;cases l;cases j;exact tF i s Y H _ _ v u Q I g f ⟨_,_,rfl,rfl,Qk c bS,k _ _ _ Ext.refl r (.str _)⟩
   .cases e
  .unfold Cr at e;split at e
   .ext P N U T;split at e
    .ext c;cases e;let⟨a,vs,rfl,D,q⟩:=r.getL l U;let⟨b,F,rfl,C,A⟩:=r.getL j T;refine CN i s Y H _ _ v u Q I g f ⟨_,_,_,_,rfl,rfl,D,C,?_,λ p K=>?_⟩
     .rw[<-q.length,<-A.length];exact Qk c bS
     .let⟨E,G⟩:=r.newL K (q.append A);exact k _ _ _ E G (.ref (r.last p))
    .cases e
   .cases e
 .
  split at e
  .cases e;cases l;cases j;exact FF i s Y H _ _ v u Q I g f ⟨_,_,rfl,rfl,k _ _ _ Ext.refl r (.int _)⟩
  .cases e
 .
  split at e
  .split at e
   .ext c;cases e;cases l;cases j;refine FG i s Y H _ _ v u Q I g f ⟨_,_,rfl,rfl,?_,k _ _ _ Ext.refl r (.int _)⟩;simpa[j8,BL] using c
   .cases e
  .cases e
 .split at e
  .split at e
   .ext c;cases e;cases l;cases j;exact BN i s Y H _ _ v u Q I g f ⟨_,_,rfl,rfl,c,k _ _ _ Ext.refl r (.int _)⟩
   .cases e
  .cases e
 .split at e
  .split at e
   .ext c;cases e;cases l;cases j;exact FH i s Y H _ _ v u Q I g f ⟨_,_,rfl,rfl,c,k _ _ _ Ext.refl r (.int _)⟩
   .cases e
  .cases e
 .split at e
  .split at e
   .ext c;cases e;cases l;cases j;exact FI i s Y H _ _ v u Q I g f ⟨_,_,rfl,rfl,c,k _ _ _ Ext.refl r (.int _)⟩
   .cases e
  .cases e
 .split at e
  .split at e
   .ext c;cases e;cases l;cases j;exact FJ i s Y H _ _ v u Q I g f ⟨_,_,rfl,rfl,c,k _ _ _ Ext.refl r (.int _)⟩
   .cases e
  .cases e
 .split at e
  .split at e
   .ext c;cases e;cases l;cases j;exact FL i s Y H _ _ v u Q I g f ⟨_,_,rfl,rfl,c,k _ _ _ Ext.refl r (.int _)⟩
   .cases e
  .cases e
 .split at e
  .cases e;cases l;cases j;exact FN i s Y H _ _ v u Q I g f ⟨_,_,rfl,rfl,k _ _ _ Ext.refl r (.int _)⟩
  .cases e
 .cases e
theorem Ku(q:UN X cl):gf X (compareOp .Eq) (CM X cl λ x y m=>(vd m x y).bind λ c m=>.ok (.bl c) m):=by
 intro z s Y H x y v u Q I i g h;let⟨J,m,B,A,w,D,r,l,j,e,k⟩:=h;let⟨c,C,a,t⟩:=R.ah e;cases t;unfold vd at a;split at a
 .ext F E b f;cases a;exact Gk q.un z s Y H _ _ v u Q I i g ⟨_,_,gI r _ l b,gI r _ j f,(cL _ b).1,(cL _ f).1,(cL _ b).2,k _ _ _ Ext.refl r (.bl _)⟩
 .cases a
theorem Kv(A:UN X cl):gf X (compareOp .NotEq) (CM X cl λ x y m=>((vd m x y).bind λ b m=>.ok (!b) m).bind λ c m=>.ok (.bl c) m):=by
 intro B s Y H x y v u Q I l j h;let⟨J,m,D,C,w,E,r,t,q,e,k⟩:=h;let⟨c,z,a,g⟩:=R.ah e;cases g;let⟨c,z,a,g⟩:=R.ah a;cases g;unfold vd at a;split at a
 .ext G F f i;cases a;exact Gm A.un B s Y H _ _ v u Q I l j ⟨_,_,gI r _ t f,gI r _ q i,(cL _ f).1,(cL _ i).1,(cL _ f).2,k _ _ _ Ext.refl r (.bl _)⟩
 .cases a
theorem jS(T:UN X cl)(b:Bool){M:List (Addr×Obj)}{s:Shared}{x y:V}{v u:Value}{Q:VK}{m E:Mem}{D C:W}{ys:List W}{c:Bool}(I:Inv X M Y H s)(P:RelV x v)(N:RelV y u)
  (r:Rel X.K cl J m H) (S:RW X.K J H D x) (R:RW X.K J H C y) (U:aP m C=some ys) (l:ku m D ys=.ok c E) (k:E=m->Q (.bl (if b then !c else c)) H) :
  wpAny (model X.prog X.w) X.A (compareOp (if b then .NotIn else .In) v u) (EP X M Y Q) X.xe s:=by
 let⟨a,vs,rfl,g,t⟩:=r.aP R U;cases N;unfold ku at l;split at l
 .ext d B G F;cases l;have k:=k rfl;let⟨j,l2⟩:=cL _ G;let⟨i,l4⟩:=ig (λ w d e=>cL 60 e) F;have L:D8 X.K H vs B:=ie (λ w v d _ q e=>gI r _ q e) t F;let⟨as,h⟩:=I.reads (gI r _ S G) P;have z:X.A.units+1+min (PyData.depthAll B) d.depth<cLine:=by
   have:min (PyData.depthAll B) d.depth<=d.depth:=Nat.min_le_right _ _;have:=T.un;omega
  rcases g with g | g
  .let⟨Z,f⟩:=I.reads (Dt.lst g L) (u:=Value.ref a) rfl;cases b with
   |false=>exact SeqAt.in_list_reads f h i j z ⟨.bl _,H,I,rfl,k⟩
   |true=>exact SeqAt.notIn_list_reads f h i j z ⟨.bl _,H,I,rfl,k⟩
  .let⟨Z,f⟩:=I.reads (Dt.tup g L) (u:=Value.ref a) rfl;cases b with
   |false=>exact SeqAt.in_tuple_reads f h i j z ⟨.bl _,H,I,rfl,k⟩
   |true=>exact SeqAt.notIn_tuple_reads f h i j z ⟨.bl _,H,I,rfl,k⟩
 .cases l
theorem aS.ints{K:ae}:∀ns:List Int,aS K J H (ns.map W.int) (ns.map V.int)
 | []=>.nil
 |i::r=>.cons (.int i) (aS.ints r)
theorem aS.jf{K:ae}:∀{ws:List W} {vs:List V} {ns:List Int},aS K J H ws vs->D.jf ws=some ns->vs=ns.map V.int
 |_,_,_,.nil,h=>by cases h;rfl
 |_,_,_,.cons (w:=w) q t,h=>by
  cases w with
  |int i=>
   erw[D.jf,P9] at h;let⟨r,a,rfl⟩:=h;cases q;rw[t.jf a];rfl
  |_=>cases h
theorem rP{K:ae}{k:L2.Key}(q:RW K J H w v)(e:zw w=some k):v=kV k:=by
 cases q with
 |int i=>cases e;rfl
 |str x=>cases e;rfl
 |_=>cases e
theorem Kw(i:UN X cl):gf X (compareOp .In) (CM X cl λ x y m=>(qX m x y).bind λ c m=>.ok (.bl c) m):=by
 rintro A s Y H x y v u Q I f b ⟨J,m,N,M,w,Z,r,h,g,e,k⟩;let⟨c,U,a,G⟩:=R.ah e;cases G;unfold qX at a;split at a
 .split at a
  .cases a;cases h;cases g;exact wM A s Y H _ _ v u Q I f b ⟨_,_,rfl,rfl,k _ _ _ Ext.refl r (.bl _)⟩
  .cases a
 .ext n;split at a
  .ext L j;exact jS i false I f b r h g (by simp[aP,getL,j]) a λ z=>by subst z;exact k _ _ _ Ext.refl r (.bl _)
  .ext ks j;split at a
   .ext B F;cases a;cases g with
    |ref l=>
     let⟨S,q,C⟩:=r.obj j l;rw[i.P,i.w] at q;refine xm A s Y H _ _ v u Q I f b ⟨_,S,_,B,rfl,rP h F,q,?_⟩;rw[C];exact k _ _ _ Ext.refl r (.bl _)
   .cases a
  .ext fs j;split at a
   .ext z;cases a;cases h;cases g with
    |ref l=>
     let⟨E,D,t⟩:=r.obj j l;cases b;refine MY (o:=E.lookup z) (by have:=i.un;omega) I (by rw[<-jR];exact .k (k:=.inr z) D) f λ T K=>⟨.bl _,H,K,rfl,?_⟩;rw[<-t.look.1];exact k _ _ _ Ext.refl r (.bl _)
   .cases a
  .cases a
 .exact jS i false I f b r h g rfl a λ z=>by subst z;exact k _ _ _ Ext.refl r (.bl _)
 .exact jS i false I f b r h g rfl a λ z=>by subst z;exact k _ _ _ Ext.refl r (.bl _)
 .cases a
theorem vo{K:ae}(q:RW K J H w v):decide (v=.non)=lQ w:=by
 cases q<;>first | rfl | exact QH (λ z=>nomatch z)
theorem jT(l:UN X cl)(F:CmpOp):gf X (compareOp F) (CM X cl λ x y m=>(aE F x y m).bind λ c m=>.ok (.bl c) m):=by
 cases F with
 |Eq=>exact Ku l
 |NotEq=>exact Kv l
 |Lt=>
  rintro j s Y H x y v u Q I f b ⟨J,m,A,q,w,C,r,h,g,e,k⟩;let⟨c,B,a,i⟩:=R.ah e;cases i;unfold aE at a;dsimp only at a;split at a
  .cases a;cases h;cases g;exact JV j s Y H _ _ v u Q I f b ⟨_,_,rfl,rfl,k _ _ _ Ext.refl r (.bl _)⟩
  .cases a
 |LtE=>
  rintro j s Y H x y v u Q I f b ⟨J,m,A,q,w,C,r,h,g,e,k⟩;let⟨c,B,a,i⟩:=R.ah e;cases i;unfold aE at a;dsimp only at a;split at a
  .cases a;cases h;cases g;exact JW j s Y H _ _ v u Q I f b ⟨_,_,rfl,rfl,k _ _ _ Ext.refl r (.bl _)⟩
  .cases a;cases h;cases g;exact xq j s Y H _ _ v u Q I f b ⟨_,_,rfl,rfl,k _ _ _ Ext.refl r (.bl _)⟩
  .cases a
 |Gt=>
  rintro j s Y H x y v u Q I f b ⟨J,m,A,q,w,C,r,h,g,e,k⟩;let⟨c,B,a,i⟩:=R.ah e;cases i;unfold aE at a;dsimp only at a;split at a
  .cases a;cases h;cases g;exact JX j s Y H _ _ v u Q I f b ⟨_,_,rfl,rfl,k _ _ _ Ext.refl r (.bl _)⟩
  .cases a
 |GtE=>
  rintro j s Y H x y v u Q I f b ⟨J,m,A,q,w,C,r,h,g,e,k⟩;let⟨c,B,a,i⟩:=R.ah e;cases i;unfold aE at a;dsimp only at a;split at a
  .cases a;cases h;cases g;exact JY j s Y H _ _ v u Q I f b ⟨_,_,rfl,rfl,k _ _ _ Ext.refl r (.bl _)⟩
  .cases a
 |Is=>
  rintro j s Y H x y v u Q I f b ⟨J,m,A,q,w,C,r,h,g,e,k⟩;let⟨c,B,a,i⟩:=R.ah e;cases i;unfold aE at a;dsimp only at a;split at a
  .cases a;cases g;refine FP j s Y H _ _ v u Q I f b ⟨rfl,?_⟩;rw[vo h];exact k _ _ _ Ext.refl r (.bl _)
  .cases a
 |IsNot=>
  rintro j s Y H x y v u Q I f b ⟨J,m,A,q,w,C,r,h,g,e,k⟩;let⟨c,B,a,i⟩:=R.ah e;cases i;unfold aE at a;dsimp only at a;split at a
  .cases a;cases g;refine BO j s Y H _ _ v u Q I f b ⟨rfl,?_⟩;rw[vo h];exact k _ _ _ Ext.refl r (.bl _)
  .cases a
 |In=>exact Kw l
 |NotIn=>
  rintro j s Y H x y v u Q I f b ⟨J,m,A,q,w,C,r,h,g,e,k⟩;let⟨c,B,a,i⟩:=R.ah e;cases i;unfold aE at a;dsimp only at a;split at a
  .ext n;split at a
   .ext T G;let⟨L,K,E,D⟩:=R.ah a;cases D;exact jS l true I f b r h g (by simp[aP,getL,G]) E λ z=>by subst z;exact k _ _ _ Ext.refl r (.bl _)
   .ext Z G;split at a
    .ext z;cases a;cases h;cases g with
     |ref N=>
      let⟨P,M,t⟩:=r.obj G N;cases b;refine B9 (o:=P.lookup z) (by have:=l.un;omega) I (by rw[<-jR];exact .k (k:=.inr z) M) f λ U S=>⟨.bl _,H,S,rfl,?_⟩;rw[<-t.look.1];exact k _ _ _ Ext.refl r (.bl _)
    .cases a
   .cases a
  .let⟨L,K,E,D⟩:=R.ah a;cases D;exact jS l true I f b r h g rfl E λ z=>by subst z;exact k _ _ _ Ext.refl r (.bl _)
  .let⟨L,K,E,D⟩:=R.ah a;cases D;exact jS l true I f b r h g rfl E λ z=>by subst z;exact k _ _ _ Ext.refl r (.bl _)
  .cases a
theorem CO{K:ae}{i:Int}(t:aS K J H ws vs)(e:uY ws i=some w):∃v,uY vs i=some v/\RW K J H w v:=by
 unfold uY at e ⊢;rw[<-t.length];cases h:yu ws.length i with
 |none=>rw[h] at e;cases e
 |some j=>rw[h] at e;exact t.get e
theorem GK:FY X (CM X cl aT):=by
 intro b f D s Y H x y v u Q I q l h B;let⟨J,m,S,R,w,T,r,F,E,e,k⟩:=h;unfold aT at e;split at e
 .ext i;split at e
  .split at e
   .ext K;split at e
    .ext c j;cases e;cases F;cases E;exact F7 b f D s Y H _ _ v u Q I q l ⟨_,_,_,rfl,rfl,Qk K bS,j,k _ _ _ Ext.refl r (.str _)⟩ B
    .cases e
   .cases e
  .split at e
   .ext ws N;split at e
    .ext G j;cases e;cases E;let⟨a,vs,rfl,g,t⟩:=r.aP F N;let⟨z,C,A⟩:=CO t j;rcases g with g | g
     .exact B0 b f D s Y H _ _ v u Q I q l ⟨_,_,_,_,rfl,rfl,g,C,k _ _ _ Ext.refl r A⟩ B
     .exact F6 b f D s Y H _ _ v u Q I q l ⟨_,_,_,_,rfl,rfl,g,C,k _ _ _ Ext.refl r A⟩ B
    .cases e
   .cases e
 .split at e
  .split at e
   .ext Z P;split at e
    .ext G j;cases e;cases E;cases F with
     |ref M=>
      let⟨U,L,t⟩:=r.obj P M;let⟨z,C,A⟩:=t.look.2 _ j;exact GI b f D s Y H _ _ v u Q I q l ⟨_,_,_,_,rfl,rfl,L,C,k _ _ _ Ext.refl r A⟩ B
    .cases e
   .cases e
  .cases e
 .cases e
end
end D
end
section
namespace HT
open PySem PyProof.Rows List
open PySem.SeqAt List
open PySem.AutoSeq1 (wpAny_loadPart')
open PySem.MeetsSeq PySem.MeetsSeq2 PySem.MeetsSeq3 List
section
variable{prog:Program}{w:World}{A:Around}{E:Value->Shared->Prop}{s:Shared}
theorem iQ{t sl:Addr}{a:Array Value}{g f:Value}{lo hi:Option Int}{Q:Value->Shared->Prop}(c:IsTup s.heap t a)(i:s.heap.IsSliceOf sl g f .none)(k:IsPart g lo)(j:IsPart f hi)
  (o:cj a.size 0 lo=0) (n:cj a.size a.size hi=a.size) (h:Q (.ref t) s):wpAny (model prog w) A (getItem (.ref t) (.ref sl)) Q E s:=by
 let⟨l,d,e,m⟩:=id i;have p:s.TypeIs (.ref sl) "slice":=⟨l,d,e⟩;unfold getItem
 try with_reducible refine Q9 ?_
 first | refine Qa (Qj ?_) | skip
 refine Qa (wpAny_sequenceKey c.typeIs 'd' ?_);refine Qa (Rg (name:=Str.ofString "__getitem__") c.typeIs Rv
  (RX Rv c.typeIs entry_tuple_getitem ?_ (args_tuple_getitem _ _)))
 show wpAny _ _ (Builtin.Tuple.tupleItemsOf (.ref t) >>= _) _ _ s;refine Qa (tupleItemsOf_ c ?_);refine Qa (UJ p ?_);rw[Qn 'd'];refine Qa (gh i k j ?_);have b:(((cj a.size 0 lo:Nat):Int)==0&&(1:Int)==1&&(cj a.size a.size hi - cj a.size 0 lo)==a.size)=true:=by
  rw[o,n];simp
 show wpAny _ _ (if (((cj a.size 0 lo:Nat):Int)==0&&(1:Int)==1&&(cj a.size a.size hi - cj a.size 0 lo)==a.size)=true then _ else _) _ _ s;rw[Qn b];refine Qa ?_;unfold Builtin.Tuple.tupleIsExact;refine Qa (UJ c.typeIs (Qj ?_));rw[Qn 'd'];exact Qa (Ui (Qj ⟨_,rfl,Qj h⟩))
end
end HT
namespace L2
open PySem PySem.Spec PyProof.Rows List
theorem CP{X:Cx}:Ip X (λ x lo hi H Q=>∃a xs,x=.ref a/\ef X.K H a xs/\(HT.cj xs.length 0 lo=0/\HT.cj xs.length xs.length hi=xs.length)/\Q (.ref a) H):=by
 intro p s Y H x v m l lo hi n Q I f k i g h;let⟨a,xs,rfl,j,d,q⟩:=h;cases f;let⟨c,r,e,o⟩:=I.tuple j;have b:c.toArray.size=xs.length:=by rw[Qi];exact r.length.symm
 refine⟨"tuple",_,PyProof.Rows.slot_tuple_getitem.lookup,e.typeIs,?_⟩;exact HT.iQ e k i g (by rw[b];exact d.1) (by rw[b];exact d.2) ⟨.ref a,H,I,rfl,q⟩
end L2
end
section
namespace D
open PySem PySem.Spec PyProof.Rows L2 List
variable{ds:Es}{es:List Expr}{j:Nat}
section
variable{X:L2.Cx}{cl:Cl}{C:D.Cx}{pos:Pos}
theorem ou{i:Nat}{x:Str}(d:X.N[i]?=some x)(b:DU X.env.scope x)(c:(x==("__debug__":Str))=false)(a:(x==("__classdict__":Str))=false):PE X (.Name x pos) (SE X cl (ao C (.var i))):=by
 refine PE.imp (sX d b c a) ?_;rintro Y H Q ⟨J,Z,m,w,n,r,l,e,k⟩;erw[bu] at e;split at e
 .ext h g;cases e;let⟨v,f,q⟩:=l.at_ g;exact⟨v,f,k _ _ _ Ext.refl r q⟩
 .cases e
theorem Eg{i:Int}:PE X (.Constant (.int i) j pos) (SE X cl (ao C (.cst (.int i)))):=by
 refine PE.imp E9 ?_;rintro Y H Q ⟨J,Z,m,w,a,r,l,e,k⟩;erw[bB] at e;cases e;exact k _ _ _ Ext.refl r (.int i)
theorem Ky{i:Bool}:PE X (.Constant (.bool i) j pos) (SE X cl (ao C (.cst (.bl i)))):=by
 refine PE.imp JF ?_;rintro Y H Q ⟨J,Z,m,w,a,r,l,e,k⟩;erw[bB] at e;cases e;exact k _ _ _ Ext.refl r (.bl i)
theorem Eh:PE X (.Constant .none j pos) (SE X cl (ao C (.cst .non))):=by
 refine PE.imp Fb ?_;rintro Y H Q ⟨J,Z,m,w,a,r,l,e,k⟩;erw[bB] at e;cases e;exact k _ _ _ Ext.refl r .non
theorem Ei{x:Str}:PE X (.Constant (.str x) j pos) (SE X cl (ao C (.cst (.str x)))):=by
 refine PE.imp yF ?_;rintro Y H Q ⟨J,Z,m,w,a,r,l,e,k⟩;erw[bB] at e;cases e;exact k _ _ _ Ext.refl r (.str x)
theorem Ej{x:Str}{w:W}(a:Gl X x)(h:∃u v,X.mg x=some u/\RelV v u/\∀J H,RW X.K J H w v)(b:(x==("__debug__":Str))=false):PE X (.Name x pos) (SE X cl (ao C (.cst w))):=by
 let⟨u,v,f,d,c⟩:=h;refine PE.imp (ja a f d b) ?_;rintro Y H Q ⟨J,Z,m,w,g,r,l,e,k⟩;erw[bB] at e;cases e;exact k _ _ _ Ext.refl r (c _ _)
variable{a b c:Expr}{da db dc:E}
theorem Kz{i:Operator}(I:PE X a (SE X cl (ao C da)))(G:PE X b (SE X cl (ao C db))):PE X (.BinOp a i b pos) (SE X cl (ao C (.bin i da db))):=by
 refine PE.imp (JR (GJ (cl:=cl) i) I G) ?_;rintro Y H Q ⟨J,Z,m,w,F,r,l,e,k⟩;erw[cH] at e;let⟨x,s,L,e⟩:=R.ah e;let⟨y,q,K,e⟩:=R.ah e;refine⟨J,Z,m,x,s,r,l,L,fun g S O o h B=>?_⟩;refine⟨g,Z,s,y,q,h,l.mono r o,K,fun f P N n p A=>?_⟩;exact⟨f,q,x,y,w,F,p,B.mono h n,A,e,fun d M v t u z=>k d M v ((o.trans h n).trans p t) u z⟩
theorem KA{d:CmpOp}(G:UN X cl)(L:PE X a (SE X cl (ao C da)))(K:PE X b (SE X cl (ao C db)))(I:behindInMarks d b=false):PE X (.Compare a [d] [b] pos) (SE X cl (ao C (.cmp d da db))):=by
 refine PE.imp (uR (jT (cl:=cl) G d) L K I) ?_;rintro Y H Q ⟨J,Z,m,w,F,r,l,e,k⟩;erw[fV] at e;let⟨x,s,N,e⟩:=R.ah e;let⟨y,q,M,e⟩:=R.ah e;refine⟨J,Z,m,x,s,r,l,N,fun h U S o i B=>?_⟩;refine⟨h,Z,s,y,q,i,l.mono r o,M,fun g T P n p A=>?_⟩;exact⟨g,q,x,y,w,F,p,B.mono i n,A,e,fun f O v t u z=>k f O v ((o.trans i n).trans p t) u z⟩
theorem KC{d:CmpOp}(G:UN X cl)(L:PE X a (SE X cl (ao C da)))(K:PE X b (SE X cl (ao C db)))(I:behindInMarks d b=false):PT X (.Compare a [d] [b] pos) (ST X cl (br C (.cmp d da db))):=by
 refine PT.imp (uT (jT (cl:=cl) G d) L K I) ?_;rintro Y H Q ⟨J,Z,m,w,F,r,l,e,k⟩;erw[aX] at e;let⟨x,s,N,e⟩:=R.ah e;let⟨y,q,M,e⟩:=R.ah e;refine⟨J,Z,m,x,s,r,l,N,fun h U S o i B=>?_⟩;refine⟨h,Z,s,y,q,i,l.mono r o,M,fun g T P n p A=>?_⟩;refine⟨g,q,x,y,.bl w,F,p,B.mono i n,A,by rw[e];rfl,fun f O v t u z=>?_⟩;cases z;exact⟨w,rfl,k f O ((o.trans i n).trans p t) u⟩
theorem KD(n:PE X a (SE X cl (ao C da))):PE X (.UnaryOp .USub a pos) (SE X cl (ao C (.neg da))):=by
 refine PE.imp (JS FO n) ?_;rintro Y H Q ⟨J,Z,m,w,q,r,l,e,k⟩;erw[ji] at e;let⟨x,i,o,e⟩:=R.ah e;refine⟨J,Z,m,x,i,r,l,o,fun d s p f g h=>?_⟩;split at e
 .cases e;cases h;exact⟨_,rfl,k _ _ _ f g (.int _)⟩
 .cases e
theorem Ek(n:PE X a (SE X cl (ao C da))):PE X (.UnaryOp .Not a pos) (SE X cl (ao C (.not da))):=by
 refine PE.imp (Fg n) ?_;rintro Y H Q ⟨J,Z,m,w,q,r,l,e,k⟩;erw[gk] at e;let⟨x,i,o,e⟩:=R.ah e;refine⟨J,Z,m,x,i,r,l,o,fun d s p f g h=>?_⟩;split at e
 .cases e;cases h;exact⟨_,rfl,k _ _ _ f g (.bl _)⟩
 .cases e
theorem El(h:PT X a (ST X cl (br C da))):PT X (.UnaryOp .Not a pos) (ST X cl (br C (.not da))):=by
 refine PT.imp (Fe h) ?_;rintro Y H Q ⟨J,Z,m,w,o,r,l,e,k⟩;erw[dI] at e;let⟨x,n,i,e⟩:=R.ah e;cases e;exact⟨J,Z,m,x,_,r,l,i,fun d p f g=>k _ _ f g⟩
variable{rest:List Expr}
theorem KG(v:PE X a (SE X cl (ao C da)))(u:PE X (.BoolOp .And (b::rest) pos) (SE X cl (ao C db))):PE X (.BoolOp .And (a::b::rest) pos) (SE X cl (ao C (.and da db))):=by
 refine PE.imp (Ff v u) ?_;rintro Y H Q ⟨J,Z,m,w,t,r,l,e,k⟩;erw[fk] at e;let⟨x,i,y,e⟩:=R.ah e;refine⟨J,Z,m,x,i,r,l,y,fun d F A f g s=>?_⟩;split at e
 .ext c;cases s;refine⟨c,rfl,?_⟩;split at e
  .ext h;rw[Qn h];exact⟨d,Z,i,w,t,g,l.mono r f,e,fun n B z o p q=>k _ _ _ (f.trans g o) p q⟩
  .ext h;rw[Qu h];cases e;exact k _ _ _ f g (.bl _)
 .cases e
theorem w_and(t:PT X a (ST X cl (br C da)))(s:PW X (.BoolOp .And (b::rest) pos) (ST X cl (br C db))):PW X (.BoolOp .And (a::b::rest) pos) (ST X cl (br C (.and da db))):=by
 refine PW.imp (Fd t s) ?_;rintro Y H Q ⟨J,Z,m,w,q,r,l,e,k⟩;erw[dH] at e;let⟨x,i,u,e⟩:=R.ah e;refine⟨J,Z,m,x,i,r,l,u,fun d y f g=>?_⟩;split at e
 .ext h;rw[Qn h];exact⟨d,Z,i,w,q,g,l.mono r f,e,fun n v o p=>k _ _ (f.trans g o) p⟩
 .ext h;rw[Qu h];cases e;exact k _ _ f g
theorem w_or(t:PT X a (ST X cl (br C da)))(s:PW X (.BoolOp .Or (b::rest) pos) (ST X cl (br C db))):PW X (.BoolOp .Or (a::b::rest) pos) (ST X cl (br C (.or da db))):=by
 refine PW.imp (JG t s) ?_;rintro Y H Q ⟨J,Z,m,w,q,r,l,e,k⟩;erw[fS] at e;let⟨x,i,u,e⟩:=R.ah e;refine⟨J,Z,m,x,i,r,l,u,fun d y f g=>?_⟩;split at e
 .ext h;rw[Qn h];cases e;exact k _ _ f g
 .ext h;rw[Qu h];exact⟨d,Z,i,w,q,g,l.mono r f,e,fun n v o p=>k _ _ (f.trans g o) p⟩
theorem ow{K:ae}{J:List Addr}{m d:Mem}{H:Hp}{w:W}{v:V}{b:Bool}(r:Rel K cl J m H)(q:RW K J H w v)(e:truthy m w=.ok b d):d=m/\BP K v H b:=by
 cases q with
 |non=>cases e;exact⟨rfl,rfl⟩
 |bl c=>cases e;exact⟨rfl,rfl⟩
 |int i=>cases e;exact⟨rfl,rfl⟩
 |str x=>
  erw[truthy] at e;split at e
  .ext h;cases e;exact⟨rfl,Qk h bS,rfl⟩
  .cases e
 |tup h t=>
  cases e;refine⟨rfl,.inr (.inl ⟨_,h,?_⟩)⟩;cases t<;>rfl
 |fz h t=>
  cases e;refine⟨rfl,.inl ⟨_,h.l,?_⟩⟩;cases t<;>rfl
 |obj h o t=>cases e
 |ref h=>
  erw[truthy] at e;split at e
  .ext k g;cases e;let⟨a,n,z,f,t⟩:=r.getL (.ref h) g;cases z;refine⟨rfl,.inl ⟨_,f,?_⟩⟩;cases t<;>rfl
  .cases e
theorem GL{ta tb:TE}(q:PE X a ta)(p:PE X (.BoolOp .Or (b::rest) pos) tb):PE X (.BoolOp .Or (a::b::rest) pos) (fun Y H Q=>ta Y H λ x d=>∃k,BP X.K x d k/\if k=true then Q x d else tb Y d Q):=by
 intro g s Y H Q I h;refine BoolOp_or (bP (q g s Y H _ I h) λ v n ⟨x,d,u,i,e⟩=>?_);let⟨k,o,e⟩:=e;refine bP (yP g n Y d x v (λ c f=>f=d/\c=k) u i ⟨k,o,rfl,rfl⟩) λ c m ⟨f,l,t,r⟩=>?_;subst t r;cases c with
 |false=>exact p g m Y f Q l e
 |true=>exact⟨x,f,l,i,e⟩
theorem Nr(y:PE X a (SE X cl (ao C da)))(v:PE X (.BoolOp .Or (b::rest) pos) (SE X cl (ao C db))):PE X (.BoolOp .Or (a::b::rest) pos) (SE X cl (ao C (.or da db))):=by
 refine PE.imp (GL y v) ?_;rintro Y H Q ⟨J,Z,m,w,t,r,l,e,k⟩;erw[jN] at e;let⟨x,n,B,e⟩:=R.ah e;let⟨c,I,A,h⟩:=R.ah e;refine⟨J,Z,m,x,n,r,l,B,fun f L G g d i=>?_⟩;let⟨z,u⟩:=ow d i A;rw[z] at h;refine⟨c,u,?_⟩;cases c with
 |true=>
  cases h;exact k _ _ _ g d i
 |false=>
  exact⟨f,Z,n,w,t,d,l.mono r g,h,fun o K F p q s=>k _ _ _ (g.trans d p) q s⟩
theorem Em(q:PE X a (SE X cl (ao C da)))(o:∀d,isTrue a X.env d=(do let v <-d;standAt a.pos;holding [v] (PySem.truthy v)))(p:∀Z m,br C da Z m=(ao C da Z m).bind λ w m=>D.truthy m w):PT X a (ST X cl (br C da)):=by
 refine PT.imp (yQ q o) ?_;rintro Y H Q ⟨J,Z,m,w,u,r,l,e,k⟩;rw[p] at e;let⟨x,n,s,e⟩:=R.ah e;refine⟨J,Z,m,x,n,r,l,s,fun g y t h f i=>?_⟩;let⟨rfl,z⟩:=ow f i e;exact⟨w,z,k _ _ h f⟩
theorem KH{t:Expr}{u:E}(y:PT X t (ST X cl (br C u)))(A:PE X a (SE X cl (ao C da)))(z:PE X b (SE X cl (ao C db))):PE X (.IfExp t a b pos) (SE X cl (ao C (.ife u da db))):=by
 refine PE.imp (yH y A z) ?_;rintro Y H Q ⟨J,Z,m,w,s,r,l,e,k⟩;erw[bT] at e;let⟨x,p,B,e⟩:=R.ah e;refine⟨J,Z,m,x,p,r,l,B,fun d G f g=>?_⟩;split at e
 .ext q;rw[Qn q];exact⟨d,Z,p,w,s,g,l.mono r f,e,fun h F v i n o=>k _ _ _ (f.trans g i) n o⟩
 .ext q;rw[Qu q];exact⟨d,Z,p,w,s,g,l.mono r f,e,fun h F v i n o=>k _ _ _ (f.trans g i) n o⟩
theorem CQ{i o2:CmpOp}(hu:UN X cl)(ha:PE X a (SE X cl (ao C da)))(hb:PE X b (SE X cl (ao C db)))(n:PE X c (SE X cl (ao C dc)))
  (h:PE X (.Compare a [i,o2] [b,c] pos) (tB (CM X cl λ x y m=>(aE i x y m).bind λ c m=>.ok (.bl c) m) (CM X cl λ x y m=>(aE o2 x y m).bind λ c m=>.ok (.bl c) m) (SE X cl (ao C da)) (SE X cl (ao C db)) (SE X cl (ao C dc)))) :
  PE X (.Compare a [i,o2] [b,c] pos) (SE X cl (ao C (.chain i o2 da db dc))):=by
 refine PE.imp h ?_;rintro Y H Q ⟨J,Z,m,w,m',r,l,e,k⟩;erw[bY] at e;let⟨x,M,e1,e⟩:=R.ah e;let⟨y,L,e2,e⟩:=R.ah e;let⟨z,K,e3,e⟩:=R.ah e;refine⟨J,Z,m,x,M,r,l,e1,fun s H1 v1 A g W=>?_⟩;refine⟨s,Z,M,y,L,g,l.mono r A,e2,fun q H2 v2 v f G=>?_⟩;have l2:=(l.mono r A).mono g v;refine⟨q,L,x,y,.bl z,K,f,W.mono g v,G,by rw[e3];rfl,fun p H3 v3 t d V=>?_⟩;cases V;refine⟨z,rfl,?_⟩;have N:=(A.trans g v).trans f t;split at e
 .ext n;rw[Qn n];let⟨u,I,e4,e⟩:=R.ah e;refine⟨p,Z,K,u,I,d,l2.mono f t,e4,fun o H4 v4 B F U=>?_⟩;exact⟨o,I,y,u,w,m',F,(G.mono f t).mono d B,U,e,fun O H5 v5 P S T=>k _ _ _ ((N.trans d B).trans F P) S T⟩
 .ext n;rw[Qu n];cases e;exact k _ _ _ N d (.bl _)
theorem KJ:PA X [] (SA X cl (bh C .nil)):=by
 refine PA.imp gB ?_;rintro Y H Q ⟨J,Z,m,w,d,r,l,e,k⟩;erw[fG] at e;cases e;exact k _ _ _ Ext.refl r .nil
theorem GN{d:E}(v:PE X a (SE X cl (ao C d)))(u:PA X es (SA X cl (bh C ds)))(t:starEach (a::es) X.env=(false,eval a X.env)::starEach es X.env):PA X (a::es) (SA X cl (bh C (.cons d ds))):=by
 refine PA.imp (dm v u t) ?_;rintro Y H Q ⟨J,Z,m,w,I,r,l,e,k⟩;erw[fG] at e;let⟨x,n,A,e⟩:=R.ah e;let⟨y,G,z,e⟩:=R.ah e;cases e;refine⟨J,Z,m,x,n,r,l,A,fun f L F i g s=>?_⟩;exact⟨f,Z,n,y,_,g,l.mono r i,z,fun o K B h p q=>k _ _ _ (i.trans g h) p (.cons (s.mono g h) q)⟩
theorem En{d}(ha:PA X es (SA X cl (bh C ds))):PE X (.Tuple es d pos) (SE X cl (ao C (.tup ds))):=by
 refine PE.imp (yV ha) ?_;rintro Y H Q ⟨J,Z,m,w,v,r,l,e,k⟩;erw[dY] at e;let⟨x,u,t,e⟩:=R.ah e;split at e
 .ext s;cases e;refine⟨J,Z,m,x,_,r,l,t,fun i y n d f h=>⟨by rw[<-h.length];exact Qk s bS,λ p q=>?_⟩⟩;let⟨g,o⟩:=f.pZ q n;exact k _ _ _ (d.trans f g) o (.tup (.of aB) (h.mono f g))
 .cases e
theorem Eo(s:PA X es (SA X cl (bh C ds))):PE X (.List es pos) (SE X cl (ao C (.lst ds))):=by
 refine PE.imp (FT s) ?_;rintro Y H Q ⟨J,Z,m,w,y,r,l,e,k⟩;erw[cY] at e;let⟨x,v,t,e⟩:=R.ah e;split at e
 .ext q;cases e;refine⟨J,Z,m,x,_,r,l,t,fun g z u i d f=>⟨by rw[<-f.length];exact Qk q bS,λ p o=>?_⟩⟩;let⟨h,n⟩:=d.newL o f;exact k _ _ _ (i.trans d h) n (.ref (d.last p))
 .cases e
theorem KL(I:PE X a (SE X cl (ao C da)))(G:PE X b (SE X cl (ao C db)))(F:kO b):PE X (.Subscript a b pos) (SE X cl (ao C (.idx da db))):=by
 refine PE.imp (D3 (GK (cl:=cl)) I G F) ?_;rintro Y H Q ⟨J,Z,m,w,B,r,l,e,k⟩;erw[bU] at e;let⟨x,q,L,e⟩:=R.ah e;let⟨y,p,K,e⟩:=R.ah e;refine⟨J,Z,m,x,q,r,l,L,fun g S O n h A=>?_⟩;refine⟨g,Z,q,y,p,h,l.mono r n,K,fun f P N i o z=>?_⟩;exact⟨f,p,x,y,w,B,o,A.mono h i,z,e,fun d M v s t u=>k d M v ((n.trans h i).trans o s) t u⟩
theorem GO:PO X none (Iw X cl (zD C .none)):=by
 refine PO.imp BX ?_;rintro Y H Q ⟨J,Z,m,w,d,r,l,e,k⟩;erw[Eb] at e;cases e;exact k _ _ Ext.refl r
theorem GP(n:PE X a (SE X cl (ao C da))):PO X (some a) (Iw X cl (zD C (.some da))):=by
 refine PO.imp (BY n) ?_;rintro Y H Q ⟨J,Z,m,w,q,r,l,e,k⟩;erw[Eb] at e;let⟨x,i,o,e⟩:=R.ah e;refine⟨J,Z,m,x,i,r,l,o,fun d s p f g h=>?_⟩;split at e
 .cases e;cases h;exact⟨_,rfl,k _ _ f g⟩
 .cases e
theorem vp{K:ae}{J:List Addr}{H:Hp}{ws:List W}{vs:List V}{lo hi:Option Int}(t:aS K J H ws vs):aS K J H (pQ ws lo hi) (pG vs lo hi):=by
 unfold pQ pG;rw[<-t.length];exact(t.drop _).take _
theorem GQ:Ip X (λ x lo hi H Q=>∃J m G w M,Rel X.K cl J m H/\RW X.K J H G x/\cW G lo hi m=.ok w M/\∀P B v,Ext J H P B->Rel X.K cl P M B->RW X.K P B w v->Q v B):=by
 intro A s Y H x v i g lo hi l Q I n z u o h;let⟨J,m,G,w,M,r,q,e,k⟩:=h;unfold cW at e;split at e
 .cases e;cases q with
  |tup h t=>
   ext F a d
   by_cases y:HT.cj d.length 0 lo=0/\HT.cj d.length d.length hi=d.length
   .refine CP A s Y H _ v i g lo hi l Q I n z u o ⟨_,_,rfl,h,y,k _ _ _ Ext.refl r ?_⟩;have:pQ F lo hi=F:=by
     unfold pQ;rw[t.length,y.1,y.2,<-t.length];simp
    rw[this];exact .tup h t
   .refine FW A s Y H _ v i g lo hi l Q I n z u o ⟨_,_,rfl,h,y,λ p O=>?_⟩;let⟨f,L⟩:=r.pZ O (pG _ lo hi);exact k _ _ _ f L (.tup (.of aB) ((vp t).mono r f))
 .split at e
  .ext R;cases e;cases q;exact Gr A s Y H _ v i g lo hi l Q I n z u o ⟨_,rfl,Qk R bS,k _ _ _ Ext.refl r (.str _)⟩
  .cases e
 .split at e
  .ext F S;cases e;let⟨a,d,rfl,N,t⟩:=r.getL q S;refine B5 A s Y H _ v i g lo hi l Q I n z u o ⟨_,_,rfl,N,λ p O=>?_⟩;let⟨f,L⟩:=r.newL O (vp t);exact k _ _ _ f L (.ref (r.last p))
  .cases e
theorem KN{lo hi:Option Expr}{A B:Oe}{M:Pos}(S:PE X a (SE X cl (ao C da)))(O:PO X lo (Iw X cl (zD C A)))(P:PO X hi (Iw X cl (zD C B))):PE X (.Subscript a (.Slice lo hi none M) pos) (SE X cl (ao C (.slc da A B))):=by
 refine PE.imp (y9 (GQ (cl:=cl)) S O P) ?_;rintro Y H Q ⟨J,Z,m,w,N,r,l,e,k⟩;erw[fy] at e;let⟨x,u,V,e⟩:=R.ah e;let⟨y,t,U,e⟩:=R.ah e;let⟨z,s,T,e⟩:=R.ah e;refine⟨J,Z,m,x,u,r,l,V,fun h H1 W n d L=>?_⟩;refine⟨h,Z,u,y,t,d,l.mono r n,U,fun g H2 i o=>?_⟩;refine⟨g,Z,t,z,s,o,(l.mono r n).mono d i,T,fun f H3 p q=>?_⟩;exact⟨f,s,x,w,N,q,(L.mono d i).mono o p,e,fun F H4 v G I K=>k _ _ _ (((n.trans d i).trans o p).trans q G) I K⟩
end
end D
end
section
namespace D
open PySem PySem.Spec PyProof.Rows L2 PySem.W List
def O5(K:ae)(H:Hp)(v:V)(ns:List Int):Prop:=∃a,v=.ref a/\ef K H a (ns.map V.int)
section
variable{X:L2.Cx}
theorem lY(x:Int):∀l,(ins x l).Perm (x::l)
 | []=>.refl _
 |y::r=>by
  unfold ins;split
  .exact((lY x r).cons y).trans (.swap _ _ _)
  .exact .refl _
theorem lZ:∀ns,(Gw ns).Perm ns
 | []=>.refl _
 |x::r=>(lY x _).trans ((lZ r).cons x)
theorem oA(x:Int):∀l:List Int,l.Pairwise (·<=·)->(ins x l).Pairwise (·<=·)
 | [],_=>pairwise_singleton _ _
 |y::r,h=>by
  have h':=TU.mp h;unfold ins;split
  .ext b;exact TU.mpr ⟨λ z a=>(Qv.mp ((lY x r).mem_iff.mp a)).elim (λ e=>e▸Int.le_of_lt b) (h'.1 z),oA x r h'.2⟩
  .ext b;exact TU.mpr ⟨λ z a=>(Qv.mp a).elim (λ e=>e▸Int.not_lt.mp b) λ a=>Int.le_trans (Int.not_lt.mp b) (h'.1 z a),h⟩
theorem oB:∀ns,(Gw ns).Pairwise (·<=·)
 | []=>.nil
 |x::r=>oA x _ (oB r)
theorem GR{ns c:List Int}(e:c.Perm ns)(d:c.Pairwise (·<=·)):c=Gw ns:=
 List.Perm.eq_of_pairwise (λ _ _ _ _ a b=>Int.le_antisymm a b) d (oB ns) (e.trans (lZ ns).symm)
theorem oE:∀{a:List Value} {ns:List Int},IntsAre a ns->Vals (ns.map V.int) a
 |_,_,.nil=>.nil
 |_,_,.cons _ _ t=>.cons ⟨_,rfl⟩ (oE t)
theorem CS:cG X (.builtin "sorted") (λ xs H Q=>∃(p:Addr) (ns:List Int),xs=[.ref p]/\gU X.K H p (ns.map V.int)/\ns.length<64/\∀l,H l=none->Q (.ref l) (upd H l (.lst ((Gw ns).map V.int)))):=by
 intro x s Y H xs w Q I j h;let⟨p,ns,rfl,n,d,q⟩:=h;let⟨u,rfl,i⟩:=vals1 j;cases i;let⟨c,a,k,_⟩:=I.list n;have f:c.length=ns.length:=by rw[<-a.length,Qq]
 refine sorted_ints k.isList (intsAre_of a) (by rw[f];exact d) λ b m g v t=>?_;rw[GR v t] at g;let⟨e,r⟩:=sortedAll_at s.heap c b;refine⟨.ref _,_,I.laid (t':=s.toks) (o:=.lst ((Gw ns).map V.int)) (λ _ _=>sortedAll_old) (Ru _) ⟨?_,b.toList,e,oE g,r⟩,rfl,q _ (I.hok.fresh (Ru _))⟩;rw[Qq,(lZ ns).length_eq];exact Qk (Rl d) (by rw[RP];decide)
end
end D
end
section
namespace D
open PySem PySem.Spec PyProof.Rows L2 List
theorem KO{X:L2.Cx}(o:X.A.handled=none):cG X (.builtin "sum") (λ xs H Q=>∃(p:Addr) (ns:List Int),xs=[.ref p]/\gU X.K H p (ns.map V.int)/\Q (.int ns.sum) H):=by
 intro w s Y H xs r Q I k h;let⟨p,ns,rfl,m,q⟩:=h;let⟨u,rfl,j⟩:=vals1 k;cases j;let⟨b,a,l,_⟩:=I.list m;have g:=intsAre_of a;let⟨xs,c⟩:=g.allInts.items;have d:(numsOf b.toArray.toList)=ns:=g.numsOf;rw[c,nums_intItems] at d;have f:=l.isList;rw[c] at f;refine sum_intListG o f λ v t i n=>?_;have e:preSum (numAt xs) xs.size=ns.sum:=by rw[preSum_eq,S3 's',d]
 rw[e];exact⟨.int ns.sum,H,I.kept n,⟨i,rfl⟩,q⟩
end D
end
section
namespace L2
open PySem PySem.Spec PyProof.Rows List
section
variable{X:Cx}
structure GS(K:ae)(C:Addr):Prop where
 cls:yt K C
 ha:PySem.W.findIn K (.ref C) "__class__"=@(some (.builtin "object.__class__"))
 hn:PySem.W.specialIn K (.builtin "object.__class__") "__get__"=@(some (.builtin "getset_descriptor.__get__"))
 htk:PySem.W.takesIn K (.builtin "object.__class__")=some true
 hm:PySem.W.mroIn K C (.type "object")=some true
end
end L2
end
section
namespace D
open PySem PySem.Spec PyProof.Rows L2 List
variable{C:D.Cx}{H H' H0:Hp}{K:ae}{P:Program}{c f:Str}{d:E}{di ds:Es}{dx:Addr}{e elt iter o target tg:Expr}{env:Env}{es ifs:List Expr}{gens:List Comprehension}{gs:List (Str×V)}{i n:Nat}{it:Value}{m m':Mem}{name:String}{p pos pp:Pos}{aa:List (Addr×Obj)}{rest:G}{s:Shared}{scope:Scope}{st:Stmt}{v:V}{vs:List V}{w:W}{ws:List W}{J J' β0:List Addr}{Z:Loc}{Y:L2.St}
section
variable{X:L2.Cx}{cl:Cl}{C:D.Cx}{pos:Pos}
theorem zT(a:List Bool):((List.range a.length).any λ i=>a.getD i true)=a.any _root_.id:=by
 have e:∀(f g:Nat->Bool) (l:List Nat),(∀i∈l,f i=g i)->l.any f=l.any g:=λ f g l h=>by
  induction l with
  |nil=>rfl
  |cons x r j=>rw[Sz,Sz,h x QM,j λ i k=>h i (QC _ k)]
 induction a with
 |nil=>rfl
 |cons b r j=>
  rw[QO,range_succ_eq_map,Sz,Uk,Sz];have:((List.range r.length).any ((λ i=>(b::r).getD i true)∘Nat.succ))=((List.range r.length).any λ i=>r.getD i true):=e _ _ _ λ i _=>by simp
  rw[this,j];rfl
theorem zU(U:X.A.handled=none):cG X (.builtin "any") (λ xs H Q=>∃(p:Addr) (a:List Bool),xs=[.ref p]/\gU X.K H p (a.map V.bl)/\Q (.bl (a.any _root_.id)) H):=by
 intro aa s Y H xs us Q I r h;let⟨p,a,rfl,S,q⟩:=h;let⟨u,rfl,N⟩:=vals1 r;cases N;let⟨g,y,R,hz⟩:=I.list S;have x:=R.isList;have t:p<s⁻¹:=by let⟨_,e,_⟩:=x;exact Qg e
 have k:=y.length;rw[Qq] at k;refine call_any_walk (SY x ?_);refine⟨_,_,_,_,_,_,(λ i=>a.getD i true),rfl,Walks.list (A:=X.A.in1) U s⁻¹ p (Qo t) g.toArray,⟨⟨_,Qp _ rfl,rfl,rfl⟩,x.push _⟩,?_,?_⟩
 .intro i v s' Q' E' l j;have l:g[i]?=some v:=by simpa using l
  have hi:i<g.length:=(Qc.mp l).1;have F:i<a.length:=by omega
  have e:(a.map V.bl)[i]?=some (V.bl (a[i])):=by simp[F]
  let⟨u,B,O⟩:=y.get e;rw[l] at B;cases B;cases O;have:a.getD i true=a[i]:=by simp[List.getD,F]
  dsimp only at j;rw[this] at j;exact Rb j
 .intro h' M T;have e:((List.range g.toArray.size).any λ i=>a.getD i true)=a.any _root_.id:=by
   rw[Qi,<-k];exact zT a
  rw[e];refine⟨.bl _,H,I.kept (t':=M) λ b o L=>T b o (λ z=>?_) (Qd _ L),rfl,q⟩;rw[QV] at z;exact Qo (Qg L) z
def zV:B->Value
 |.len=>.builtin "len" |.abs=>.builtin "abs" |.max=>.builtin "max" |.min=>.builtin "min" |.divmod=>.builtin "divmod" |.all=>.builtin "all" |.any=>.builtin "any"
 |.list=>.type "list" |.tuple=>.type "tuple" |.int=>.type "int" |.sorted=>.builtin "sorted" |.sum=>.builtin "sum" |.repr=>.builtin "repr" |.str=>.type "str" |.dum=>.builtin "repr"
theorem ir(h:aS K J H [w] vs):∃v,vs=[v]/\RW K J H w v:=by
 cases h with
 |cons q t=>cases t;exact⟨_,rfl,q⟩
theorem CT{b:W}(h:aS K J H [w,b] vs):∃v a,vs=[v,a]/\RW K J H w v/\RW K J H b a:=by
 cases h with
 |cons q t=>let⟨a,rfl,g⟩:=ir t;exact⟨_,_,rfl,q,g⟩
theorem aS.tups:∀{ws:List W} {vs:List V} {b:List (List Int)},aS K J H ws vs->dJ zx ws=some b->Paired (O5 K H) vs b
 |_,_,_,.nil,h=>by cases h;exact .nil
 |_,_,_,.cons (w:=w) q t,h=>by
  erw[dJ] at h;split at h
  .cases h
  .ext d a;split at h
   .cases h
   .ext ds g;cases h;refine .cons ?_ (t.tups g);cases w with
    |tup xs=>
     cases q with
     |tup hs t'=>
      have:=t'.jf a;subst this;exact⟨_,rfl,hs⟩
    |_=>cases a
set_option maxHeartbeats 2000000 in
theorem zW(hu:UN X cl)(T:X.calm=true)(S:X.A.handled=none)(b:B):cG X (zV b) (Oj X cl (aY b)):=by
 intro aa s Y H xs l Q I u h;let⟨J,m,ws,w,m',r,q,e,k⟩:=h;unfold aY at e;split at e
 .split at e
  .
   split at e
   .split at e
    .ext U;cases e;let⟨v,rfl,g⟩:=ir q;cases g;exact pL aa s Y H _ l Q I u ⟨_,rfl,Qk U bS,k _ _ _ Ext.refl r (.int _)⟩
    .cases e
   .split at e
    .ext N y;cases e;let⟨v,rfl,g⟩:=ir q;let⟨a,vs,rfl,j,t⟩:=r.aP g y;exact pK aa s Y H _ l Q I u ⟨_,_,rfl,j,k _ _ _ Ext.refl r (by rw[<-t.length];exact .int _)⟩
    .cases e
  .cases e
 .split at e
  .
   cases e;let⟨v,rfl,g⟩:=ir q;cases g;exact yR aa s Y H _ l Q I u ⟨_,rfl,k _ _ _ Ext.refl r (.int _)⟩
  .cases e
 .split at e
  .cases e;let⟨v,R,rfl,g,x⟩:=CT q;cases g;cases x;exact wN T aa s Y H _ l Q I u ⟨_,_,rfl,k _ _ _ Ext.refl r (.int _)⟩
  .cases e
 .split at e
  .cases e;let⟨v,R,rfl,g,x⟩:=CT q;cases g;cases x;exact wO T aa s Y H _ l Q I u ⟨_,_,rfl,k _ _ _ Ext.refl r (.int _)⟩
  .cases e
 .split at e
  .split at e
   .ext hd;cases e;let⟨v,R,rfl,g,x⟩:=CT q;cases g;cases x;refine qN aa s Y H _ l Q I u ⟨_,_,rfl,hd,λ p M=>?_⟩;let⟨F,L⟩:=r.pZ M [.int _,.int _];exact k _ _ _ F L (.tup (.of aB) %[.int _,|.int _])
   .cases e
  .cases e
 .split at e
  .
   split at e
   .ext N y;split at e
    .ext bs O;cases e;let⟨v,rfl,g⟩:=ir q;let⟨a,vs,rfl,j,t⟩:=r.getL g y;have z:=t.bools O;subst z;exact zm S aa s Y H _ l Q I u ⟨_,_,rfl,j,k _ _ _ Ext.refl r (.bl _)⟩
    .cases e
   .cases e
  .cases e
 .split at e
  .split at e
   .ext N y;split at e
    .ext bs O;cases e;let⟨v,rfl,g⟩:=ir q;let⟨a,vs,rfl,j,t⟩:=r.getL g y;have z:=t.bools O;subst z;exact zU S aa s Y H _ l Q I u ⟨_,_,rfl,j,k _ _ _ Ext.refl r (.bl _)⟩
    .cases e
   .cases e
  .cases e
 .split at e
  .
   split at e
   .ext N y;cases e;let⟨v,rfl,g⟩:=ir q;let⟨a,vs,rfl,j,t⟩:=r.aP g y;refine pM aa s Y H _ l Q I u ⟨_,_,rfl,j,λ p M=>?_⟩;let⟨F,L⟩:=r.newL M t;exact k _ _ _ F L (.ref (r.last p))
   .cases e
  .cases e
 .split at e
  .split at e
   .ext N y;cases e;let⟨v,rfl,g⟩:=ir q;let⟨a,vs,rfl,j,t⟩:=r.aP g y;refine ny aa s Y H _ l Q I u ⟨_,vs,rfl,?_⟩;rcases j with j | j
    .refine .inl ⟨j,λ p M=>?_⟩;let⟨F,L⟩:=r.pZ M vs;exact k _ _ _ F L (.tup (.of aB) (t.mono r F))
    .exact .inr ⟨j,k _ _ _ Ext.refl r (.tup j t)⟩
   .cases e
  .cases e
 .split at e
  .cases e;let⟨v,rfl,g⟩:=ir q;cases g;exact nQ aa s Y H _ l Q I u (.inl ⟨_,rfl,k _ _ _ Ext.refl r (.int _)⟩)
  .cases e;let⟨v,rfl,g⟩:=ir q;cases g;exact nQ aa s Y H _ l Q I u (.inr ⟨_,rfl,k _ _ _ Ext.refl r (.int _)⟩)
  .cases e
 .cases e
theorem GU{x:Str}{b:B}{u:String}{a:Expr}(O:UN X cl)(hc:X.calm=true)(U:X.A.handled=none)(hb:zV b=.builtin u)(hg:Gl X x)(T:X.mg x=none)(N:bootBuiltins x=@(.builtin u))(ha:PA X (a::es) (SA X cl (bh C ds)))
  (S:x≠"__name__") (j:(x==("__debug__":Str))=false) (he:starEach (a::es) X.env=(false,eval a X.env)::starEach es X.env) (h:(backTo pos (starEach es X.env)).any (·.1)=false):PE X (.Call (.Name x p) (a::es) [] pos) (SE X cl (ao C (.blt b ds))):=by
 refine PE.imp (lG (hb▸zW (cl:=cl) O hc U b) hg T N ha S j he h) ?_;rintro Y H Q ⟨J,Z,m,w,m',r,l,e,k⟩;erw[bZ] at e;let⟨x,t,e1,e⟩:=R.ah e;exact⟨J,Z,m,x,t,r,l,e1,fun g H1 v1 F q M=>⟨g,t,x,w,m',q,M,e,fun y H2 v2 z I L=>k _ _ _ (F.trans q z) I L⟩⟩
theorem GV{x:Str}{b:B}{u:String}{a:Expr}(O:UN X cl)(hc:X.calm=true)(U:X.A.handled=none)(hb:zV b=.type u)(hg:Gl X x)(T:X.mg x=none)(N:bootBuiltins x=@(.type u))(ha:PA X (a::es) (SA X cl (bh C ds)))
  (S:x≠"__name__") (j:(x==("__debug__":Str))=false) (he:starEach (a::es) X.env=(false,eval a X.env)::starEach es X.env) (h:(backTo pos (starEach es X.env)).any (·.1)=false):PE X (.Call (.Name x p) (a::es) [] pos) (SE X cl (ao C (.blt b ds))):=by
 refine PE.imp (wU (hb▸zW (cl:=cl) O hc U b) hg T N ha S j he h) ?_;rintro Y H Q ⟨J,Z,m,w,m',r,l,e,k⟩;erw[bZ] at e;let⟨x,t,e1,e⟩:=R.ah e;exact⟨J,Z,m,x,t,r,l,e1,fun g H1 v1 F q M=>⟨g,t,x,w,m',q,M,e,fun y H2 v2 z I L=>k _ _ _ (F.trans q z) I L⟩⟩
theorem Rel.zX(r:Rel K cl J m H){p:Addr}(a:H p=none)(o:HO):Ext J H J (upd H p o)/\Rel K cl J m (upd H p o):=by
 have x:Ext J H J (upd H p o):=⟨⟨[],by simp,by simp⟩,λ h _ _=>by rw[aq (aA h a)];exact h⟩;refine⟨x,r.len,r.nd,λ g b=>?_⟩;have q:=r.obj g b;let⟨u,e,_⟩:=q.ex;exact q.mono r x (aq (aA e a))
def LX:List String:=["int","bool","str","list","tuple","dict","NoneType"]
inductive SM(X:L2.Cx)(cl:Cl)(name:String)(x:V)(xs:List V)(H:Hp)(Q:VK):Prop
 |mk (J:List Addr) (m:Mem) (wx:W) (ws:List W) (w:W) (m':Mem) (h1:Rel X.K cl J m H) (h2:RW X.K J H wx x) (h3:aS X.K J H ws xs) (h4:bx wx name ws m=.ok w m') (h5:∀J' H' v,Ext J H J' H'->Rel X.K cl J' m' H'->RW X.K J' H' w v->Q v H'):SM X cl name x xs H Q
theorem CU(h:kB name=.lst):¬name="join"/\¬name="index"/\¬name="add"/\¬name="endswith"/\¬name="split":=by
 unfold kB at h;split at h
 .cases h
 .ext a;split at h
  .cases h
  .ext b;exact⟨λ z=>a (.inl z),λ z=>a (.inr (.inl z)),b,λ z=>a (.inr (.inr (.inl z))),λ z=>a (.inr (.inr (.inr z)))⟩
theorem jn{o:W}(a:kB name=.lst)(hi:¬(name="lindex"\/name="count"))(e:bx o name ws m=.ok w m'):∃n ys,o=.ref n/\m[n]?=some (.lst ys)/\eU n ys name ws m=.ok w m':=by
 let⟨k,j,h,g,b⟩:=CU a;unfold bx at e;split at e
 .split at e
  .ext n _ ys l;exact⟨_,_,rfl,l,e⟩
  .erw[iG,h,QY] at e;cases e
  .cases e
 .erw[oh,k,j,g,b,QY] at e;cases e
 .cases e
theorem aS.strs:∀{ws:List W} {vs:List V} {ss:List Str},aS K J H ws vs->gM ws=some ss->vs=ss.map V.str
 | [],_,_,.nil,h=>by cases h;rfl
 |w::ws,_,ss,.cons q t,h=>by
  cases w with
  |str z=>
   erw[gM,P9] at h;let⟨a,b,rfl⟩:=h;cases q;rw[t.strs b];rfl
  |_=>cases h
theorem xM:Br X "list.append" (SM X cl "append"):=by
 intro aa s Y H x N v j Q I l q h;let⟨J,m,O,ws,w,m',r,y,z,e,k⟩:=h;replace e:=jn 'd' 'd' e;let⟨n,M,rfl,b,e⟩:=e;erw[eU,Qn] at e;unfold gj at e;split at e
 .split at e
  .ext B;cases e;let⟨a,vs,rfl,F,L,t⟩:=r.lst y b;let⟨R,rfl,A⟩:=ir z;let⟨g,u⟩:=r.kG b F (t.append %[|A]);exact nY aa s Y H _ _ v j Q I l q ⟨_,_,_,rfl,rfl,L,Qm (by rw[<-t.length];exact B) bS,k _ _ _ g u .non⟩
  .cases e
 .cases e
theorem GW:Br X "list.pop" (SM X cl "pop"):=by
 intro aa s Y H x xs v A Q I B F h;let⟨J,m,wx,ws,w,m',r,S,L,e,k⟩:=h;replace e:=jn 'd' 'd' e;let⟨n,ys,rfl,u,e⟩:=e;erw[eU,Qn,String.reduceEq,QY] at e;unfold ve at e;let⟨a,vs,rfl,O,R,t⟩:=r.lst S u;split at e
 .split at e
  .ext y q;cases e;cases L;let⟨z,l,j⟩:=t.get q;let⟨b,g⟩:=r.kG u O t.dropLast;exact Ga aa s Y H _ _ v A Q I B F ⟨_,_,_,rfl,rfl,R,by rw[<-t.length];exact l,k _ _ _ b g (j.mono r b)⟩
  .cases e
 .split at e
  .ext N;split at e
   .ext M U;split at e
    .ext y q;cases e;let⟨v1,rfl,T⟩:=ir L;cases T;let⟨z,l,j⟩:=t.get q;let⟨b,g⟩:=r.kG u O (t.eraseIdx M);exact zc aa s Y H _ _ v A Q I B F ⟨_,_,_,M,_,rfl,rfl,R,N.1,N.2,by rw[<-t.length];exact U,l,k _ _ _ b g (j.mono r b)⟩
    .cases e
   .cases e
  .cases e
 .cases e
theorem xN:Br X "list.extend" (SM X cl "extend"):=by
 intro aa s Y H x xs v u Q I y z h;let⟨J,m,wx,ws,w,m',r,B,F,e,k⟩:=h;replace e:=jn 'd' 'd' e;let⟨n,U,rfl,j,e⟩:=e;erw[eU,Qn,String.reduceEq,QY] at e;unfold jg at e;let⟨a,vs,rfl,O,R,t⟩:=r.lst B j;split at e
 .split at e
  .ext T S;split at e
   .ext M;cases e;let⟨v1,rfl,L⟩:=ir F;let⟨a',q,rfl,N,b,g⟩:=r.lst L S;let⟨l,A⟩:=r.kG j O (t.append g);exact wW aa s Y H _ _ v u Q I y z ⟨_,_,_,_,rfl,rfl,R,b,by rw[<-t.length,<-g.length];exact Qk M bS,k _ _ _ l A .non⟩
   .cases e
  .cases e
 .cases e
theorem xO:Br X "list.insert" (SM X cl "insert"):=by
 intro aa s Y H x O v l Q I q u h;let⟨J,m,R,ws,w,m',r,z,A,e,k⟩:=h;replace e:=jn 'd' 'd' e;let⟨n,N,rfl,g,e⟩:=e;erw[eU,Qn,String.reduceEq,QY] at e;unfold jh at e;let⟨a,vs,rfl,L,M,t⟩:=r.lst z g;split at e
 .split at e
  .ext b;cases e;let⟨T,S,rfl,F,B⟩:=CT A;cases F;let⟨j,y⟩:=r.kG g L (((t.take _).append %[|B]).append (t.drop _));exact wZ aa s Y H _ _ v l Q I q u ⟨_,_,_,_,rfl,rfl,M,b.1,by rw[<-t.length];exact b.2.1,Qm (by rw[<-t.length];exact b.2.2) bS,k _ _ _ j y .non⟩
  .cases e
 .cases e
theorem rQ{o:W}(a:kB name=.str)(e:bx o name ws m=.ok w m'):∃z,o=.str z/\oh z name ws m=.ok w m':=by
 have b:name="join"\/name="index"\/name="endswith"\/name="split":=by
  unfold kB at a;split at a
  .assumption
  .split at a<;>cases a
 unfold bx at e;split at e
 .split at e
  .rcases b with rfl | rfl | rfl | rfl<;>(erw[eU,String.reduceEq,QY] at e;cases e)
  .rcases b with rfl | rfl | rfl | rfl<;>(erw[iG,String.reduceEq,QY] at e;cases e)
  .cases e
 .exact⟨_,rfl,e⟩
 .cases e
theorem aS.gM:∀{ws:List W} {vs:List V} {ns:List Str},aS K J H ws vs->D.gM ws=some ns->vs=ns.map V.str:=λ t h=>t.strs h
theorem CV:Br X "str.join" (SM X cl "join"):=by
 intro aa s Y H x N v g Q I j l h;let⟨J,m,O,ws,w,m',r,q,u,e,k⟩:=h;replace e:=rQ 'd' e;let⟨z,rfl,e⟩:=e;replace e:lS z ws m=.ok w m':=e;unfold lS at e;split at e
 .split at e
  .ext M L;split at e
   .ext S F;split at e
    .ext B;cases e;cases q;let⟨R,rfl,y⟩:=ir u;let⟨a,vs,rfl,A,t⟩:=r.getL y L;have b:=t.gM F;subst b;exact Ck aa s Y H _ _ v g Q I j l ⟨_,_,_,rfl,rfl,A,B,k _ _ _ Ext.refl r (.str _)⟩
    .cases e
   .cases e
  .cases e
 .cases e
theorem xP:Br X "str.index" (SM X cl "index"):=by
 intro aa s Y H x B v M Q I g j h;let⟨J,m,F,ws,w,m',r,l,q,e,k⟩:=h;replace e:=rQ 'd' e;let⟨z,rfl,e⟩:=e;replace e:gY z ws m=.ok w m':=e;unfold gY at e;split at e
 .ext _ y;split at e
  .ext p a;cases e;cases l;let⟨L,rfl,A⟩:=ir q;cases A;let⟨t,rfl⟩:=g;let⟨u,rfl,N,rfl⟩:=Vals.one j;cases b:Builtin.Str.occurrences z y 0 z.length 1 with
   |nil=>rw[b] at a;cases a
   |cons i rest=>
    rw[b] at a;cases a;exact SC.index b ⟨.int _,H,I.tok _,⟨_,rfl⟩,k _ _ _ Ext.refl r (.int _)⟩
  .cases e
 .cases e
theorem zY{o:W}(e:bx o "add" ws m=.ok w m'):∃n ks,o=.ref n/\m[n]?=some (.set ks)/\iG n ks "add" ws m=.ok w m':=by
 unfold bx at e;split at e
 .split at e
  .erw[eU,String.reduceEq,QY] at e;cases e
  .ext n _ ks a;exact⟨_,_,rfl,a,e⟩
  .cases e
 .erw[oh,String.reduceEq,QY] at e;cases e
 .cases e
theorem Rel.Nt{a:Addr}(r:Rel K cl J m H){o:O}{ks:List L2.Key}{S:L2.Key->Bool}(A:m[n]?=some o)(t:J[n]?=some a)(q:∀k,S k=lP k ks) :
  Ext J H J (upd H a (lO cl.P cl.w a S ks.length))/\Rel K cl J (m.set n (.set ks)) (upd H a (lO cl.P cl.w a S ks.length)):=by
 have B:a∈J:=QW t;have x:Ext J H J (upd H a (lO cl.P cl.w a S ks.length)):=⟨⟨[],by simp,by simp⟩,λ {b u} h hn _=>by rw[aq (show b≠a from λ z=>hn (by rw[z];exact B))];exact h⟩;refine⟨x,by simp[r.len],r.nd,λ {k L b} j g=>?_⟩
 by_cases l:n=k
 .subst l;rw[t] at g;cases g;rw[QG (Qc.mp A).1] at j;cases j;exact⟨S,aB,q⟩
 .rw[QA l] at j;have y:=r.obj j g;refine y.mono r x (aq ?_);rintro rfl;let⟨N,I⟩:=Qc.mp g;let⟨M,F⟩:=Qc.mp t;exact l ((Uy r.nd).mp (F.trans I.symm))
theorem GX(q:UN X cl):Br X "set.add" (SM X cl "add"):=by
 intro aa s Y H x xs v L Q I M N h;let⟨J,m,wx,ws,w,m',r,O,R,e,k⟩:=h;replace e:=zY e;let⟨n,a,rfl,F,e⟩:=e;erw[iG,Qn] at e;unfold zB at e;split at e
 .split at e
  .ext b e1;split at e
   .ext hl;cases e;let⟨v1,rfl,T⟩:=ir R;have z:=rP T e1;subst z;cases O with
    |ref B=>
     let⟨S,hS,A⟩:=r.obj F B;have l:=hS;rw[q.P,q.w] at l;refine tW aa s Y H _ _ v L Q I M N ⟨_,S,_,b,rfl,rfl,l,hl,?_⟩;have t:∀j,(S j||decide (j=b))=lP j (if lP b a then a else a++[b]):=λ j=>by
      rw[A];split
      .ext U;cases hd:decide (j=b) with
       |false=>simp
       |true=>
        have:=Se hd;subst this;simp[U]
      .erw[lP,any_append,Sz,any_nil,Bool.or_false];congr 1;exact QZ.mpr eq_comm
     let⟨u,y⟩:=r.Nt F B t;have g:(if lP b a then a else a++[b]).length=if S b then a.length else a.length+1:=by
      rw[A];split<;>simp
     rw[g,q.P,q.w] at u y;exact k _ _ _ u y .non
   .cases e
  .cases e
 .cases e
def Nu(X:L2.Cx)(T:String)(x:V)(H:Hp):Prop:=∀(aa:List (Addr×Obj)) (s:Shared) (Y:L2.St) (v:Value),Inv X aa Y H s->RelV x v->s.TypeIs v T/\∀a,v=.ref a->Exists λ b=>s.heap.get? a=some b/\b.dict=none
def KP:Kd->String
 |.lst=>"list" |.str=>"str" |.set=>"set" |.no=>""
theorem Ep{g:Kd}(r:Rel X.K cl J m H)(q:RW X.K J H w v)(k:g≠.no)(e:kdOf m w=g):Nu X (KP g) v H:=by
 intro aa s Y u I b;cases q with
 |ref h=>
  erw[kdOf] at e;split at e
  .ext ws j;let⟨vs,z,_⟩:=r.obj j h;subst e;exact za (T:="list") I b (.inl ⟨rfl,_,.inl (.inl z)⟩)
  .ext y j;subst e;let⟨S,z,_⟩:=r.obj j h;cases b;let⟨⟨o,_,_,_,e,l,_⟩,_⟩:=I.hok _ _ z;refine⟨⟨o,e,l.1⟩,λ a t=>?_⟩;cases t;exact⟨o,e,l.2.1⟩
  .exact absurd e.symm k
 |str x=>
  erw[kdOf] at e;subst e;exact za (T:="str") I b rfl
 |_=>exact absurd (by simpa[kdOf] using e.symm) k
section
variable{o:Expr}{d:E}{name:Str}{nm id:String}{apos:Pos}
theorem CW{T:String}(hT:T=KP (kB nm))(pa:PlainAttrs T)(j:Slot T name id)(y:typeOf (.builtin id)=pure (.type "method_descriptor"))(hm:Br X id (SM X cl nm))(ho:PE X o (SE X cl (ao C d)))
  (b:attributeBase o name X.env (eval o X.env)=eval o X.env) (a:(apos.endLine==pos.line)=true):PE X (.Call (.Attribute o name apos) [] [] pos) (SE X cl (ao C (.meth d nm .nil))):=by
 intro aa s Y H Q I h;refine wpAny_Call_method0_late b a ?_;let⟨J,Z,m,w,m',r,l,e,k⟩:=h;erw[bG] at e;let⟨x,B,e1,e⟩:=R.ah e;refine bP (ho aa s Y H (λ v q=>Nu X T v q/\SM X cl nm v [] q Q) I ⟨J,Z,m,x,B,r,l,e1,fun u q v1 N g t=>?_⟩) λ v A ⟨x,q,F,g,O,t⟩=>?_
 .split at e
  .ext hk;erw[fG,R.bind] at e;exact⟨by rw[hT];exact Ep g t (by unfold kB;split<;>(try split)<;>(intro z;cases z)) hk,u,B,x,[],w,m',g,t,.nil,e,fun L H2 v2 M S U=>k _ _ _ (N.trans g M) S U⟩
  .cases e
 .let⟨h1,h2⟩:=O aa A Y v F g;exact⟨T,id,pa,j,y,h1,h2,Ul rfl (PySem.evalArgs_none (hm aa A Y q x [] v [] Q F g .nil t))⟩
theorem GY{T:String}{a:Expr}(hT:T=KP (kB nm))(pa:PlainAttrs T)(t:Slot T name id)(O:typeOf (.builtin id)=pure (.type "method_descriptor"))(hm:Br X id (SM X cl nm))(ho:PE X o (SE X cl (ao C d)))(ha:PA X (a::es) (SA X cl (bh C ds)))
  (q:attributeBase o name X.env (eval o X.env)=eval o X.env)
  (u:((backTo pos (starEach (a::es) X.env)).all (λ x=>!x.1)&&(backToKw pos (keywordEach [] X.env)).all (λ x=>x.1.isSome)
   && decide ((a::es).length+([]:List Keyword).length+(if ([]:List Keyword).isEmpty then 0 else 1)<30))=true)
  (j:(apos.endLine==pos.line)=true) (hs:starEach (a::es) X.env=(false,eval a X.env)::starEach es X.env) (b:(backTo pos (starEach es X.env)).any (·.1)=false):PE X (.Call (.Attribute o name apos) (a::es) [] pos) (SE X cl (ao C (.meth d nm ds))):=by
 intro aa s Y H Q I h;refine wpAny_Call_method_late q u j rfl ?_;let⟨J,Z,m,w,m',r,l,e,k⟩:=h;erw[bG] at e;let⟨x,m1,e1,e⟩:=R.ah e;refine bP (ho aa s Y H (λ v y=>Nu X T v y/\SA X cl (bh C ds) Y y λ xs F=>SM X cl nm v xs F Q) I ⟨J,Z,m,x,m1,r,l,e1,fun M y v1 U g B=>?_⟩) λ v s1 ⟨x,y,I1,g,ty,B⟩=>?_
 .split at e
  .ext hk;let⟨ws,m2,e2,e⟩:=R.ah e;exact⟨by rw[hT];exact Ep g B (by unfold kB;split<;>(try split)<;>(intro z;cases z)) hk,M,Z,m1,ws,m2,g,l.mono r U,e2,fun L F v2 S A N=>
    ⟨L,m2,x,ws,w,m',A,B.mono g S,N,e,fun β3 H3 v3 x3 r3 q3=>k _ _ _ ((U.trans g S).trans A x3) r3 q3⟩⟩
  .cases e
 .let⟨h1,h2⟩:=ty aa s1 Y v I1 g;refine⟨T,id,pa,t,O,h1,h2,?_⟩;have hA:=ha pos aa s1 Y y _ I1 B;rw[hs] at hA ⊢;refine Ul (by show (false||(backTo pos (starEach es X.env)).any (·.1))=false;rw[b]<;>rfl) (Calls.evalArgs_plain ?_);exact bP hA λ us s2 ⟨vs,F,I2,A,N⟩=>hm aa s2 Y F x vs v us Q I2 g A N
end
theorem GZ(a:UN X cl)(h:Gl X "set")(g:X.mg "set"=none):PE X (.Call (.Name "set" p) [] [] pos) (SE X cl (ao C .nB)):=by
 refine PE.imp (tP xj h g 'k' 'k' 'k') ?_;rintro Y H Q ⟨J,Z,m,w,m',r,l,e,k⟩;erw[dN,new] at e;cases e;refine⟨rfl,λ p b=>?_⟩;have:=r.zQ (o:=.set []) (ho:=lO cl.P cl.w p (λ _=>false) 0) b λ x=>⟨_,aB,λ _=>rfl⟩;rw[a.P,a.w] at this;exact k _ _ _ this.1 this.2 (.ref (r.last p))
abbrev yv(P:Program)(w:World):uV:=lX P w
theorem rR:Passes (yv X.prog X.w) X E0:=Kn
theorem O6{w:World}{l:List Env}{a:Shared}{e:Value}(h:yv P w l H s (λ _ _ _=>False) e a):False:=by
 let⟨_,_,_,_,_,_,_,_,_,_,z⟩:=h;exact z
def vq(K:ae)(cl:Cl)(a:Nat)(f:List W->Mem->R W):Sp:=λ vs H Q _=>vs.length=a/\∃J m ws w m',Rel K cl J m H/\aS K J H ws vs/\f ws m=.ok w m'/\∀J' H' v,Ext J H J' H'->Rel K cl J' m' H'->RW K J' H' w v->Q v H'
theorem s_call{k f:Nat}{q:Addr}{z:FuncData}{b:List Str}{x:Str}{a:Expr}(F:cg X.prog X.w X.K X.mg X.base (yv X.prog X.w) k q z b (vq X.K cl b.length (C.call f)))(S:bV k X.A)(hg:Gl X x)(T:X.mg x=@(.ref q))(hk:PySem.W.keepIn X.K (.ref q)=true)(hb:Binds X.K z b [])
  (ha:PA X (a::es) (SA X cl (bh C ds))) (U:∀Z m ws m',bh C ds Z m=.ok ws m'->ws.length=b.length) (j:(x==("__debug__":Str))=false) (he:starEach (a::es) X.env=(false,eval a X.env)::starEach es X.env) (h:(backTo pos (starEach es X.env)).any (·.1)=false) :
  PE X (.Call (.Name x p) (a::es) [] pos) (SE X cl (ao C (.call f ds))):=by
 refine PE.imp (BS F S hg T hk hb .nil rR ha j he h) ?_;rintro Y H Q ⟨J,Z,m,w,m',r,l,e,k⟩;erw[gF] at e;let⟨x,y,B,e⟩:=R.ah e;refine⟨J,Z,m,x,y,r,l,B,fun g H1 v1 M t u=>⟨?_,g,y,x,w,m',t,by rw[Rm];exact u,e,fun I H2 v2 L N O=>k _ _ _ (M.trans t L) N O⟩⟩;rw[Rm,<-u.length];exact U _ _ _ _ B
end
section
variable(X:L2.Cx)(cl:Cl)
def IS(g:It)(b:Src)(β0:List Addr)(H0:Hp):Prop:=∀(J:List Addr) (m:Mem) (H:Hp) (i:Nat),(∃h,J=β0++h)->(∀{a:Addr} {vs:List V},ef X.K H0 a vs->ef X.K H a vs)->(∀{a:Addr} {o:Obj} {u:HO},H0 a=some (.frz o u)->H a=@(.frz o u))->Rel X.K cl J m H->
 (∀w,b.get m i=.it w->g.go i H/\∀x H',g.yld i H x H'->Ext J H J H'/\Rel X.K cl J m H'/\RW X.K J H' w x)/\(b.get m i=.fin->g.stop i H)
inductive SI(ev:Loc->Mem->R Src)(Y:L2.St)(H:Hp)(Rr:It->Hp->Prop):Prop
 |mk (J:List Addr) (Z:Loc) (m:Mem) (src:Src) (m':Mem) (h1:Rel X.K cl J m H) (h2:RL X.K J H Z Y) (h3:ev Z m=.ok src m') (h4:∀J' H' PZ,Ext J H J' H'->Rel X.K cl J' m' H'->IS X cl PZ src J' H'->Rr PZ H'):SI ev Y H Rr
inductive SG(ev:W->Loc->Mem->R Loc)(v:V)(Y:L2.St)(H:Hp)(Q:L2.St->Hp->Prop):Prop
 |mk (J:List Addr) (Z:Loc) (m:Mem) (w:W) (ρ':Loc) (m':Mem) (h1:Rel X.K cl J m H) (h2:RL X.K J H Z Y) (h3:RW X.K J H w v) (h4:ev w Z m=.ok ρ' m') (h5:∀J' H' σ',Ext J H J' H'->Rel X.K cl J' m' H'->RL X.K J' H' ρ' σ'->Q σ' H'):SG ev v Y H Q
inductive G0(ev:List W->Loc->Mem->R Loc)(vs:List V)(Y:L2.St)(H:Hp)(Q:L2.St->Hp->Prop):Prop
 |mk (J:List Addr) (Z:Loc) (m:Mem) (ws:List W) (ρ':Loc) (m':Mem) (h1:Rel X.K cl J m H) (h2:RL X.K J H Z Y) (h3:aS X.K J H ws vs) (h4:ev ws Z m=.ok ρ' m') (h5:∀J' H' σ',Ext J H J' H'->Rel X.K cl J' m' H'->RL X.K J' H' ρ' σ'->Q σ' H'):G0 ev vs Y H Q
def zZ(D:Ends)(J:List Addr)(H:Hp):F->Prop
 |.nx Z=>∀Y,RL X.K J H Z Y->D.nx Y H
 |.rt w=>∀v,RW X.K J H w v->D.rt v H
 |.bk Z=>∀Y,RL X.K J H Z Y->D.bk Y H
 |.ct Z=>∀Y,RL X.K J H Z Y->D.ct Y H
 |.rz c none Z=>∀Y,RL X.K J H Z Y->kD X Y (.ref (aj X.K c)) none H
 |.rz c (some (f,w)) Z=>∀Y y dx,RL X.K J H Z Y->RW X.K J H w y->H dx=none->kD X Y (.ref (aj X.K c)) (some dx) (upd H dx (.xd [(f,y)]))
inductive SS(ev:Loc->Mem->R F)(D:Ends)(Y:L2.St)(H:Hp):Prop
 |mk (J:List Addr) (Z:Loc) (m:Mem) (f:F) (m':Mem) (h1:Rel X.K cl J m H) (h2:RL X.K J H Z Y) (h3:ev Z m=.ok f m') (h4:∀J' H',Ext J H J' H'->Rel X.K cl J' m' H'->zZ X D J' H' f):SS ev D Y H
end
theorem PI.imp{X:L2.Cx}{t t':TI}(h:PI X tg e t)(i:∀Y H R,t' Y H R->t Y H R):PI X tg e t':=λ aa s Y H R I q=>h aa s Y H R I (i Y H R q)
theorem PI.or{X:L2.Cx}{t t':TI}(h:PI X tg e t)(h':PI X tg e t'):PI X tg e (fun Y H R=>t Y H R\/t' Y H R):=λ aa s Y H R I q=>q.elim (h aa s Y H R I) (h' aa s Y H R I)
theorem PG.imp{X:L2.Cx}{t t':TG}(h:PG X e t)(i:∀v Y H Q,t' v Y H Q->t v Y H Q):PG X e t':=λ aa s Y H v u Q I r q=>h aa s Y H v u Q I r (i v Y H Q q)
theorem sV.imp{X:L2.Cx}{e:List Expr}{t t':Bq}(h:sV X e t)(i:∀v Y H Q,t' v Y H Q->t v Y H Q):sV X e t':=λ aa s Y H v u Q I r q=>h aa s Y H v u Q I r (i v Y H Q q)
theorem PS.imp{X:L2.Cx}{e:Stmt}{t t':TS}(h:PS X e t)(i:∀D Y H,t' D Y H->t D Y H):PS X e t':=λ aa s Y H D I q=>h aa s Y H D I (i D Y H q)
theorem iE.imp{X:L2.Cx}{e:List Stmt}{t t':TS}(h:iE X e t)(i:∀D Y H,t' D Y H->t D Y H):iE X e t':=λ aa s Y H D I q=>h aa s Y H D I (i D Y H q)
section
variable{X:L2.Cx}{cl:Cl}{C:D.Cx}{pos:Pos}
theorem rO.keep(b:∀{a:Addr} {o:Obj} {u:HO},H a=some (.frz o u)->H' a=@(.frz o u)){a:Addr}(h:rO K H a vs):rO K H' a vs:=
 h.elim (λ ⟨o,e⟩=>.inl ⟨o,b e⟩) .inr
theorem RW.keep(j:∃γ,J'=J++γ)(g:∀{a:Addr} {vs:List V},ef K H a vs->ef K H' a vs)(b:∀{a:Addr} {o:Obj} {u:HO},H a=some (.frz o u)->H' a=@(.frz o u))(q:RW K J H w v):RW K J' H' w v:=
 q.gen g (λ h=>h.keep b) b (λ h=>by let⟨γ,rfl⟩:=j;rw[Qh (Qc.mp h).1];exact h)
theorem aS.keep(h:∃γ,J'=J++γ)(b:∀{a:Addr} {vs:List V},ef K H a vs->ef K H' a vs)(g:∀{a:Addr} {o:Obj} {u:HO},H a=some (.frz o u)->H' a=@(.frz o u)){w:List W}{v:List V}(q:aS K J H w v):aS K J' H' w v:=q.xK (RW.keep h b g)
theorem z8{a:Addr}(l:β0[n]?=some a):IS X cl (LJ X.K a) (.lst n) β0 H0:=by
 intro J m H i h _ _ r;let⟨A,rfl⟩:=h;have b:(β0++A)[n]?=some a:=by rw[Qh (Qc.mp l).1];exact l
 refine⟨λ w e=>?_,λ e=>?_⟩
 .erw[Src.get] at e;split at e
  .ext B k;split at e
   .ext I j;cases e;let⟨F,vs,z,g,t⟩:=r.getL (.ref b) k;cases z;let⟨v,u,q⟩:=t.get j;refine⟨⟨vs,v,g,u⟩,λ x H' y=>?_⟩;let⟨rfl,y⟩:=y;have:=y vs g;rw[u] at this;cases this;exact⟨Ext.refl,r,q⟩
   .cases e
  .cases e
 .erw[Src.get] at e;split at e
  .ext B k;split at e
   .cases e
   .ext j;let⟨F,vs,z,g,t⟩:=r.getL (.ref b) k;cases z;refine⟨vs,g,?_⟩;rw[<-t.length];exact Sw.mp j
  .cases e
theorem z9{a:Addr}(z:ef X.K H0 a vs)(l:aS X.K β0 H0 ws vs):IS X cl (MG X.K a) (.tup ws) β0 H0:=by
 intro J m H i b j u r;have g:=j z;have t:=l.keep b j u;refine⟨λ w e=>?_,λ e=>?_⟩
 .erw[Src.get] at e;split at e
  .ext A h;cases e;let⟨v,k,q⟩:=t.get h;refine⟨⟨vs,v,g,k⟩,λ x H' y=>?_⟩;let⟨rfl,y⟩:=y;have:=y vs g;rw[k] at this;cases this;exact⟨Ext.refl,r,q⟩
  .cases e
 .erw[Src.get] at e;split at e
  .cases e
  .ext h;exact⟨vs,g,by rw[<-t.length];exact Sw.mp h⟩
theorem Er{a:Addr}(A:rO X.K H0 a vs)(u:aS X.K β0 H0 ws vs):IS X cl (LJ X.K a) (.tup ws) β0 H0:=by
 intro J m H i b z j r;have g:=(A.keep j).l;have t:=u.keep b z j;refine⟨λ w e=>?_,λ e=>?_⟩
 .erw[Src.get] at e;split at e
  .ext B h;cases e;let⟨v,k,q⟩:=t.get h;refine⟨⟨vs,v,g,k⟩,λ x H' y=>?_⟩;let⟨rfl,y⟩:=y;have:=y vs g;rw[k] at this;cases this;exact⟨Ext.refl,r,q⟩
  .cases e
 .erw[Src.get] at e;split at e
  .cases e
  .ext h;exact⟨vs,g,by rw[<-t.length];exact Sw.mp h⟩
theorem G2{a:Addr}(Q:rO X.K H0 a vs)(A:aS X.K β0 H0 ws vs):IS X cl (LQ X.K a) (.enm (.tup ws)) β0 H0:=by
 intro J m H i b L O r;let⟨l,k⟩:=Er (X:=X) (cl:=cl) Q A J m H i b L O r;refine⟨λ w e=>?_,λ e=>?_⟩
 .erw[Src.get] at e l;split at e
  .ext u h;cases e;let⟨⟨t,x,M,F⟩,g⟩:=l u h;refine⟨⟨t,x,M,F⟩,λ y H' z=>?_⟩;let⟨p,v,N,rfl,rfl,I⟩:=z;let⟨_,_,q⟩:=g v H ⟨rfl,I⟩;let⟨j,B⟩:=r.pZ N [.int i,v];exact⟨j,B,.tup (.of aB) %[.int _,|q.mono r j]⟩
  .cases e
  .cases e
 .erw[Src.get] at e k;split at e
  .cases e
  .ext h;exact k h
  .cases e
theorem G3{lo:Int}:IS X cl (LK lo n) (.rng lo n) β0 H0:=by
 intro J m H i a _ _ r;refine⟨λ w e=>?_,λ e=>?_⟩
 .erw[Src.get] at e;split at e
  .ext h;cases e;refine⟨h,λ x H' y=>?_⟩;let⟨rfl,rfl⟩:=y;exact⟨Ext.refl,r,.int _⟩
  .cases e
 .erw[Src.get] at e;split at e
  .cases e
  .ext h;exact T5 h
theorem G4{s:Src}(r:Rel X.K cl J m H)(q:RW X.K J H w v)(e:srcOf m w=some s) :
  ∃a,v=.ref a/\((∃n vs,s=.lst n/\w=.ref n/\J[n]?=some a/\gU X.K H a vs)\/(∃ws vs,s=.tup ws/\w=.fz ws/\rO X.K H a vs/\aS X.K J H ws vs)\/∃ws vs,s=.tup ws/\w=.tup ws/\ef X.K H a vs/\aS X.K J H ws vs):=by
 cases q with
 |tup h t=>cases e;exact⟨_,rfl,.inr (.inr ⟨_,_,rfl,rfl,h,t⟩)⟩
 |fz h t=>cases e;exact⟨_,rfl,.inr (.inl ⟨_,_,rfl,rfl,h,t⟩)⟩
 |ref h=>
  erw[srcOf] at e;split at e
  .ext j g;cases e;let⟨a,vs,z,b,t⟩:=r.getL (.ref h) g;cases z;exact⟨_,rfl,.inl ⟨_,_,rfl,rfl,h,b⟩⟩
  .cases e
 |_=>cases e
theorem vt{s:Src}(r:Rel X.K cl J m H)(q:RW X.K J H (.tup ws) v)(e:srcOf m (.tup ws)=some s):∃a vs,v=.ref a/\s=.tup ws/\ef X.K H a vs/\aS X.K J H ws vs:=by
 cases q with
 |tup h t=>cases e;exact⟨_,_,rfl,rfl,h,t⟩
theorem Aa{s:Src}(r:Rel X.K cl J m H)(q:RW X.K J H (.fz ws) v)(e:srcOf m (.fz ws)=some s):∃a vs,v=.ref a/\s=.tup ws/\rO X.K H a vs/\aS X.K J H ws vs:=by
 cases q with
 |fz h t=>cases e;exact⟨_,_,rfl,rfl,h,t⟩
theorem vz{s:Src}(r:Rel X.K cl J m H)(q:RW X.K J H (.ref n) v)(e:srcOf m (.ref n)=some s):∃a vs,v=.ref a/\s=.lst n/\J[n]?=some a/\gU X.K H a vs:=by
 obtain⟨a,rfl,⟨h,vs,rfl,z,g,b⟩ | ⟨_,_,_,z,_⟩ | ⟨_,_,_,z,_⟩⟩:=G4 r q e
 .cases z;exact⟨a,vs,rfl,rfl,g,b⟩
 .cases z
 .cases z
theorem G5{z:Str}:IS X cl (Nd z) (.tup (signs z)) β0 H0:=by
 intro J m H i g _ _ r;have a:∀j:Nat,(signs z)[j]?=(z.cps[j]?).map λ c=>W.str ⟨#[c]⟩:=λ j=>by simp[signs]
 refine⟨λ w e=>?_,λ e=>?_⟩
 .erw[Src.get,a] at e;cases hc:z.cps[i]? with
  |none=>rw[hc] at e;cases e
  |some c=>
   rw[hc] at e;cases e;have k:i<z.cps.size:=by
    rcases Tt i z.cps.size with h | h
    .exact h
    .rw[Array.getElem?_eq_none h] at hc;cases hc
   refine⟨k,λ x H' y=>?_⟩;let⟨rfl,l,b,rfl⟩:=y;rw[hc] at b;cases b;exact⟨Ext.refl,r,.str _⟩
 .erw[Src.get,a] at e;cases hc:z.cps[i]? with
  |none=>exact Array.getElem?_eq_none_iff.mp hc
  |some c=>rw[hc] at e;cases e
theorem KQ{a:Expr}(B:PE X a (SE X cl (ao C d)))(M:∀Z m,dw C d Z m=(ao C d Z m).bind kC):PI X tg a (SI X cl (dw C d)):=by
 refine PI.imp (PI.or (PI.or (BI B) (Fw B)) (Gn B)) ?_;rintro Y H Q ⟨J,Z,m,I,m',r,l,e,k⟩;rw[M] at e;let⟨x,O,y,e⟩:=R.ah e;unfold kC at e;split at e
 .ext s g;cases e;cases x with
  |tup xs=>
   refine .inl (.inr ⟨J,Z,m,_,_,r,l,y,fun h F A j b q=>?_⟩);let⟨a,vs,rfl,rfl,u,t⟩:=vt b q g;exact⟨a,rfl,⟨vs,u⟩,k _ _ _ j b (z9 u t)⟩
  |fz xs=>
   refine .inl (.inl ⟨J,Z,m,_,_,r,l,y,fun h F A j b q=>?_⟩);let⟨a,vs,rfl,rfl,u,t⟩:=Aa b q g;exact⟨a,rfl,⟨vs,u.l⟩,k _ _ _ j b (Er u t)⟩
  |ref n=>
   refine .inl (.inl ⟨J,Z,m,_,_,r,l,y,fun h F A j b q=>?_⟩);let⟨a,vs,rfl,rfl,N,u⟩:=vz b q g;exact⟨a,rfl,⟨vs,u⟩,k _ _ _ j b (z8 N)⟩
  |str z=>
   refine .inr ⟨J,Z,m,_,_,r,l,y,fun h F A j b q=>?_⟩;cases q;erw[nE] at g;split at g
   .ext L;cases g;exact⟨z,rfl,L,k _ _ _ j b G5⟩
   .cases g
  |_=>cases g
 .cases e
theorem KR{a:Expr}(A:Gl X "range")(z:X.mg "range"=none)(B:PE X a (SE X cl (ao C d)))(b:starEach [a] X.env=[(false,eval a X.env)]):PI X tg (.Call (.Name "range" p) [a] [] pos) (SI X cl (dw C (.rng d))):=by
 refine PI.imp (wK A z (dm B gB b) b) ?_;rintro Y H L ⟨J,Z,m,q,m',r,l,e,k⟩;erw[jk] at e;let⟨x,y,F,e⟩:=R.ah e;refine⟨J,Z,m,x,y,r,l,F,fun h M I j t u=>?_⟩;split at e
 .split at e
  .ext g;cases e;cases u;exact⟨_,rfl,g.1,g.2,k _ _ _ j t G3⟩
  .cases e
 .cases e
theorem G6{a:Addr}(O:β0[n]?=some a):IS X cl (LQ X.K a) (.enm (.lst n)) β0 H0:=by
 intro J m H i b I N r;let⟨l,k⟩:=z8 (X:=X) (cl:=cl) (H0:=H0) O J m H i b I N r;refine⟨λ w e=>?_,λ e=>?_⟩
 .erw[Src.get] at e l;split at e
  .ext u h;cases e;let⟨⟨t,x,L,B⟩,g⟩:=l u h;refine⟨⟨t,x,L,B⟩,λ y H' z=>?_⟩;let⟨p,v,M,rfl,rfl,F⟩:=z;let⟨_,_,q⟩:=g v H ⟨rfl,F⟩;let⟨j,A⟩:=r.pZ M [.int i,v];exact⟨j,A,.tup (.of aB) %[.int _,|q.mono r j]⟩
  .cases e
  .cases e
 .erw[Src.get] at e k;split at e
  .cases e
  .ext h;exact k h
  .cases e
theorem G7{a:Addr}(Q:ef X.K H0 a vs)(A:aS X.K β0 H0 ws vs):IS X cl (Ni X.K a) (.enm (.tup ws)) β0 H0:=by
 intro J m H i b L O r;let⟨l,k⟩:=z9 (X:=X) (cl:=cl) Q A J m H i b L O r;refine⟨λ w e=>?_,λ e=>?_⟩
 .erw[Src.get] at e l;split at e
  .ext u h;cases e;let⟨⟨t,x,M,F⟩,g⟩:=l u h;refine⟨⟨t,x,M,F⟩,λ y H' z=>?_⟩;let⟨p,v,N,rfl,rfl,I⟩:=z;let⟨_,_,q⟩:=g v H ⟨rfl,I⟩;let⟨j,B⟩:=r.pZ N [.int i,v];exact⟨j,B,.tup (.of aB) %[.int _,|q.mono r j]⟩
  .cases e
  .cases e
 .erw[Src.get] at e k;split at e
  .cases e
  .ext h;exact k h
  .cases e
theorem KS{a:Expr}{q:Pos}{y:List Expr}{h}(F:Gl X "enumerate")(hm:X.mg "enumerate"=none)(ha:PE X a (SE X cl (ao C d)))(b:starEach [a] X.env=[(false,eval a X.env)]):PI X (.Tuple y h q) (.Call (.Name "enumerate" p) [a] [] pos) (SI X cl (dw C (.enm d))):=by
 refine PI.imp (PI.or (Co F hm (dm ha gB b) b) (zu F hm (dm ha gB b) b)) ?_;rintro Y H O ⟨J,Z,m,L,m',r,l,e,k⟩;erw[ki] at e;let⟨x,N,A,e⟩:=R.ah e;split at e
 .ext s z;cases e;cases x with
  |tup xs=>
   refine .inr ⟨J,Z,m,_,_,r,l,A,fun j I B h g u=>?_⟩;let⟨a,vs,rfl,rfl,b,t⟩:=vt g u z;exact⟨a,rfl,⟨vs,b⟩,k _ _ _ h g (G7 b t)⟩
  |fz xs=>
   refine .inl ⟨J,Z,m,_,_,r,l,A,fun j I B h g u=>?_⟩;let⟨a,vs,rfl,rfl,b,t⟩:=Aa g u z;exact⟨a,rfl,⟨vs,b.l⟩,k _ _ _ h g (G2 b t)⟩
  |ref n=>
   refine .inl ⟨J,Z,m,_,_,r,l,A,fun j I B h g u=>?_⟩;let⟨a,vs,rfl,rfl,M,b⟩:=vz g u z;exact⟨a,rfl,⟨vs,b⟩,k _ _ _ h g (G6 M)⟩
  |_=>cases z
 .cases e
theorem RL.set(l:RL K J H Z Y)(q:RW K J H w v):RL K J H (Z.set i (some w)) (Y.set i (some v)):=by
 refine⟨by simp[l.len],λ {j b} h=>?_⟩
 by_cases e:i=j
 .subst e;have a:i<Z.length:=by have:=(Qc.mp h).1;simpa using this
  rw[QG a] at h;cases h;exact⟨v,QG (by rw[<-l.len];exact a),q⟩
 .rw[QA e] at h ⊢;exact l.at_ h
theorem Et{x:Str}(h:X.N.Nodup)(hi:X.N[i]?=some x)(b:L2.Loc X.env.scope x)(g:X.fn x=true\/X.env.scope.names.lookup x=some .local):PG X (.Name x pos) (SG X cl (fT C (.pt (.var i)))):=by
 refine PG.imp (BG h hi b g) ?_;rintro v Y H Q ⟨J,Z,m,w,a,m',r,l,q,e,k⟩;erw[fT,aD] at e;cases e;exact k _ _ _ Ext.refl r (l.set q)
theorem Ab:sV X [] (G0 X cl (fU C .nil)):=by
 refine sV.imp BH ?_;rintro vs Y H Q ⟨J,Z,m,ws,a,m',r,l,q,e,k⟩;cases q with
 |nil=>
  erw[fU] at e;cases e;exact⟨rfl,k _ _ _ Ext.refl r l⟩
 |cons _ _=>erw[fU] at e;cases e
theorem vA{a:Expr}{u:A}{ds:As}(U:PG X a (SG X cl (fT C u)))(T:sV X es (G0 X cl (fU C ds)))(S:(assignEach (a::es) X.env).map (·.2)=assign a X.env::(assignEach es X.env).map (·.2)):sV X (a::es) (G0 X cl (fU C (.cons u ds))):=by
 refine sV.imp (yL U T S) ?_;rintro vs Y H Q ⟨J,Z,m,ws,b,m',r,l,q,e,k⟩;cases q with
 |nil=>erw[fU] at e;cases e
 |cons M L=>
  erw[fU] at e;let⟨x,t,e1,e⟩:=R.ah e;refine⟨_,_,rfl,J,Z,m,_,x,t,r,l,M,e1,fun g H1 z h j O=>?_⟩;exact⟨g,x,t,_,b,m',j,O,L.mono r h,e,fun B H2 y F I N=>k _ _ _ (h.trans j F) I N⟩
def As.len:As->Nat
 |.nil=>0
 |.cons _ l=>l.len+1
theorem l9:∀{ds:As} {ws:List W} {Z ρ':Loc} {m m':Mem},fU C ds ws Z m=.ok ρ' m'->ws.length=ds.len
 |.nil,ws,_,_,_,_,e=>by
  cases ws with
  |nil=>rfl
  |cons _ _=>erw[fU] at e;cases e
 |.cons a l,ws,_,_,_,_,e=>by
  cases ws with
  |nil=>erw[fU] at e;cases e
  |cons w ws=>
   erw[fU] at e;let⟨Z1,m1,b,e⟩:=R.ah e;rw[QO,l9 e];rfl
theorem PG.or{t t':TG}(h:PG X e t)(h':PG X e t'):PG X e (λ v Y H Q=>t v Y H Q\/t' v Y H Q):=λ aa s Y H v u Q I r q=>q.elim (h aa s Y H v u Q I r) (h' aa s Y H v u Q I r)
theorem Eu{k:Nat}{ds:As}(x:X.calm=true)(h:sV X es (G0 X cl (fU C ds)))(u:(assignEach es X.env).length=ds.len)(g:(assignEach es X.env).findIdx? (·.1)=none):PG X (.Tuple es k pos) (SG X cl (fT C (.tup ds))):=by
 refine PG.imp (PG.or (Fq x h u g) (Gq x h u g)) ?_;rintro v Y H Q ⟨J,Z,m,w,b,m',r,l,q,e,k⟩;erw[fT] at e;split at e
 .ext z y;let⟨a,vs,rfl,j,t⟩:=r.aP q y;rcases j with j | j
  .exact .inr ⟨_,_,rfl,j,by rw[<-t.length];exact l9 e,J,Z,m,_,b,m',r,l,t,e,k⟩
  .exact .inl ⟨_,_,rfl,j,by rw[<-t.length];exact l9 e,J,Z,m,_,b,m',r,l,t,e,k⟩
 .cases e
def T.uq:Ts->As
 |.nil=>.nil
 |.cons t ts=>.cons (.pt t) (T.uq ts)
theorem jU:∀(ts:Ts) (ws:List W) (Z ρ':Loc) (m:Mem),cC ts ws Z=some ρ'->fU C (T.uq ts) ws Z m=.ok ρ' m
 |.nil,ws,Z,ρ',m,h=>by
  cases ws with
  |nil=>erw[cC] at h;cases h;erw[T.uq,fU]
  |cons _ _=>erw[cC] at h;cases h
 |.cons t ts,ws,Z,ρ',m,h=>by
  cases ws with
  |nil=>erw[cC] at h;cases h
  |cons w ws=>
   erw[cC] at h;split at h
   .ext Z1 a;erw[T.uq,fU,fT,a,R.bind];exact jU ts ws Z1 ρ' m h
   .cases h
theorem G8{k:Nat}{ts:Ts}(h:PG X (.Tuple es k pos) (SG X cl (fT C (.tup (T.uq ts))))):PG X (.Tuple es k pos) (SG X cl (fT C (.pt (.tup ts)))):=by
 refine PG.imp h ?_;rintro v Y H Q ⟨J,Z,m,w,a,m',r,l,q,e,k⟩;refine⟨J,Z,m,w,a,m',r,l,q,?_,k⟩;erw[fT,aD] at e ⊢;cases w with
 |tup xs=>
  erw[aP] at e ⊢;split at e
  .ext g b;cases e;exact jU _ _ _ _ _ b
  .cases e
 |fz xs=>
  erw[aP,getL] at e ⊢;split at e
  .ext g b;cases e;exact jU _ _ _ _ _ b
  .cases e
 |_=>cases e
theorem G9(hu:UN X cl):Fp X (λ o i v H Q=>∃J m g l b m',Rel X.K cl J m H/\RW X.K J H g o/\RW X.K J H l i/\RW X.K J H b v/\iT g l b m=.ok () m'/\∀J' H',Ext J H J' H'->Rel X.K cl J' m' H'->Q H'):=by
 intro aa s Y H o i v N O u Q I B A z h;let⟨J,m,g,l,b,m',r,L,M,F,e,k⟩:=h;unfold iT at e;split at e
 .split at e
  .ext U x;split at e
   .ext j T;cases e;cases M;let⟨a,vs,rfl,R,S,t⟩:=r.lst L x;let⟨y,q⟩:=r.kG x R (t.set F j);exact set_list aa s Y H _ _ _ N O u Q I B A z ⟨_,_,_,_,rfl,rfl,S,by rw[<-t.length];exact T,k _ _ y q⟩
   .cases e
  .cases e
 .cases e
theorem KU(U:UN X cl){i:Expr}{L di:E}(ho:PE X o (SE X cl (ao C L)))(hi:PE X i (SE X cl (ao C di)))(ha:∀v,assign (.Subscript o i pos) X.env v=(do
   let h <-holding [v] (eval o X.env)
   let A <-holding [v,h] (eval i X.env)
   standAt pos
   holding [v,h,A] (setItem h A v)
   release [v,h,A] [])):PG X (.Subscript o i pos) (SG X cl (fT C (.sub L di))):=by
 refine PG.imp (Ft ho hi (G9 U) ha) ?_;rintro v Y H Q ⟨J,Z,m,w,M,m',r,l,q,e,k⟩;erw[fT] at e;let⟨x,I,e1,e⟩:=R.ah e;let⟨y,F,e2,e⟩:=R.ah e;let⟨u,m3,e3,e⟩:=R.ah e;cases e;refine⟨J,Z,m,x,I,r,l,e1,fun t H1 v1 g a T=>?_⟩;refine⟨t,Z,I,y,F,a,l.mono r g,e2,fun j H2 v2 b z S=>?_⟩;exact⟨j,F,x,y,w,_,z,T.mono a b,S,(q.mono r g).mono a b,e3,fun N H3 B O=>k _ _ _ ((g.trans a b).trans z B) O (((l.mono r g).mono a b).mono z B)⟩
theorem Hf:iE X [] (SS X cl (aF C .nil)):=by
 refine iE.imp uP ?_;rintro D Y H ⟨J,Z,m,f,m',r,l,e,k⟩;erw[pW,gH] at e;cases e;exact k _ _ Ext.refl r Y l
theorem CY{rest:List Stmt}{d:S}{ds:Ss}(B:PS X st (SS X cl (aM C d)))(A:iE X rest (SS X cl (aF C ds))):iE X (st::rest) (SS X cl (aF C (.cons d ds))):=by
 refine iE.imp (yI B A) ?_;rintro D Y H ⟨J,Z,m,f,m',r,l,e,k⟩;erw[pW,gH] at e;let⟨q,j,F,e⟩:=R.ah e;refine⟨J,Z,m,q,j,r,l,F,fun h L b a=>?_⟩;cases q with
 |nx g=>
  intro t z;exact⟨h,g,j,f,m',a,z,e,fun u I x y=>k _ _ (b.trans a x) y⟩
 |rt w=>simp only at e;cases e;exact k _ _ b a
 |rz c w g=>simp only at e;cases e;rcases w with _ | ⟨f,w⟩<;>exact k _ _ b a
 |bk g=>simp only at e;cases e;exact k _ _ b a
 |ct g=>simp only at e;cases e;exact k _ _ b a
theorem Hg{a:Expr}{t:A}(L:PE X a (SE X cl (ao C d)))(I:PG X tg (SG X cl (fT C t)))(F:swapsWithSole [tg] a pos.line X.env=pure false)(hw:swappedStores [tg] a X.env=pure none)(M:(assignEach [tg] X.env).map (·.2)=[assign tg X.env]):PS X (.Assign [tg] a pos) (SS X cl (aM C (.asg t d))):=by
 refine PS.imp (sZ L I F hw M) ?_;rintro D Y H ⟨J,Z,m,f,m',r,l,e,k⟩;erw[fH] at e;let⟨w,q,O,e⟩:=R.ah e;let⟨Q,T,N,e⟩:=R.ah e;cases e;refine⟨J,Z,m,w,q,r,l,O,fun g H1 S h j z=>?_⟩;exact⟨g,Z,q,w,Q,_,j,l.mono r h,z,N,fun u U b x y B=>k _ _ (h.trans j x) y b B⟩
theorem ur{x:Str}{a:Expr}(z:X.N.Nodup)(hi:X.N[i]?=some x)(q:L2.Loc X.env.scope x)(y:PE X a (SE X cl (ao C d)))(t:swapsWith a @(.Name x p) pos.line X.env=pure false)(u:X.fn x=true\/X.env.scope.names.lookup x=some .local):PS X (.Assign [.Name x p] a pos) (SS X cl (aM C (.asg (.pt (.var i)) d))):=by
 refine PS.imp (Fv z hi q y t u) ?_;rintro D Y H ⟨J,Z,m,f,m',r,l,e,k⟩;erw[fH] at e;let⟨w,F,A,e⟩:=R.ah e;erw[fT,aD,R.bind] at e;cases e;exact⟨J,Z,m,w,_,r,l,A,fun g I B b h j=>k _ _ b h _ ((l.mono r b).set j)⟩
theorem CZ{a:Expr}(q:PE X a (SE X cl (ao C d)))(j:swapsWith a none pos.line X.env=pure false):PS X (.Expr a pos) (SS X cl (aM C (.expr d))):=by
 refine PS.imp (pC q j) ?_;rintro D Y H ⟨J,Z,m,f,m',r,l,e,k⟩;erw[lW] at e;let⟨w,y,t,e⟩:=R.ah e;cases e;exact⟨J,Z,m,w,_,r,l,t,fun g z u b h x=>k _ _ b h _ (l.mono r b)⟩
theorem Ac{a:Expr}(q:PE X a (SE X cl (ao C d))):PS X (.Return (some a) pos) (SS X cl (aM C (.ret d))):=by
 refine PS.imp (sY q) ?_;rintro D Y H ⟨J,Z,m,f,m',r,l,e,k⟩;erw[rB] at e;let⟨w,x,t,e⟩:=R.ah e;cases e;exact⟨J,Z,m,w,_,r,l,t,fun b y u g h j=>k _ _ g h _ j⟩
theorem p6:PS X (.Return none pos) (SS X cl (aM C .retN)):=by
 refine PS.imp BF ?_;rintro D Y H ⟨J,Z,m,f,m',r,l,e,k⟩;erw[pS] at e;cases e;exact k _ _ Ext.refl r _ .non
theorem vB:PS X (.Pass pos) (SS X cl (aM C .pass)):=by
 refine PS.imp BE ?_;rintro D Y H ⟨J,Z,m,f,m',r,l,e,k⟩;erw[pU] at e;cases e;exact k _ _ Ext.refl r _ l
theorem Hh:PS X (.Break pos) (SS X cl (aM C .brk)):=by
 refine PS.imp yJ ?_;rintro D Y H ⟨J,Z,m,f,m',r,l,e,k⟩;erw[vh] at e;cases e;exact k _ _ Ext.refl r _ l
theorem C0:PS X (.Continue pos) (SS X cl (aM C .cont)):=by
 refine PS.imp qL ?_;rintro D Y H ⟨J,Z,m,f,m',r,l,e,k⟩;erw[pV] at e;cases e;exact k _ _ Ext.refl r _ l
theorem mh:PS X st (SS X cl (aM C .never)):=by
 refine PS.imp yK ?_;rintro D Y H ⟨J,Z,m,f,m',r,l,e,k⟩;erw[kQ] at e;cases e
theorem Ad{t:Expr}{A:E}{a b:List Stmt}{F B:Ss}(I:PT X t (ST X cl (br C A)))(M:iE X a (SS X cl (aF C F)))(L:iE X b (SS X cl (aF C B))):PS X (.If t a b pos) (SS X cl (aM C (.ife A F B))):=by
 refine PS.imp (JM I M L) ?_;rintro D Y H ⟨J,Z,m,f,m',r,l,e,k⟩;erw[rC] at e;let⟨c,y,N,e⟩:=R.ah e;refine⟨J,Z,m,c,y,r,l,N,fun g Q h j=>?_⟩;split at e
 .ext z;rw[Qn z];exact⟨g,Z,y,f,m',j,l.mono r h,e,fun q O u x=>k _ _ (h.trans j u) x⟩
 .ext z;rw[Qu z];exact⟨g,Z,y,f,m',j,l.mono r h,e,fun q O u x=>k _ _ (h.trans j u) x⟩
theorem Ext.sq(r:Rel X.K cl J m H)(x:Ext J H J' H'){a:Addr}(h:ef X.K H a vs):ef X.K H' a vs:=x.LU r Bv h
theorem Ae{t:T}{it:E}{body:List Stmt}{db:Ss}(hp:PassesOwn (model X.prog X.w) X.A X.env X.xe)(hc:X.calm=true)(hi:PI X tg iter (SI X cl (dw C it)))(hg:PG X tg (SG X cl (fT C (.pt t))))(hb:iE X body (SS X cl (aF C db)))
  (hs:∀x,foldedSetIterable iter X.env x=pure x):PS X (.For tg iter body [] pos) (SS X cl (aM C (.for_ t it db))):=by
 refine PS.imp (Fx hp hc hi hg hb hs) ?_;rintro D Y H ⟨J,Z,m,f,m',r,l,e,k⟩;erw[pT] at e;let⟨j,m1,e1,e⟩:=R.ah e;refine⟨J,Z,m,j,m1,r,l,e1,fun a H1 PZ F q is=>?_⟩;refine⟨λ i n Y H=>∃J Z m,Ext a H1 J H/\Rel X.K cl J m H/\RL X.K J H Z Y/\dX j.get t (fun Z m=>aF C db Z m) n i Z m=.ok f m',⟨_,a,Z,m1,Ext.refl,q,l.mono r F,e⟩,?_⟩;rintro i n Y H ⟨g,Z2,U,B,S,l2,b⟩;have pre:∃γ,g=a++γ:=let ⟨γ,h,_⟩:=B.pre;⟨γ,h⟩;let⟨go,I⟩:=is g U H i pre (λ h=>B.sq q h) (λ h=>B.fz q Bv h) S;unfold dX at b;split at b
 .cases b
 .ext e3;cases b;exact .inl ⟨I e3,k _ _ (F.trans q B) S _ l2⟩
 .ext w e3;let⟨g1,g2⟩:=go w e3;refine .inr ⟨g1,?_⟩;split at b
  .cases b
  .ext n';split at b
   .cases b
   .ext Z3 e4;let⟨ff,m4,e5,N⟩:=R.ah b;refine⟨fun u H'=>∃J Z m,Ext a H1 J H'/\Rel X.K cl J m H'/\RL X.K J H' Z u/\dX j.get t (fun Z m=>aF C db Z m) n' (i+1) Z m=.ok f m',fun u H' h=>⟨n',RV _,h⟩,λ x H' y=>?_⟩;let⟨x3,r3,q3⟩:=g2 x H' y;refine⟨g,Z2,U,w,Z3,U,r3,l2.mono S x3,q3,by erw[fT,e4],fun β5 H5 Y5 x5 r5 l5=>?_⟩;refine⟨β5,Z3,U,ff,m4,r5,l5,e5,fun z H6 x6 L=>?_⟩;have Q:=((B.trans S x3).trans r3 x5).trans r5 x6;cases ff with
    |nx O=>exact fun Y6 M=>⟨z,O,m4,Q,L,M,N⟩
    |ct O=>exact fun Y6 M=>⟨z,O,m4,Q,L,M,N⟩
    |bk O=>cases N;exact fun Y6 M=>k _ _ (F.trans q Q) L Y6 M
    |rt w6=>cases N;exact λ v6 q6=>k _ _ (F.trans q Q) L v6 q6
    |rz c w O=>cases N;rcases w with _ | ⟨f,w⟩<;>exact k _ _ (F.trans q Q) L
end
def dO(prog:Program)(w:World)(A:Around)(e elt:Expr)(d:Nat)(h:Value)(env:Env)(Q:Shared->Prop):Option Comprehension->Shared->Prop
 |none,s=>wpAny (model prog w) A (eval elt env) (λ x b=>wpAny (model prog w) A (call (.builtin "list.append") [h,x]) (λ _ a=>Q a) (λ _ _=>False) b) (λ _ _=>False) s
 |some g',s=>wpAny (model prog w) A (eval g'.iter env) (λ x b=>wpAny (model prog w) A (pyIter x) (λ j a=>codeAny (model prog w) A (.compStart e (d+1) j h env) (λ r g=>match r with
   |.ok _=>Q g
   |.error _=>False) a) (λ _ _=>False) b) (λ _ _=>False) s
theorem nG(elt target iter:Expr)(gens:List Comprehension)(ifs:List Expr)(scope:Scope)(pos:Pos)(d:Nat)(it a:Value)(env:Env)(h:gens[d]?=some ⟨target,iter,ifs,0⟩)(b:gens[d+1]?=none) :
  compTurn (.ListComp elt gens scope pos) d it a env=(do
   standAt iter.pos
   match <-pyNext it with
   |none=>pure (.done .next)
   |some v=>
    letOwnedTupleGo target it v
    assign target env v
    let mut ok:=true
    for c in ifs do
     if ok then ok <-isTrue c env (eval c env)
    if ok then
     (do let _ <-call (.builtin "list.append") [a,<-eval elt env])
    again (.compLoop (.ListComp elt gens scope pos) d it a env)):=by
 unfold compTurn;erw[h,b];rfl
theorem nH(elt target iter b a:Expr)(gens:List Comprehension)(ifs j:List Expr)(scope:Scope)(pos:Pos)(d:Nat)(it g:Value)(env:Env)(h:gens[d]?=some ⟨target,iter,ifs,0⟩)(k:gens[d+1]?=some ⟨b,a,j,0⟩) :
  compTurn (.ListComp elt gens scope pos) d it g env=(do
   standAt iter.pos
   match <-pyNext it with
   |none=>pure (.done .next)
   |some v=>
    letOwnedTupleGo target it v
    assign target env v
    let mut ok:=true
    for c in ifs do
     if ok then ok <-isTrue c env (eval c env)
    if ok then
     let x <-eval a env
     standAt a.pos
     let x <-foldedSetIterable a env x
     let _ <-runOwn (.compStart (.ListComp elt gens scope pos) (d+1) (<-holding [x] (pyIter x)) g env) env
    again (.compLoop (.ListComp elt gens scope pos) d it g env)):=by
 unfold compTurn;erw[h,k];rfl
section
variable{prog:Program}{w:World}{A:Around}{R:Result->Shared->Prop}{s:Shared}
theorem p7{d:Nat}{M:Value}(hg:gens[d]?=some ⟨target,iter,ifs,0⟩)(hn:∀g',gens[d+1]?=some g'->g'.is_async=0/\∀x,foldedSetIterable g'.iter env x=pure x)(I:Nat->Shared->Prop)
  (F:∀n s,I n s->wpAny (model prog w) A (pyNext it) (λ r q=>match r with
   |none=>R (.ok .next) q
   |some v=>wpAny (model prog w) A (letOwnedTupleGo target it v) (λ _ j=>wpAny (model prog w) A (assign target env v) (λ _ u=>
     wpAny (model prog w) A (forIn ifs true λ c r=>if r=true then do let ok <-isTrue c env (eval c env);pure (ForInStep.yield ok) else pure (ForInStep.yield r)) (λ ok l=>
      if ok=true then dO prog w A (.ListComp elt gens scope pos) elt d M env (λ t=>Exists λ m=>m<n/\I m t) gens[d+1]? l
      else Exists λ m=>m<n/\I m l) (λ _ _=>False) u) (λ _ _=>False) j) (λ _ _=>False) q) (λ _ _=>False) s)
  (n:Nat) (h:I n s) :
  codeAny (model prog w) A (.compLoop (.ListComp elt gens scope pos) d it M env) R s:=by
 refine codeAny_loop rfl I (λ n s hI=>?_) n h;show wpAny _ A ((compTurn (.ListComp elt gens scope pos) d it M env).onRaise (λ x=>do noteFrame x env;theTreesLotGoes x)) _ _ s;refine wpAny_noted ?_;cases Q:gens[d+1]? with
 |none=>
  rw[nG _ _ _ _ _ _ _ _ _ _ _ hg Q];refine Qa (Ra (Qa (Qw (F n s hI) (λ r q g=>?_) λ _ _ b=>b.elim)));cases r with
  |none=>exact Qj g
  |some v=>
   refine Qa (Qw g (λ _ j k=>?_) λ _ _ b=>b.elim);refine Qa (Qw k (λ _ u B=>Qa (Qw B (λ ok l a=>?_) λ _ _ b=>b.elim)) λ _ _ b=>b.elim);cases ok with
   |false=>exact Qj ⟨rfl,a⟩
   |true=>
    rw[Q] at a;exact Qa (Qa (Qw a (λ x O z=>Qa (Qw z (λ _ t y=>Qj (Qj ⟨rfl,y⟩)) λ _ _ b=>b.elim)) λ _ _ b=>b.elim))
 |some g'=>
  let⟨N,S,ifs',as⟩:=g';let⟨U,T⟩:=hn _ Q;have U:as=0:=U;subst U;rw[nH _ _ _ _ _ _ _ _ _ _ _ _ _ _ hg Q];refine Qa (Ra (Qa (Qw (F n s hI) (λ r q g=>?_) λ _ _ b=>b.elim)));cases r with
  |none=>exact Qj g
  |some v=>
   refine Qa (Qw g (λ _ j k=>?_) λ _ _ b=>b.elim);refine Qa (Qw k (λ _ u B=>Qa (Qw B (λ ok l a=>?_) λ _ _ b=>b.elim)) λ _ _ b=>b.elim);cases ok with
   |false=>exact Qj ⟨rfl,a⟩
   |true=>
    rw[Q] at a;refine Qa (Qw a (λ x O z=>?_) λ _ _ b=>b.elim);refine Qa (Ra (Qa (wpAny_of_eq (T x) (Qa (Q9 (Qw z (λ it' t y=>?_) λ _ _ b=>b.elim))))));refine Qa (wpAny_runOwn (Rz y λ r X L=>?_));cases r with
    |ok f=>exact Qj ⟨rfl,L⟩
    |error e=>exact L.elim
theorem f9{d:Nat}{a:Value}(q:gens[d]?=some ⟨target,iter,ifs,0⟩)
  (l:codeAny (model prog w) A (.compLoop (.ListComp elt gens scope pos) d it a env) R s)
  (h:wpAny (model prog w) A (pyIter it) (λ b g=>codeAny (model prog w) A (.compLoop (.ListComp elt gens scope pos) d b a env) R g)
   (notedBy (model prog w) A env λ x g=>R (.error x) g) s) :
  codeAny (model prog w) A (.compStart (.ListComp elt gens scope pos) d it a env) R s:=by
 refine codeAny_of_tree ?_;show wpAny _ _ ((compStart (.ListComp elt gens scope pos) d it a env).onRaise (λ x=>do noteFrame x env;standAt theWindowsPlace)) _ _ s;refine wpAny_notedAt ?_;unfold compStart;have j:(clausesOf (.ListComp elt gens scope pos))[d]?=some ⟨target,iter,ifs,0⟩:=q;erw[j];show wpAny _ _ (ask >>= _) _ _ s;refine Qa (wpAny_askSetting (wpAny_ite ?_));split
 .first
   |exact Qa (Qj (Qj (And.intro rfl l)))
   |exact Qj (And.intro rfl l)
 .first
   |exact Qa (Ui (Qa (Ra (Qa (Qw h (λ b g k=>Qj (And.intro rfl k)) λ _ _ x=>x)))))
   |(refine Qa (Ui ?_);show wpAny _ _ (standAt iter.pos >>= _) _ _ s;exact Qa (Ra (Qa (Qw h (λ b g k=>Qj (And.intro rfl k)) λ _ _ x=>x))))
def rS(prog:Program)(w:World)(A:Around)(e:Expr)(d:Nat)(tg:Expr)(ifs:List Expr)(it l:Value)(env:Env)(rw:(Shared->Prop)->Shared->Prop):Prop:=
 ∀(R:Result->Shared->Prop) (s:Shared) (I:Nat->Shared->Prop),
  (∀n s,I n s->wpAny (model prog w) A (pyNext it) (λ r b=>match r with
   |none=>R (.ok .next) b
   |some v=>wpAny (model prog w) A (letOwnedTupleGo tg it v) (λ _ g=>wpAny (model prog w) A (assign tg env v) (λ _ j=>
     wpAny (model prog w) A (forIn ifs true λ c r=>if r=true then do let k <-isTrue c env (eval c env);pure (ForInStep.yield k) else pure (ForInStep.yield r)) (λ k a=>
      if k=true then rw (λ h=>Exists λ m=>m<n/\I m h) a
      else Exists λ m=>m<n/\I m a) (λ _ _=>False) j) (λ _ _=>False) g) (λ _ _=>False) b) (λ _ _=>False) s)->
  ∀n,I n s->codeAny (model prog w) A (.compLoop e d it l env) R s
theorem i7{d:Nat}{b:Value}(j:gens[d]?=some ⟨target,iter,ifs,0⟩)(g:∀g',gens[d+1]?=some g'->g'.is_async=0/\∀x,foldedSetIterable g'.iter env x=pure x) :
  rS prog w A (.ListComp elt gens scope pos) d target ifs it b env (λ Q s=>dO prog w A (.ListComp elt gens scope pos) elt d b env Q gens[d+1]? s):=
 λ _ _ I a n h=>p7 j g I a n h
end
def PB(X:L2.Cx)(rw:(Shared->Prop)->Shared->Prop)(t:L2.St->Hp->(L2.St->Hp->Prop)->Prop):Prop:=
 ∀(aa:List (Addr×Obj)) (s:Shared) (Y:L2.St) (H:Hp) (Q:L2.St->Hp->Prop),Inv X aa Y H s->t Y H Q->rw (λ b=>∃a H',Inv X aa a H' b/\Q a H') s
inductive Hi(K:ae)(J:List Addr)(H:Hp):List W->List (Str×V)->Prop
 |nil:Hi K J H [] []
 |cons {k w v ws vs}:RW K J H w v->Hi K J H ws vs->Hi K J H (.tup [.str k,w]::ws) ((k,v)::vs)
def AK(b:Bool)(K:ae)(J:List Addr)(H:Hp)(Δ:Addr)(a:List W):Prop:=match b with
 |false=>∃vs,H Δ=some (.lst vs)/\aS K J H a vs
 |true=>∃gs,H Δ=some (.dK (fX [] (keyed gs)))/\Hi K J H a gs
inductive SB(b:Bool)(X:L2.Cx)(cl:Cl)(Δ:Addr)(ev:Loc->Mem->List W->R (List W×Loc))(Y:L2.St)(H:Hp)(Q:L2.St->Hp->Prop):Prop
 |mk (J:List Addr) (Z:Loc) (m:Mem) (acc acc':List W) (ρ':Loc) (m':Mem) (h1:Rel X.K cl J m H) (h2:RL X.K J H Z Y) (h3:AK b X.K J H Δ acc) (h4:Δ∉J) (h5:ev Z m acc=.ok (acc',ρ') m') (h6:∀J' H' σ',cU (some Δ) J H J' H'->Rel X.K cl J' m' H'->RL X.K J' H' ρ' σ'->AK b X.K J' H' Δ acc'->Δ∉J'->Q σ' H'):SB b X cl Δ ev Y H Q
section
variable{X:L2.Cx}{cl:Cl}{C:D.Cx}{e elt:Expr}{gens:List Comprehension}{d:Nat}{Δ:Addr}{bk:Bool}
theorem Hi.cu{Δ:Option Addr}(r:Rel K cl J m H)(g:∀d,Δ=some d->jQ (H d))(x:cU Δ J H J' H')(q:Hi K J H ws gs):Hi K J' H' ws gs:=by
 induction q with
 |nil=>exact .nil
 |cons a _ b=>exact .cons (a.cu r g x) b
theorem AK.acc{a:List W}(h:AK bk K J H Δ a):jQ (H Δ):=by
 cases bk
 .let⟨vs,e,_⟩:=h;rw[e];trivial
 .let⟨vs,e,_⟩:=h;rw[e];trivial
theorem AK.KZ{a:List W}(h:AK bk K J H Δ a):∀d,some Δ=some d->jQ (H d):=λ d z=>by cases z;exact h.acc
theorem AK.C1{a:List W}(h:AK bk K J H Δ a):∀d,some Δ=some d->H d≠none:=λ d z e=>by cases z;have q:=h.acc;rw[e] at q;exact q
theorem Ext.Ks(x:Ext J H J' H')(b:jQ (H Δ))(g:Δ∉J):Δ∉J':=λ z=>by
 let⟨h,rfl,a⟩:=x.pre;rcases Qz.mp z with z | z
 .exact g z
 .rw[a _ z] at b;exact b
theorem AK.mono{a:List W}(h:AK bk K J H Δ a)(r:Rel K cl J m H)(x:Ext J H J' H')(b:Δ∉J):AK bk K J' H' Δ a/\Δ∉J':=by
 refine⟨?_,x.Ks h.acc b⟩;cases bk
 .let⟨vs,e,q⟩:=h;exact⟨vs,x.keep e b 's',q.mono r x⟩
 .let⟨vs,e,q⟩:=h;exact⟨vs,x.keep e b 's',q.cu r Bv x⟩
theorem Hj{S:E}(N:X.xe=λ _ _=>False)(hn:gens[d+1]?=none)(he:PE X elt (SE X cl (ao C S))):PB X (λ Q s=>dO X.prog X.w X.A e elt d (.ref Δ) X.env Q gens[d+1]? s) (SB false X cl Δ (gZ C (.elt S))):=by
 intro aa s Y H Q I h;let⟨J,Z,m,acc,U,ρ',m',r,l,ak,nd,t,k⟩:=h;erw[ic] at t;let⟨w,m1,e1,t⟩:=R.ah t;split at t
 .ext hl;cases t;show dO X.prog X.w X.A e elt d (.ref Δ) X.env _ gens[d+1]? s;rw[hn];have O:=he aa s Y H (λ v j=>∃a,Ext J H a j/\Rel X.K cl a m' j/\RW X.K a j w v) I ⟨J,Z,m,w,m',r,l,e1,fun a j v1 x g L=>⟨a,x,g,L⟩⟩;rw[N] at O;refine Qw O (λ u s1 ⟨v,j,I1,rv,a,x,g,L⟩=>?_) λ _ _ z=>z;let⟨b,y⟩:=ak.mono r x nd;let⟨vs,M,q⟩:=id b;have B:vs.length<sizeLine:=Qm (by rw[<-q.length];exact hl) bS;have T:=nY (X:=X) aa s1 Y j (.ref Δ) [v] (.ref Δ) [u] (λ _ H'=>H'=upd j Δ (.lst (vs++[v]))) I1 rfl %[|rv] ⟨_,vs,v,rfl,rfl,M,B,rfl⟩;rw[N] at T;refine Qw T (λ _ s2 ⟨_,H2,I2,_,e2⟩=>?_) λ _ _ z=>z;subst e2;let⟨F,r2⟩:=g.Nq (u':=.lst (vs++[v])) b.acc y;refine⟨Y,_,I2,k a _ Y (x.toD.trans g F b.C1) r2 ((l.mono r x).cu g b.KZ F) ⟨_,aB,?_⟩ y⟩;exact(q.cu g b.KZ F).append %[|L.cu g b.KZ F]
 .cases t
theorem rT{rw:(Shared->Prop)->Shared->Prop}{t:T}{PZ:It}{fp:List Addr}{it:Addr}{tn:Nat->Heap->Prop}{N:Src}
  (hx:X.xe=λ _ _=>False) (hc:X.calm=true) (hlr:rS X.prog X.w X.A e d tg ifs (.ref it) (.ref Δ) X.env rw) (hmo:∀{Q Q':Shared->Prop} {s:Shared},(∀s,Q s->Q' s)->rw Q s->rw Q' s)
  (Tu:Turn X.prog X.w X.K tg PZ fp it tn) (is:IS X cl PZ N β0 H0) (pg:PG X tg (SG X cl (fT C (.pt t)))) (yw:lN X ifs (ST X cl (bD C di))) (pb:PB X rw (SB bk X cl Δ (gZ C rest)))
 {ρ':Loc} {k F:List W} (I:Inv X aa Y H s) (st:tn 0 s.heap) (C2:∀b∈fp,jI X aa H b)
  (hpre:∃γ,J=β0++γ) (htup:∀{a:Addr} {vs:List V},ef X.K H0 a vs->ef X.K H a vs) (O7:∀{a:Addr} {o:Obj} {u:HO},H0 a=some (.frz o u)->H a=@(.frz o u)) (r:Rel X.K cl J m H) (l:RL X.K J H Z Y) (ak:AK bk X.K J H Δ k) (nd:Δ∉J)
  (ev:ck N.get t (fun Z m=>bD C di Z m) (fun Z m k=>gZ C rest Z m k) n 0 Z m k=.ok (F,ρ') m') {Rr:Result->Shared->Prop}
  (fin:∀s' g H' J',Inv X aa g H' s'->cU (some Δ) J H J' H'->Rel X.K cl J' m' H'->RL X.K J' H' ρ' g->AK bk X.K J' H' Δ F->Δ∉J'->Rr (.ok .next) s') :
  codeAny (model X.prog X.w) X.A (.compLoop e d (.ref it) (.ref Δ) X.env) Rr s:=by
 have M:∀{H':Hp},(∀b∈fp,H' b=none)->∀b∈fp,jI X aa H' b:=λ hn b S=>⟨hn b S,(C2 b S).2⟩;refine hlr _ _ (λ n s'=>∃i g H' J' Z1 O j,Inv X aa g H' s'/\tn i s'.heap/\(∀b∈fp,H' b=none)/\cU (some Δ) J H J' H'/\Rel X.K cl J' O H'/\RL X.K J' H' Z1 g/\AK bk X.K J' H' Δ j/\Δ∉J'/\
  ck N.get t (fun Z m=>bD C di Z m) (fun Z m k=>gZ C rest Z m k) n i Z1 O j=.ok (F,ρ') m') ?_ n ⟨0,Y,H,J,Z,m,k,I,st,λ b S=>(C2 b S).1,Ext.refl,r,l,ak,nd,ev⟩
 rintro n s1 ⟨i,σ1,H1,L,Z1,O,j,I1,st1,fr1,x1,r1,l1,ak1,nd1,e1⟩;have Nv:∃γ,L=β0++γ:=by
  let⟨γ,h1,_⟩:=x1.pre;let⟨δ,h2⟩:=hpre;exact⟨δ++γ,by rw[h1,h2,Rc]⟩
 let⟨go,stop⟩:=is L O H1 i Nv (λ h=>x1.LU r ak.KZ (htup h)) (λ h=>x1.fz r ak.KZ (O7 h)) r1;unfold ck at e1;split at e1
 .cases e1
 .ext e2;cases e1;refine Qw (Tu.done X rfl rfl rfl hc i aa s1 σ1 H1 (λ _ _=>False) I1 (M fr1) st1 (stop e2)) (λ rr s2 ⟨hr,I2⟩=>?_) λ _ _ z=>z;subst hr;exact fin s2 σ1 H1 L I2 x1 r1 l1 ak1 nd1
 .ext w e2;let⟨g1,g2⟩:=go w e2;split at e1
  .cases e1
  .ext n';split at e1
   .cases e1
   .ext Z2 e3;let⟨b,m3,e4,e5⟩:=R.ah e1;refine Qw (Tu.item X rfl rfl rfl hc i aa s1 σ1 H1 (λ _ _=>False) I1 (M fr1) st1 g1) (λ rr s2 ⟨u,hr,h2⟩=>?_) λ _ _ z=>z;subst hr;refine Qw h2 (λ _ s3 ⟨x,H3,I3,r3,y3,st3,fr3⟩=>?_) λ _ _ z=>z;let⟨x3,rr3,q3⟩:=g2 x H3 y3;let⟨ak3,nd3⟩:=ak1.mono r1 x3 nd1;have O8:=I3.pinned (M fr3) (Tu.obj _ _ st3);have l3:=l1.mono r1 x3;have Ol:=pg _ s3 σ1 H3 x u (fun Y4 H4=>∃B,Ext L H3 B H4/\Rel X.K cl B O H4/\RL X.K B H4 Z2 Y4) O8 r3 ⟨L,Z1,O,w,Z2,O,rr3,l3,q3,by erw[fT,e3],fun B H4 Y4 x4 r4 l4=>⟨B,x4,r4,l4⟩⟩;rw[hx] at Ol;refine Qw Ol (λ _ s4 ⟨Y4,H4,I4,B,x4,r4,l4⟩=>?_) λ _ _ z=>z;let⟨ak4,nd4⟩:=ak3.mono rr3 x4 nd3;have Om:=yw _ s4 Y4 H4 (λ bb H5=>bb=b/\∃q,Ext B H4 q H5/\Rel X.K cl q m3 H5) I4 ⟨B,Z2,O,b,m3,r4,l4,e4,fun q H5 x5 r5=>⟨rfl,q,x5,r5⟩⟩;rw[hx] at Om;refine Qw Om (λ bb s5 ⟨H5,I5,S,q,x5,r5⟩=>?_) λ _ _ z=>z;subst S;let⟨ak5,nd5⟩:=ak4.mono r4 x5 nd4;have l5:=l4.mono r4 x5;have O9:Ext L H1 q H5:=(x3.trans rr3 x4).trans r4 x5;have Oo:cU (some Δ) J H q H5:=x1.trans r1 O9.toD ak1.C1;have U:∀{g:L2.St} {H':Hp} {s':Shared} {J':List Addr} {Z4:Loc} {m4:Mem} {C3:List W},Inv X (aa++lE fp s3.heap) g H' s'->cU (some Δ) J H J' H'->Rel X.K cl J' m4 H'->RL X.K J' H' Z4 g->AK bk X.K J' H' Δ C3->Δ∉J'->
      ck N.get t (fun Z m=>bD C di Z m) (fun Z m k=>gZ C rest Z m k) n' (i+1) Z4 m4 C3=.ok (F,ρ') m'->
      Exists λ mm=>mm<n'+1/\∃i g H' J' Z1 O j,Inv X aa g H' s'/\tn i s'.heap/\(∀b∈fp,H' b=none)/\cU (some Δ) J H J' H'/\Rel X.K cl J' O H'/\RL X.K J' H' Z1 g/\AK bk X.K J' H' Δ j/\Δ∉J'/\
       ck N.get t (fun Z m=>bD C di Z m) (fun Z m k=>gZ C rest Z m k) mm i Z1 O j=.ok (F,ρ') m':=λ {g H' s' J' Z4 m4 C3} I' x' r' l' ak' nd' e'=>by
     refine⟨n',RV _,i+1,g,H',J',Z4,m4,C3,I'.jb,Tu.keep _ _ _ st3 λ b S o eo=>(I'.pin (b,o) (QL _ (QL _ (gA S eo)))).1,λ b S=>?_,x',r',l',ak',nd',e'⟩;let⟨o,eo,_⟩:=Tu.obj _ _ st3 b S;exact(I'.pin (b,o) (QL _ (QL _ (gA S eo)))).2.1
    cases bb with
    |false=>exact U I5 Oo r5 l5 ak5 nd5 e5
    |true=>
     erw[Qx] at e5 ⊢;let⟨p,m6,e6,e7⟩:=R.ah e5;let⟨acc6,Z6⟩:=p;have Pa:=pb _ s5 Y4 H5 (fun Y6 H6=>∃y,cU (some Δ) q H5 y H6/\Rel X.K cl y m6 H6/\RL X.K y H6 Z6 Y6/\AK bk X.K y H6 Δ acc6/\Δ∉y) I5 ⟨q,Z2,m3,j,acc6,Z6,m6,r5,l5,ak5,nd5,e6,fun y H6 Y6 x6 r6 l6 ak6 nd6=>⟨y,x6,r6,l6,ak6,nd6⟩⟩;refine hmo (λ s6 ⟨Y6,H6,I6,y,x6,r6,l6,ak6,nd6⟩=>?_) Pa;exact U I6 (Oo.trans r5 x6 ak5.C1) r6 l6 ak6 nd6 e7
theorem iu{w:World}{A:Around}{Q Q':Shared->Prop}{o:Option Comprehension}(b:∀s,Q s->Q' s)(h:dO P w A e elt d (.ref Δ) env Q o s):dO P w A e elt d (.ref Δ) env Q' o s:=by
 cases o with
 |none=>exact Qw h (λ _ _ h=>Qw h (λ _ s z=>b s z) λ _ _ z=>z) λ _ _ z=>z
 |some g=>exact Qw h (λ _ _ h=>Qw h (λ _ s z=>Rz z λ j k a=>by
   cases j with
   |ok f=>exact b _ a
   |error e=>exact a) λ _ _ z=>z) λ _ _ z=>z
theorem K0{t:T}{qF:E}(hx:X.xe=λ _ _=>False)(hc:X.calm=true)(S:gens[d+1]?=some ⟨tg,iter,ifs,0⟩)(hn:∀g',gens[d+1+1]?=some g'->g'.is_async=0/\∀x,foldedSetIterable g'.iter X.env x=pure x)
  (hi:PI X tg iter (SI X cl (dw C qF))) (pg:PG X tg (SG X cl (fT C (.pt t)))) (yw:lN X ifs (ST X cl (bD C di))) (pb:PB X (λ Q s=>dO X.prog X.w X.A (.ListComp elt gens scope pos) elt (d+1) (.ref Δ) X.env Q gens[d+1+1]? s) (SB false X cl Δ (gZ C rest))) :
  PB X (λ Q s=>dO X.prog X.w X.A (.ListComp elt gens scope pos) elt d (.ref Δ) X.env Q gens[d+1]? s) (SB false X cl Δ (gZ C (.gen t [] qF di rest))):=by
 intro aa s Y H Q I h;let⟨J,Z,m,acc,acc',ρ',m',r,l,ak,nd,L,k⟩:=h;erw[ic,fY] at L;let⟨u,m1,e1,L⟩:=R.ah L;show dO X.prog X.w X.A (.ListComp elt gens scope pos) elt d (.ref Δ) X.env _ gens[d+1]? s;rw[S];have go:=hi aa s Y H (λ PZ B=>∃a,Ext J H a B/\Rel X.K cl a m1 B/\IS X cl PZ u a B) I ⟨J,Z,m,u,m1,r,l,e1,fun a B PZ j F O=>⟨a,j,F,O⟩⟩;rw[hx] at go;refine Qw go (λ v s1 h1=>Qw h1 (λ itv s2 h2=>?_) λ _ _ z=>z) λ _ _ z=>z;let⟨it,fp,tn,PZ,B,e2,I1,Tu,st,C2,a,j,F,O⟩:=h2;subst e2;let⟨y,M⟩:=ak.mono r j nd;have g:codeAny (model X.prog X.w) X.A (.compLoop (.ListComp elt gens scope pos) (d+1) (.ref it) (.ref Δ) X.env) (λ rr q=>match rr with
   |.ok _=>∃b H',Inv X aa b H' q/\Q b H'
   |.error _=>False) s2:=
  rT hx hc (i7 S hn) iu Tu O pg yw pb I1 st C2 ⟨[],by simp⟩ (λ h=>h) (λ h=>h) F (l.mono r j) y M L λ s' b H' J' I' x' r' l' U N=>⟨b,H',I',k J' H' b (j.toD.trans F x' y.C1) r' l' U N⟩
 exact f9 S g (Tu.self _ 0 _ _ _ st g)
theorem RL.fY:∀{js:List Nat} {Z:Loc} {Y:L2.St},RL K J H Z Y->RL K J H (D.fY js Z) (L2.fY js Y)
 | [],_,_,l=>l
 |j::js,Z,Y,l=>by
  refine RL.fY (js:=js) ⟨by simp[l.len],λ {i w} h=>?_⟩
  by_cases e:j=i
  .subst e;rw[UM] at h;rw[Qn rfl] at h;split at h<;>cases h
  .rw[QA e] at h ⊢;exact l.at_ h
def accN:Bool->Sem Value
 |false=>newList []
 |true=>newDict
def C4:Bool->Obj
 |false=>{cls:=.type "list",dict:=none,data:=.seq ([]:List Value).toArray}
 |true=>{cls:=.type "dict",dict:=none,data:=.dict #[]}
def p8:Bool->HO
 |false=>.lst []
 |true=>.dK []
theorem Af{A:Around}{Q:Value->Shared->Prop}{E:Value->Shared->Prop}(h:Q (.ref s⁻¹) {s with heap:=s.heap.push (C4 bk)}):wpAny (model X.prog X.w) A (accN bk) Q E s:=by
 cases bk<;>exact Rn h
theorem C5(I:Inv X aa Y H s):Inv X aa Y (upd H s⁻¹ (p8 bk)) {s with heap:=s.heap.push (C4 bk)}:=by
 cases bk
 .exact I.J5 (its:=[]) (t':=s.toks) .nil (RB _)
 .exact I.laid (a:=s⁻¹) (o:=.dK []) (h':=s.heap.push {cls:=.type "dict",data:=.dict #[]}) (t':=s.toks) (λ _ _ q=>Qd _ q) (Qf _) (qU s.heap I.big)
theorem AK.zero(h:H Δ=@(p8 bk)):AK bk K J H Δ []:=by
 cases bk
 .exact⟨[],h,.nil⟩
 .exact⟨[],h,.nil⟩
def uu(prog:Program)(w:World)(A:Around)(e:Expr):Prop:=∀(R:Result->Shared->Prop) (s:Shared) (it a:Value) (env:Env),codeAny (model prog w) A (.compLoop e 0 it a env) R s->
 wpAny (model prog w) A (pyIter it) (λ g b=>codeAny (model prog w) A (.compLoop e 0 g a env) R b) (notedBy (model prog w) A env λ x b=>R (.error x) b) s->codeAny (model prog w) A (.compStart e 0 it a env) R s
theorem rV{ev:Loc->Mem->R W}{js:List Nat}{gs:List Comprehension}{t:T}{qF:E}{rw:Env->Addr->(Shared->Prop)->Shared->Prop}(hc:X.calm=true)(ok:gD X.N js scope X.env.scope)(hcl:clausesOf e=⟨tg,iter,ifs,0⟩::gs)(hst:uu X.prog X.w X.A e)
  (hlr:∀it Δ env,rS X.prog X.w X.A e 0 tg ifs (.ref it) (.ref Δ) env (rw env Δ)) (hmo:∀{Δ:Addr} {env:Env} {Q Q':Shared->Prop} {s:Shared},(∀s,Q s->Q' s)->rw env Δ Q s->rw env Δ Q' s)
  (hev:∀{Z:Loc} {m:Mem} {w:W} {m':Mem},ev Z m=.ok w m'->∃acc Z9 m9 o,gZ C (.gen t js qF di rest) Z m []=.ok (acc,Z9) m9/\w=.ref m9.length/\m'=m9++[o]/\∀{J:List Addr} {H:Hp} {Δ:Addr},AK bk X.K J H Δ acc->RO X.K cl J H Δ o)
  (hi:PI X tg iter (SI X cl (dw C qF))) (pg:∀L g H₀ M pn,PG (X.comp scope L g H₀ M pn) tg (SG (X.comp scope L g H₀ M pn) cl (fT C (.pt t)))) (yw:∀L g H₀ M pn,lN (X.comp scope L g H₀ M pn) ifs (ST (X.comp scope L g H₀ M pn) cl (bD C di)))
  (pb:∀L g H₀ M pn Δ,PB (X.comp scope L g H₀ M pn) (rw (X.comp scope L g H₀ M pn).env Δ) (SB bk (X.comp scope L g H₀ M pn) cl Δ (gZ C rest)))
  (hs:∀x,foldedSetIterable iter X.env x=pure x) {Q:VK} (I:Inv X aa Y H s) (h:SE X cl ev Y H Q) {use:Option (Value->Sem Unit)} {Q':Value->Shared->Prop}
  (fin:∀(D Cf:Addr) (s':Shared) (H':Hp),(∀h',(∀b o,b≠Cf->s'.heap.get? b=some o->h'.get? b=some o)->Inv X aa Y H' {s' with heap:=h'})->Q (.ref D) H'->(∃m,s'.heap.Ns Cf m)->H' Cf=none->Cf≠X.env.locals->X.s₀⁻¹<=Cf->(∀x c,X.env.cells.lookup x=some c->c≠Cf)->(∀p∈X.pn++aa,p.1≠Cf)->
   compPost (model X.prog X.w) X.A X.xe use Q' (.ref D) Cf (.ok .next) s') :
  wpAny (model X.prog X.w) X.A (comprehension e scope X.env p (accN bk) false (eval iter X.env) use) Q' X.xe s:=by
 let⟨J,Z,m,w,m',r,l,ew,k⟩:=h;let⟨ws,Z9,m9,ob,e8,rfl,rfl,hob⟩:=hev ew;clear ew;erw[ic] at e8;let⟨src,m1,e1,e9⟩:=R.ah e8;clear e8;have hclos:closureFor scope X.env=pure (dF X.env scope.names []):=nA λ y hy hk=>I.ok.has y.1 (ok.free y hy hk);refine wpAny_comprehension_free hcl hs hclos ok.kind ok.loc (bP (hi aa s Y H (λ PZ H1=>∃U,Ext J H U H1/\Rel X.K cl U m1 H1/\IS X cl PZ src U H1) I ⟨J,Z,m,src,m1,r,l,e1,fun U H1 PZ x1 r1 is=>⟨U,x1,r1,is⟩⟩) λ v s1 h1=>bP h1 λ itv B h2=>?_);let⟨it,M,tn,PZ,H2,e2,I2,Tu,st2,f2,S,x2,r2,is⟩:=h2;subst e2;have LY:H2 B⁻¹=none:=I2.fresh;refine Af ?_;have I3:Inv X aa Y (upd H2 B⁻¹ (p8 bk)) {B with heap:=B.heap.push (C4 bk)}:=C5 I2;generalize hs3:({B with heap:=B.heap.push (C4 bk)}:Shared)=s3 at I3 ⊢;have K1:∀b o,B.heap.get? b=some o->s3.heap.get? b=some o:=λ b o e=>by rw[<-hs3];exact Qd _ e
 have C6:∀b∈M,b<B⁻¹:=λ b j=>by
  let⟨o,e,_⟩:=Tu.obj _ _ st2 b j;exact Qg e
 have Hl:s3⁻¹=B⁻¹+1:=by rw[<-hs3];exact RA _ _
 have f3:∀b∈M,jI X aa (upd H2 B⁻¹ (p8 bk)) b:=λ b j=>⟨by rw[aq (Qo (C6 b j))];exact(f2 b j).1,(f2 b j).2⟩;refine I3.enter ok f3 (λ b j=>by rw[Hl];exact Sd (C6 b j)) λ O h₁ old F I4=>?_;have Oq:tn 0 h₁:=Tu.keep _ _ _ st2 λ b j o e=>old _ _ (K1 _ _ e);have stat:∀{H':Hp},(∀b∈M,H' b=none)->∀b∈M,jI (X.comp scope O s3 (upd H2 B⁻¹ (p8 bk)) M aa) [] H' b:=λ {H'} hn b j=>by
  refine⟨hn b j,?_,λ z=>?_,.inl j,λ x c e=>?_,λ p hp=>?_⟩
  .show b≠s3⁻¹;exact Qo (by rw[Hl];exact Sd (C6 b j))
  .rcases Qv.mp (I3.jH b z) with q | q
   .exact(f2 b j).2.1 q
   .exact(f2 b j).2.2.1 q
  .rcases F.old x c e with e | e
   .exact(f2 b j).2.2.2.2.1 x c e
   .exact Ry (UL (by rw[Hl];exact Sd (C6 b j)) e)
  .exact(f2 b j).2.2.2.2.2 p (~~~hp)
 have x3:Ext S H2 S (upd H2 B⁻¹ (p8 bk)):=⟨⟨[],by simp,by simp⟩,λ h _ _=>by rw[aq (aA h LY)];exact h⟩;have r3:Rel X.K cl S m1 (upd H2 B⁻¹ (p8 bk)):=⟨r2.len,r2.nd,λ h1 h2=>by
  have q:=r2.obj h1 h2;let⟨u,e,_⟩:=q.ex;exact q.mono r2 x3 (aq (aA e LY))⟩
 have l3:RL X.K S (upd H2 B⁻¹ (p8 bk)) (D.fY js Z) (L2.fY js Y):=((l.mono r x2).mono r2 x3).fY;have nD:B⁻¹∉S:=r2.Ks LY;have hD:H B⁻¹=none:=by
  cases z:H B⁻¹ with
  |none=>rfl
  |some o=>
   by_cases j:B⁻¹∈J
   .let⟨γ,hγ,_⟩:=x2.pre;exact absurd (by rw[hγ];exact Q8 _ j) nD
   .have:=x2.keep z j 's';rw[LY] at this;cases this
 have loop:∀s₄:Shared,s₄={s3 with heap:=h₁}->
   codeAny (model X.prog X.w) X.A (.compLoop e 0 (.ref it) (.ref B⁻¹) (compEnvC scope O s3⁻¹ X.env))
    (compPost (model X.prog X.w) X.A X.xe use Q' (.ref B⁻¹) s3⁻¹) s₄:=by
  intro s₄ e₄;subst e₄;refine rT (X:=X.comp scope O s3 (upd H2 B⁻¹ (p8 bk)) M aa) (cl:=cl) (C:=C) (Δ:=B⁻¹) rfl hc (hlr _ _ _) hmo Tu is (pg _ _ _ _ _) (yw _ _ _ _ _) (pb _ _ _ _ _ _)
   I4 Oq (stat λ b j=>(f3 b j).1) ⟨[],by simp⟩ (λ h=>x3.LU r2 Bv h) (λ h=>x3.fz r2 Bv h) r3 l3 (AK.zero aB) nD e9 ?_
  intro s' σ' H' J' I' x' r' l' ak' nd';let⟨m6,hm6,_⟩:=id I'.loc;have Ny:=r'.out nd' (hob ak');have Nz:Ext J H (J'++[B⁻¹]) H':=by
   let⟨γ,hγ,fγ⟩:=x2.pre;let⟨δ,hδ,fδ⟩:=x'.pre;refine⟨⟨γ++δ++[B⁻¹],by rw[hδ,hγ];simp,λ a ha=>?_⟩,λ {a o} h j _=>?_⟩
   .rcases Qz.mp ha with ha | ha
    .rcases Qz.mp ha with ha | ha
     .exact fγ a ha
     .have z3:=fδ a ha;have na:a≠B⁻¹:=by
       rintro rfl;rw[aB] at z3;cases z3
      rw[aq na] at z3;cases z:H a with
      |none=>rfl
      |some o=>
       by_cases j:a∈J
       .let⟨u,eu,_⟩:=r2.ex (a:=a) (by rw[hγ];exact Q8 _ j);rw[z3] at eu;cases eu
       .have:=x2.keep z j 's';rw[z3] at this;cases this
    .simp at ha;rw[ha];exact hD
   .have h2:=x2.keep h j 's';have na:a≠B⁻¹:=aA h hD;have nb:a∉S:=λ z=>by
     rw[hγ] at z;rcases Qz.mp z with z | z
     .exact j z
     .rw[fγ a z] at h;cases h
    exact x'.keep (by rw[aq na];exact h2) nb (~~~na)
  have NB:Q (.ref B⁻¹) H':=k _ _ _ Nz Ny (.ref (r'.last _));refine fin _ _ s' H' (λ h' hk=>I3.Gj f3 I' hk) NB ⟨m6,hm6⟩ I'.free (Ry (Qm I3.lt (Qf _))) I3.sz (λ x c e=>?_) (λ p hp=>Qo (Qg (I3.pin p hp).1));let⟨v,o,q,_⟩:=I3.cell x c e;exact Qo (Qg q)
 exact hst _ _ _ _ _ (loop _ rfl) (Tu.self _ 0 _ _ _ Oq (loop _ rfl))
theorem Ag{k:Key}{a:List (Key×V)}(h:∀p∈a,p.1≠k):putK a k v=a++[(k,v)]:=by
 unfold putK;rw[Qu];intro z;let⟨p,b,e⟩:=List.any_eq_true.mp z;exact h p b (Se e)
theorem xQ:∀{a b:List (Key×V)},(a.map (·.1)).Nodup->(∀p∈b,∀q∈a,p.1≠q.1)->fX b a=b++a:=by
 intro a
 induction a with
 |nil=>intro b _ _;simp[fX]
 |cons q r l=>
  intro b h k;rw[QF,SQ] at h;have e:fX b (q::r)=fX (putK b q.1 q.2) r:=rfl;rw[e,Ag λ p g=>k p g q QM,l h.2 λ p g x j=>?_,Rc]
  .rfl
  .rcases Qz.mp g with g | g
   .exact k p g x (QC _ j)
   .rw[QV] at g;subst g;intro z;exact h.1 (QB.mpr ⟨x,j,z.symm⟩)
theorem rW{g:List (Str×V)}(h:(g.map (·.1)).Nodup):((keyed g).map (·.1)).Nodup:=by
 have e:(keyed g).map (·.1)=(g.map (·.1)).map (Sum.inr:Str->Key):=by simp[keyed,Sg]
 rw[e];generalize g.map (·.1)=l at h
 induction l with
 |nil=>exact UQ
 |cons a r j=>
  rw[SQ] at h;rw[QF,SQ];refine⟨λ z=>?_,j h.2⟩;let⟨b,k,e⟩:=QB.mp z;cases e;exact h.1 k
variable{scope:Scope}{pos:Pos}{js:List Nat}{tg iter:Expr}{ifs:List Expr}{t:T}{qF:E}{di:Es}{rest:G}
theorem vC(h:ao C (.comp (.gen t js qF di rest)) Z m=.ok w m'):∃b g a o,gZ C (.gen t js qF di rest) Z m []=.ok (b,g) a/\w=.ref a.length/\m'=a++[o]/\∀{J:List Addr} {H:Hp} {Δ:Addr},AK false X.K J H Δ b->RO X.K cl J H Δ o:=by
 erw[gG] at h;let⟨⟨ws,g⟩,a,k,j⟩:=R.ah h;cases j;exact⟨ws,g,a,.lst ws,k,rfl,rfl,λ h=>h⟩
section
variable{ev:Loc->Mem->R W}{gs:List Comprehension}{rw:Env->Addr->(Shared->Prop)->Shared->Prop}
theorem C7(hc:X.calm=true)(U:gD X.N js scope X.env.scope)(L:clausesOf e=⟨tg,iter,ifs,0⟩::gs)(r:uu X.prog X.w X.A e)
  (B:∀it Δ env,rS X.prog X.w X.A e 0 tg ifs (.ref it) (.ref Δ) env (rw env Δ)) (y:∀{Δ:Addr} {env:Env} {Q Q':Shared->Prop} {s:Shared},(∀s,Q s->Q' s)->rw env Δ Q s->rw env Δ Q' s)
  (F:∀{Z:Loc} {m:Mem} {w:W} {m':Mem},ev Z m=.ok w m'->∃k Z9 l o,gZ C (.gen t js qF di rest) Z m []=.ok (k,Z9) l/\w=.ref l.length/\m'=l++[o]/\∀{J:List Addr} {H:Hp} {Δ:Addr},AK bk X.K J H Δ k->RO X.K cl J H Δ o)
  (hi:PI X tg iter (SI X cl (dw C qF))) (O:∀g a H₀ j pn,PG (X.comp scope g a H₀ j pn) tg (SG (X.comp scope g a H₀ j pn) cl (fT C (.pt t)))) (M:∀g a H₀ j pn,lN (X.comp scope g a H₀ j pn) ifs (ST (X.comp scope g a H₀ j pn) cl (bD C di)))
  (S:∀g a H₀ j pn Δ,PB (X.comp scope g a H₀ j pn) (rw (X.comp scope g a H₀ j pn).env Δ) (SB bk (X.comp scope g a H₀ j pn) cl Δ (gZ C rest)))
  (hs:∀x,foldedSetIterable iter X.env x=pure x) (Ho:eval e X.env=comprehension e scope X.env pp (accN bk) false (eval iter X.env) none):PE X e (SE X cl ev):=by
 intro aa s Y H Q I h;rw[Ho];refine rV hc U L r B y F hi O M S hs I h ?_;intro D Cf s' H' hI q z hn h1 h2 h3 h4;let⟨m,z⟩:=z;exact⟨m,z,λ h' u=>⟨.ref D,H',hI h' λ b o hb e=>u.extBut b o hb e,rfl,q⟩⟩
theorem C8{y:Str}{L B:Pos}{de:E}(hN:X.N.Nodup)(hy:X.N[i]?=some y)(hx:L2.Loc X.env.scope y)(hc:X.calm=true)(ok:gD X.N js scope X.env.scope)(hcl:clausesOf e=⟨tg,iter,ifs,0⟩::gs)(hst:uu X.prog X.w X.A e)
  (hlr:∀it Δ env,rS X.prog X.w X.A e 0 tg ifs (.ref it) (.ref Δ) env (rw env Δ)) (hmo:∀{Δ:Addr} {env:Env} {Q Q':Shared->Prop} {s:Shared},(∀s,Q s->Q' s)->rw env Δ Q s->rw env Δ Q' s)
  (hev:∀{Z:Loc} {m:Mem} {w:W} {m':Mem},ao C de Z m=.ok w m'->∃O Z9 S o,gZ C (.gen t js qF di rest) Z m []=.ok (O,Z9) S/\w=.ref S.length/\m'=S++[o]/\∀{J:List Addr} {H:Hp} {Δ:Addr},AK bk X.K J H Δ O->RO X.K cl J H Δ o)
  (hi:PI X tg iter (SI X cl (dw C qF))) (pg:∀j g H₀ z pn,PG (X.comp scope j g H₀ z pn) tg (SG (X.comp scope j g H₀ z pn) cl (fT C (.pt t)))) (yw:∀j g H₀ z pn,lN (X.comp scope j g H₀ z pn) ifs (ST (X.comp scope j g H₀ z pn) cl (bD C di)))
  (pb:∀j g H₀ z pn Δ,PB (X.comp scope j g H₀ z pn) (rw (X.comp scope j g H₀ z pn).env Δ) (SB bk (X.comp scope j g H₀ z pn) cl Δ (gZ C rest)))
  (hs:∀x,foldedSetIterable iter X.env x=pure x) (U:swapsWith e @(.Name y L) B.line X.env=pure true) (hf:X.fn y=true\/X.env.scope.names.lookup y=some .local)
 (MX:evalThenUse e X.env (assign (.Name y L) X.env)=(do let _ <-comprehension e scope X.env pp (accN bk) false (eval iter X.env) @(assign (.Name y L) X.env))) :
  PS X (.Assign [.Name y L] e B) (SS X cl (aM C (.asg (.pt (.var i)) de))):=by
 intro aa s Y H D I h;let⟨J,Z,m,f,m',r,l,M,k⟩:=h;erw[fH] at M;let⟨w,m1,e1,M⟩:=R.ah M;erw[fT,aD,R.bind] at M;cases M;have h:SE X cl (ao C de) Y H (λ v H'=>D.nx (Y.set i (some v)) H'):=⟨J,Z,m,w,_,r,l,e1,fun β1 H1 v1 x1 r1 q1=>k _ _ x1 r1 _ ((l.mono r x1).set q1)⟩;rw[exec_Assign_Name_used _ _ _ _ U];refine Qa (Ra (Qa ?_));rw[MX];refine Qa (Qw (rV (use:=@(assign (.Name y L) X.env)) (Q':=λ _ F=>SP X aa D .next F) hc ok hcl hst hlr hmo hev hi pg yw pb hs I h ?_) (λ _ F hq=>Qj (Qj hq)) λ _ _ e=>e);intro Dl Cf F H' hI q hm hn h1 h2 h3 h4;let⟨m,hm⟩:=hm;have I':Inv X aa Y H' F:=hI F.heap λ b o _ e=>e;refine wpAny_assign_Name (nO I' hN hy hx (v:=.ref Dl) (u:=.ref Dl) rfl (λ s2 I2 hsb=>?_) hf);let⟨a,sb,ha⟩:=hsb;have hne:Cf≠a:=by
  rcases ha with rfl | ha
  .exact h1
  .exact(h3 _ _ ha).symm
 refine⟨m,hm.sameBut sb hne,λ h' hs'=>⟨_,H',?_,q⟩⟩;exact I2.turned (t':=s2.toks) (it:=Cf) (λ b o hb e=>hs'.extBut b o hb e) hn h1 (.inr h2) h3 h4
end
structure CL(X:L2.Cx)(cl:Cl)(C:D.Cx)(elt tg iter:Expr)(ifs:List Expr)(gs:List Comprehension)(scope:Scope)(pos:Pos)(js:List Nat)(t:T)(qF:E)(di:Es)(rest:G):Prop where
 calm:X.calm=true
 ok:gD X.N js scope X.env.scope
 next:∀g',gs[0]?=some g'->g'.is_async=0/\∀env x,foldedSetIterable g'.iter env x=pure x
 hi:PI X tg iter (SI X cl (dw C qF))
 pg:∀cl' s₀ H₀ fp pn,PG (X.comp scope cl' s₀ H₀ fp pn) tg (SG (X.comp scope cl' s₀ H₀ fp pn) cl (fT C (.pt t)))
 yw:∀cl' s₀ H₀ fp pn,lN (X.comp scope cl' s₀ H₀ fp pn) ifs (ST (X.comp scope cl' s₀ H₀ fp pn) cl (bD C di))
 pb:∀cl' s₀ H₀ fp pn Δ,PB (X.comp scope cl' s₀ H₀ fp pn) (λ Q s=>dO X.prog X.w X.A (.ListComp elt (⟨tg,iter,ifs,0⟩::gs) scope pos) elt 0 (.ref Δ) (X.comp scope cl' s₀ H₀ fp pn).env Q (⟨tg,iter,ifs,0⟩::gs)[0+1]? s) (SB false (X.comp scope cl' s₀ H₀ fp pn) cl Δ (gZ C rest))
 hs:∀x,foldedSetIterable iter X.env x=pure x
section
variable{gs:List Comprehension}
theorem Hq(h:CL X cl C elt tg iter ifs gs scope pos js t qF di rest)(l:eval (.ListComp elt (⟨tg,iter,ifs,0⟩::gs) scope pos) X.env=comprehension (.ListComp elt (⟨tg,iter,ifs,0⟩::gs) scope pos) scope X.env pp (newList []) false (eval iter X.env) none) :
  PE X (.ListComp elt (⟨tg,iter,ifs,0⟩::gs) scope pos) (SE X cl (ao C (.comp (.gen t js qF di rest)))):=
 C7 (bk:=false) (rw:=λ env Δ Q s=>dO X.prog X.w X.A (.ListComp elt (⟨tg,iter,ifs,0⟩::gs) scope pos) elt 0 (.ref Δ) env Q (⟨tg,iter,ifs,0⟩::gs)[0+1]? s) h.calm h.ok rfl (λ _ _ _ _ _ a b=>f9 rfl a b)
  (λ _ _ _=>i7 rfl λ j g=>⟨(h.next j g).1,(h.next j g).2 _⟩) (λ k z=>iu k z) (λ h=>vC h) h.hi h.pg h.yw h.pb h.hs l
theorem C9{y:Str}{l g:Pos}(F:X.N.Nodup)(r:X.N[i]?=some y)(u:L2.Loc X.env.scope y)(h:CL X cl C elt tg iter ifs gs scope pos js t qF di rest)
  (k:swapsWith (.ListComp elt (⟨tg,iter,ifs,0⟩::gs) scope pos) @(.Name y l) g.line X.env=pure true) (B:X.fn y=true\/X.env.scope.names.lookup y=some .local) :
  PS X (.Assign [.Name y l] (.ListComp elt (⟨tg,iter,ifs,0⟩::gs) scope pos) g) (SS X cl (aM C (.asg (.pt (.var i)) (.comp (.gen t js qF di rest))))):=
 C8 (bk:=false) (rw:=λ env Δ Q s=>dO X.prog X.w X.A (.ListComp elt (⟨tg,iter,ifs,0⟩::gs) scope pos) elt 0 (.ref Δ) env Q (⟨tg,iter,ifs,0⟩::gs)[0+1]? s) F r u h.calm h.ok rfl (λ _ _ _ _ _ a b=>f9 rfl a b)
  (λ _ _ _=>i7 rfl λ q j=>⟨(h.next q j).1,(h.next q j).2 _⟩) (λ x z=>iu x z) (λ h=>vC h) h.hi h.pg h.yw h.pb h.hs k B rfl
variable{kx vx:Expr}{dk dv:E}
end
theorem Dc:lN X [] (ST X cl (bD C .nil)):=by
 intro aa s Y H Q I h;let⟨J,Z,m,b,m',r,l,e,k⟩:=h;erw[cy] at e;cases e;exact zj aa s Y H Q I (k _ _ Ext.refl r)
theorem Df{a:Expr}{q:E}(y:PT X a (ST X cl (br C q))):lN X [a] (ST X cl (bD C %[|q])):=by
 intro aa s Y H Q I h;refine zk y aa s Y H Q I ?_;let⟨J,Z,m,b,m',r,l,e,k⟩:=h;erw[cy] at e;let⟨c,x,z,e⟩:=R.ah e;refine⟨J,Z,m,c,x,r,l,z,fun u A g j=>?_⟩;cases c with
 |true=>erw[Qx] at e;cases e;exact k _ _ g j
 |false=>erw[QJ,QY] at e;cases e;exact k _ _ g j
end
def dz(γ:List Addr)(h:Heap)(H:Hp):Hp:=λ b=>if b∈γ then match H b,h.get? b with
  |some (.lst vs),some o=>some (.frz o (.lst vs))
  |some (.ins c dx fs),some o=>some (.frz o (.ins c dx fs))
  |u,_=>u else H b
section
variable{γ:List Addr}{h:Heap}{H:Hp}{b:Addr}
theorem i8:dz γ h H b=H b\/∃o u,b∈γ/\H b=some u/\h.get? b=some o/\dz γ h H b=some (.frz o u)/\((∃vs,u=.lst vs)\/∃c dx k,u=.ins c dx k):=by
 unfold dz
 by_cases a:b∈γ
 .erw[Qn a];split
  .ext vs o j g;exact .inr ⟨o,_,a,j,g,rfl,.inl ⟨vs,rfl⟩⟩
  .ext c dx k o j g;exact .inr ⟨o,_,a,j,g,rfl,.inr ⟨c,dx,k,rfl⟩⟩
  .exact .inl rfl
 .exact .inl (Qu a)
theorem iI(e:H b=none):dz γ h H b=none:=by
 rcases i8 (γ:=γ) (h:=h) (H:=H) (b:=b) with z | ⟨o,u,_,z,_⟩
 .rw[z,e]
 .rw[e] at z;cases z
theorem bX{u:HO}(e:H b=some u)(j:∀vs,u≠.lst vs)(g:∀c dx a,u≠.ins c dx a):dz γ h H b=some u:=by
 rcases i8 (γ:=γ) (h:=h) (H:=H) (b:=b) with z | ⟨o,k,_,z,_,_,⟨vs,rfl⟩ | ⟨c,dx,a,rfl⟩⟩
 .rw[z,e]
 .rw[e] at z;cases z;exact absurd rfl (j _)
 .rw[e] at z;cases z;exact absurd rfl (g _ _ _)
theorem bL(e:b∉γ):dz γ h H b=H b:=by unfold dz;rw[Qu e]
theorem Ah{o:Obj}(e:b∈γ)(g:H b=@(.lst vs))(a:h.get? b=some o):dz γ h H b=some (.frz o (.lst vs)):=by unfold dz;rw[Qn e,g,a]
theorem Ai{c:Addr}{a:List (Str×V)}{o:Obj}(e:b∈γ)(j:H b=@(.ins c dx a))(g:h.get? b=some o):dz γ h H b=some (.frz o (.ins c dx a)):=by unfold dz;rw[Qn e,j,g]
theorem K2{w:World}(x:gb P w H h):gb P w (dz γ h H) h:=λ a u e=>by
 have g:∀v,H a=some v->bA P w (D.dz γ h H) h a v:=λ v l=>(x a v l).stay (λ _ _ _ q=>q) (λ c q=>bX q (by intro _ z;cases z) (by intro _ _ _ z;cases z)) λ c r q=>bX q (by intro _ z;cases z) (by intro _ _ _ z;cases z);rcases i8 (γ:=γ) (h:=h) (H:=H) (b:=a) with z | ⟨o,v,_,z,k,j,_⟩
 .exact g u (by rw[<-z];exact e)
 .rw[j] at e;cases e;exact⟨k,g v z⟩
end
theorem Ew{X:L2.Cx}(I:Inv X aa Y H s)(γ:List Addr):Inv X aa Y (dz γ s.heap H) s where
 ok:=I.ok
 os:=I.os
 bare:=I.bare
 base:={
  keep:=I.base.keep
  slot:=I.base.slot
  free:=λ b o q n g=>iI (I.base.free b o q n g)
  there:=I.base.there
  tups:=λ b xs q=>bX (I.base.tups b xs q) (by intro _ z;cases z) (by intro _ _ _ z;cases z)
  gS:=λ b o u q=>bX (I.base.gS b o u q) (by intro _ z;cases z) (by intro _ _ _ z;cases z)
  iN:=λ b ps q=>let ⟨more,e⟩:=I.base.iN b ps q;⟨more,bX e (by intro _ z;cases z) (by intro _ _ _ z;cases z)⟩}
 loc:=I.loc
 cell:=I.cell
 free:=iI I.free
 freeC:=λ x c e=>iI (I.freeC x c e)
 pin:=λ p h=>let ⟨a,b,c⟩:=I.pin p h;⟨a,iI b,c⟩
 hok:=K2 I.hok
 len:=I.len
section
variable{K:ae}{cl:Cl}{J γ:List Addr}{H:Hp}{h:Heap}{m:Mem}
theorem Ex{a:Addr}(q:ef K H a vs):ef K (dz γ h H) a vs:=by
 rcases q with (q | ⟨o,q⟩) | q
 .exact .inl (.inl (bX q (by intro _ z;cases z) (by intro _ _ _ z;cases z)))
 .exact .inl (.inr ⟨o,bX q (by intro _ z;cases z) (by intro _ _ _ z;cases z)⟩)
 .exact .inr q
theorem Ey{a:Addr}(q:rO K H a vs):rO K (dz γ h H) a vs:=by
 rcases q with⟨o,q⟩ | q
 .exact .inl ⟨o,bX q (by intro _ z;cases z) (by intro _ _ _ z;cases z)⟩
 .exact .inr q
theorem RW.xR(q:RW K (J++γ) H w v):eY J.length w=true->RW K J (dz γ h H) w v:=
 RW.rec (motive_1:=λ w v _=>eY J.length w=true->RW K J (dz γ h H) w v) (motive_2:=λ w v _=>bq J.length w=true->aS K J (dz γ h H) w v) (λ _=>.non) (λ b _=>.bl b) (λ b _=>.int b) (λ b _=>.str b) (λ h _ i e=>.tup (Ex h) (i e)) (λ h _ i e=>.fz (Ey h) (i e)) (λ h z _ i e=>.obj (bX h (by intro _ z;cases z) (by intro _ _ _ z;cases z)) z (i e)) (λ q e=>.ref (by rw[Qh (Se e)] at q;exact q)) (λ _=>.nil) (λ _ _ a b e=>.cons (a (Ql.mp e).1) (b (Ql.mp e).2)) q
theorem aS.xR{w:List W}{v:List V}(q:aS K (J++γ) H w v)(e:bq J.length w=true):aS K J (dz γ h H) w v:=by
 induction w generalizing v with
 |nil=>cases q;exact .nil
 |cons x w g=>cases q with | cons a b=>exact .cons (a.xR (Ql.mp e).1) (g b (Ql.mp e).2)
theorem gm.snd:∀{a:List (Str×W)} {gs:List (Str×V)},gm K J H a gs->aS K J H (a.map (·.2)) (gs.map (·.2))/\a.map (·.1)=gs.map (·.1)
 |_,_,.nil=>⟨.nil,rfl⟩
 |_,_,.cons q t=>⟨.cons q t.snd.1,by rw[QF,QF,t.snd.2]⟩
theorem gm.of:∀{a:List (Str×W)} {gs:List (Str×V)},a.map (·.1)=gs.map (·.1)->aS K J H (a.map (·.2)) (gs.map (·.2))->gm K J H a gs
 | [],[],_,_=>.nil
 |(f,w)::a,(g,v)::gs,e,t=>by
  erw[QF,List.cons.injEq] at e;let⟨rfl,e⟩:=e;cases t with
  |cons q t=>exact .cons q (gm.of e t)
 | [],_::_,e,_=>by simp at e
 |_::_,[],e,_=>by simp at e
mutual
theorem RW.kP{g:Nat->Option W}(j:∀{n w v},g n=some w->RW K (J++γ) H (.ref n) v->RW K J (dz γ h H) w v):∀{w:W} {v:V} {w1:W},RW K (J++γ) H w v->D.kP g w=some w1->RW K J (dz γ h H) w1 v
 |_,_,_,.non,e=>by erw[D.kP] at e;cases e;exact .non
 |_,_,_,.bl b,e=>by erw[D.kP] at e;cases e;exact .bl b
 |_,_,_,.int i,e=>by erw[D.kP] at e;cases e;exact .int i
 |_,_,_,.str s,e=>by erw[D.kP] at e;cases e;exact .str s
 |_,_,_,.tup q t,e=>by
  erw[D.kP,P9] at e;let⟨ys,a,rfl⟩:=e;exact .tup (Ex q) (aS.eX j t a)
 |_,_,_,.fz q t,e=>by
  erw[D.kP,P9] at e;let⟨ys,a,rfl⟩:=e;exact .fz (Ey q) (aS.eX j t a)
 |_,_,_,.obj q z t,e=>by
  erw[D.kP,P9] at e;let⟨ys,a,rfl⟩:=e;exact .obj (bX q (by intro _ z;cases z) (by intro _ _ _ z;cases z)) z (aS.eX j t a)
 |_,_,_,.ref q,e=>j (by simpa only[D.kP] using e) (.ref q)
theorem aS.eX{g:Nat->Option W}(a:∀{n w v},g n=some w->RW K (J++γ) H (.ref n) v->RW K J (dz γ h H) w v):∀{w:List W} {v:List V} {w1:List W},aS K (J++γ) H w v->D.eX g w=some w1->aS K J (dz γ h H) w1 v
 |_,_,_,.nil,e=>by erw[D.eX] at e;cases e;exact .nil
 |_,_,_,.cons q t,e=>by
  erw[D.eX] at e;split at e
  .cases e
  .ext y j;split at e
   .cases e
   .ext ys b;cases e;exact .cons (RW.kP a q j) (aS.eX a t b)
end
theorem p9(g:∀a u,H a=some u->((∃vs,u=.lst vs)\/∃c dx y,u=.ins c dx y)->∃o,h.get? a=some o)(r:Rel K cl (J++γ) m H):∀(d:Nat) {n:Nat} {w:W} {v:V},nh m J.length d n=some w->RW K (J++γ) H (.ref n) v->RW K J (dz γ h H) w v
 |0,n,w,v,e,q=>by
  erw[nh] at e;split at e
  .ext b;cases e;exact q.xR (by simpa only[eY,QE] using b)
  .cases e
 |d+1,n,w,v,e,q=>by
  erw[nh] at e;split at e
  .ext b;cases e;exact q.xR (by simpa only[eY,QE] using b)
  .ext b;cases q with
   |ref j=>
    ext a;have x:a∈γ:=by
     rw[Qy 'o'] at j;exact QW j
    split at e
    .ext xs l;erw[P9] at e;let⟨ys,k,rfl⟩:=e;let⟨vs,z,t⟩:=r.obj l j;let⟨o,ho⟩:=g a _ z (.inl ⟨_,rfl⟩);exact .fz (.inl ⟨o,Ah x z ho⟩) (t.eX (λ e q=>p9 g r d e q) k)
    .ext c y l;erw[P9] at e;let⟨ys,k,rfl⟩:=e;let⟨dx,fs',z,t⟩:=r.obj l j;let⟨o,ho⟩:=g a _ z (.inr ⟨_,_,_,rfl⟩);exact .obj (Ai x z ho) t.snd.2 (t.snd.1.eX (λ e q=>p9 g r d e q) k)
    .cases e
end
theorem Ez{X:L2.Cx}{cl:Cl}{ex:Expr}(hp:PE X ex (SE X cl (ao C d))):PE X ex (SE X cl (ao C (.frz d))):=by
 rintro aa s Y H Q I ⟨J,Z,m,w,m',r,l,e,k⟩;erw[iU] at e;cases h0:ao C d Z m with
 |no=>rw[h0] at e;cases e
 |ok w0 m0=>
  rw[h0] at e;erw[zC] at e;split at e
  .ext hc;split at e
   .ext w1 e1;cases e;refine bP (hp aa s Y H (λ v j=>∃b,Ext J H b j/\Rel X.K cl b m0 j/\RW X.K b j w0 v) I ⟨J,Z,m,w0,m0,r,l,h0,fun b j v1 B g O=>⟨b,B,g,O⟩⟩) λ u s1 ⟨v,j,U,rv,b,B,g,O⟩=>?_;let⟨A,rfl,R⟩:=B.pre;have T:=r.len;have hh:∀a u,j a=some u->((∃vs,u=.lst vs)\/∃c dx N,u=.ins c dx N)->∃o,s1.heap.get? a=some o:=λ a u q hu=>by
     rcases hu with⟨vs,rfl⟩ | ⟨c,dx,N,rfl⟩
     .let⟨_,_,_,_,e⟩:=U.hok a _ q;exact⟨_,e⟩
     .let⟨_,_,_,e,_⟩:=U.hok a _ q;exact⟨_,e⟩
    refine⟨v,dz A s1.heap j,Ew U A,rv,k J _ v ⟨⟨[],by simp,by simp⟩,λ {a o} q L _=>?_⟩ ⟨?_,?_,λ {n o a} M h2=>?_⟩ ?_⟩
    .rw[bL λ z=>by rw[R a z] at q;cases q];exact B.keep q L 's'
    .rw[Rf,T];omega
    .exact(Si.mp g.nd).1
    .have L:n<m.length:=by
      have:=(Qc.mp M).1;rw[Rf] at this;omega
     rw[RT L] at M;have hb:(J++A)[n]?=some a:=by rw[Qh 'o'];exact h2
     have F:gE J.length o=true:=by
      rw[T];exact Ri.mp hc.2 o (QW (by rw[RT L];exact M))
     have x:a∉A:=λ z=>by
      have:=(Si.mp g.nd).2.2 a (QW h2) a z;exact this rfl
     have q:=g.obj M hb;cases o with
     |lst ws=>let⟨vs,e,t⟩:=q;exact⟨vs,(bL x).trans e,t.xR (by simpa only[gE] using F)⟩
     |ins c N=>
      let⟨dx,h,e,t⟩:=q;exact⟨dx,h,(bL x).trans e,.of t.snd.2 (t.snd.1.xR (by simpa only[gE] using F))⟩
     |set ks=>let⟨S,e,t⟩:=q;exact⟨S,(bL x).trans e,t⟩
     |dic N=>
      let⟨h,e,t⟩:=q;exact⟨h,(bL x).trans e,.of t.snd.2 (t.snd.1.xR (by simpa only[gE] using F))⟩
     |exc c f ws=>
      let⟨oa,od,vs,e,xo,t,d⟩:=q;exact⟨oa,od,vs,(bL x).trans e,xo,t.xR (by simpa only[gE] using F),d.imp id λ ⟨dx,y,d1,d2,d3⟩=>⟨dx,y,d1,d2,(bL λ z=>g.Kr d3 (QL _ z)).trans d3⟩⟩
    .rw[<-T] at e1;exact O.kP (λ e q=>p9 hh g 8 e q) e1
   .cases e
  .cases e
theorem RW.K4(q:RW K J H w v):eY J.length w=true:=
 RW.rec (motive_1:=λ w v _=>eY J.length w=true) (motive_2:=λ w v _=>bq J.length w=true) rfl (λ _=>rfl) (λ _=>rfl) (λ _=>rfl) (λ _ _ i=>i) (λ _ _ i=>i) (λ _ _ _ i=>i) (λ q=>QS (Qc.mp q).1) rfl (λ _ _ a b=>Ql.mpr ⟨a,b⟩) q
theorem Rel.frozen{X:L2.Cx}{cl:Cl}{j:Shared}{γ:List Addr}{g:Hp}{m0:Mem}(r:Rel X.K cl J m H)(Q:Ext J H (J++γ) g)(F:∀a∈γ,H a=none)(k:Rel X.K cl (J++γ) m0 g)(hc:m.length<=m0.length/\xA m.length (m0.take m.length)=true)(N:Inv X aa Y g j) :
  Ext J H J (dz γ j.heap g)/\Rel X.K cl J (m0.take m.length) (dz γ j.heap g)/\(∀a u,g a=some u->((∃vs,u=.lst vs)\/∃c dx B,u=.ins c dx B)->∃o,j.heap.get? a=some o):=by
 have I:=r.len;refine⟨⟨⟨[],by simp,by simp⟩,λ {a o} q x _=>?_⟩,⟨?_,?_,λ {n o a} A L=>?_⟩,λ a u q U=>?_⟩
 .rw[bL λ z=>by rw[F a z] at q;cases q];exact Q.keep q x 's'
 .rw[Rf,I];omega
 .exact(Si.mp k.nd).1
 .have x:n<m.length:=by
   have:=(Qc.mp A).1;rw[Rf] at this;omega
  rw[RT x] at A;have hb:(J++γ)[n]?=some a:=by rw[Qh 'o'];exact L
  have l:gE J.length o=true:=by
   rw[I];exact Ri.mp hc.2 o (QW (by rw[RT x];exact A))
  have h:a∉γ:=λ z=>by
   have:=(Si.mp k.nd).2.2 a (QW L) a z;exact this rfl
  have q:=k.obj A hb;cases o with
  |lst ws=>let⟨vs,e,t⟩:=q;exact⟨vs,(bL h).trans e,t.xR (by simpa only[gE] using l)⟩
  |ins c B=>
   let⟨dx,b,e,t⟩:=q;exact⟨dx,b,(bL h).trans e,.of t.snd.2 (t.snd.1.xR (by simpa only[gE] using l))⟩
  |set ks=>let⟨S,e,t⟩:=q;exact⟨S,(bL h).trans e,t⟩
  |dic B=>
   let⟨b,e,t⟩:=q;exact⟨b,(bL h).trans e,.of t.snd.2 (t.snd.1.xR (by simpa only[gE] using l))⟩
  |exc c f ws=>
   let⟨T,R,vs,e,O,t,d⟩:=q;exact⟨T,R,vs,(bL h).trans e,O,t.xR (by simpa only[gE] using l),d.imp id λ ⟨dx,y,d1,d2,M⟩=>⟨dx,y,d1,d2,(bL λ z=>k.Kr M (QL _ z)).trans M⟩⟩
 .rcases U with⟨vs,rfl⟩ | ⟨c,dx,B,rfl⟩
  .let⟨_,_,_,_,e⟩:=N.hok a _ q;exact⟨_,e⟩
  .let⟨_,_,_,e,_⟩:=N.hok a _ q;exact⟨_,e⟩
theorem Hr{X:L2.Cx}{cl:Cl}(hp:PS X st (SS X cl (aM C (.asg (.pt (.var i)) d)))):PS X st (SS X cl (aM C (.asg (.pt (.var i)) (.frz d)))):=by
 rintro aa s Y H D I ⟨J,Z,m,f,m',r,l,e,k⟩;erw[fH,iU,fT,aD] at e;let⟨w1,m1,g,e⟩:=R.ah e;erw[R.bind] at e;cases e;cases h0:ao C d Z m with
 |no=>rw[h0] at g;cases g
 |ok w0 m0=>
  rw[h0] at g;erw[zC] at g;split at g
  .ext hc;split at g
   .ext PU S;cases g;refine bP (hp aa s Y H {nx:=fun b y=>∃a,Ext J H a y/\Rel X.K cl a m0 y/\RL X.K a y (Z.set i (some w0)) b,rt:=λ _ _=>False} I ⟨J,Z,m,.nx (Z.set i (some w0)),m0,r,l,by erw[fH,h0,R.bind,fT,aD],fun a y F L b A=>⟨a,F,L,A⟩⟩) λ fl s1 h=>?_;cases fl with
    |next=>
     let⟨b,y,T,a,F,L,A⟩:=h;let⟨Q,rfl,N⟩:=F.pre;let⟨z1,z2,U⟩:=r.frozen F N L hc T;refine⟨b,dz Q s1.heap y,Ew T Q,k J _ z1 z2 b ⟨by rw[RH,<-A.len,RH],λ {j w} x=>?_⟩⟩
     by_cases t:i=j
     .subst t;have B:i<Z.length:=by
       have:=(Qc.mp x).1;simpa using this
      rw[QG B] at x;cases x;let⟨v,O,M⟩:=A.at_ (i:=i) (w:=w0) (by rw[QG B]);rw[<-r.len] at S;exact⟨v,O,M.kP (λ e q=>p9 U L 8 e q) S⟩
     .rw[QA t] at x;let⟨v,O,M⟩:=A.at_ (i:=j) (w:=w) (by rw[QA t];exact x);let⟨v',_,q'⟩:=l.at_ x;exact⟨v,O,M.xR q'.K4⟩
    |brk=>let⟨_,_,_,z⟩:=h;exact False.elim z
    |cont=>let⟨_,_,_,z⟩:=h;exact False.elim z
    |ret u=>let⟨_,_,_,_,_,z⟩:=h;exact False.elim z
   .cases g
  .cases g
theorem kH{prog:Program}{w:World}{A:Around}{E:Value->Shared->Prop}{name:Str}{a:Pos}{args:List Expr}{Q:Value->Shared->Prop}
  (j:attributeBase o name env (eval o env)=eval o env)
  (r:((backTo pos (starEach args env)).all (λ x=>!x.1)&&(backToKw pos (keywordEach [] env)).all (λ x=>x.1.isSome)
   && decide (args.length+([]:List Keyword).length+(if ([]:List Keyword).isEmpty then 0 else 1)<30))=true)
  (g:(a.endLine==pos.line)=true)
  (h:wpAny (model prog w) A (eval o env) (λ u b=>∀y,wpAny (model prog w) A (getMethod u name y) (λ t k=>wpAny (model prog w) A (callWith pos t.1 t.2 (backTo pos (starEach args env)) []) Q E k) E b) E s) :
  wpAny (model prog w) A (eval (.Call (.Attribute o name a) args [] pos) env) Q E s:=by
 rw[arm_eval_Call,j];refine Qa (Qw h (λ u b l=>?_) λ _ _ e=>e);refine Qa (Ra ?_);have B:methodCallForm (args.length+([]:List Keyword).length) (backTo pos (starEach args env)) (backToKw pos (keywordEach [] env))=true:=r;have q:methodCallPos true o env a pos=pure pos:=by unfold methodCallPos;simp[g]
 unfold methodCall;rw[B];refine Qa (Q9 (Qw (l _) (λ t F z=>?_) λ _ _ e=>e));exact Qa (wpAny_of_eq q z)
section
variable{X:L2.Cx}{cl:Cl}{C:D.Cx}{pos:Pos}
theorem Aj{a h:Addr}{g:List (Str×V)}(I:Inv X aa Y H s)(e:Rd H a (.ins h dx g)):∃b,qO s.heap a dx h b/\∀f,fQ (g.lookup f) (b f):=by
 let⟨d,z,k,j,b,n,r,q⟩:=(show bA X.prog X.w H s.heap a (.ins h dx g) from e.ok I.hok);exact⟨b,⟨j,n,k⟩,r⟩
theorem gm.lookup{K:ae}{J:List Addr}{H:Hp}{f:Str}:∀{b:List (Str×W)} {gs:List (Str×V)},gm K J H b gs->(∀{w},b.lookup f=some w->∃v,gs.lookup f=some v/\RW K J H w v)/\(b.lookup f=none->gs.lookup f=none)
 |_,_,.nil=>⟨λ h=>by simp at h,λ _=>rfl⟩
 |_,_,.cons (f:=g) q t=>by
  let⟨k,j⟩:=t.lookup (f:=f);cases a:f==g with
  |true=>
   refine⟨λ h=>?_,λ h=>?_⟩
   .erw[Qs,a] at h ⊢;cases h;exact⟨_,rfl,q⟩
   .erw[Qs,a] at h;cases h
  |false=>
   refine⟨λ h=>?_,λ h=>?_⟩
   .erw[Qs,a] at h ⊢;exact k h
   .erw[Qs,a] at h ⊢;exact j h
theorem Ak:∀{gs:List (Str×V)} {xs:List W},aS K J H xs (gs.map (·.2))->gm K J H ((gs.map (·.1)).zip xs) gs
 | [],_,t=>by cases t;exact .nil
 |(g,v)::gs,xs,t=>by
  cases t with
  |cons q t=>exact .cons q (Ak t)
theorem Rel.ins{b:List (Str×W)}(r:Rel K cl J m H)(q:RW K J H w v)(e:lR m w=some (c,b)):∃a dx gs,v=.ref a/\Rd H a (.ins (aj K c) dx gs)/\gm K J H b gs:=by
 cases q with
 |ref h=>
  erw[lR] at e;split at e
  .ext l g j;cases e;let⟨dx,gs,z,t⟩:=r.obj j h;exact⟨_,dx,gs,rfl,.inl z,t⟩
  .cases e
 |obj h k t=>
  erw[lR] at e;cases e;subst k;exact⟨_,_,_,rfl,.inr ⟨_,h⟩,Ak t⟩
 |_=>erw[lR] at e;cases e
theorem K6{a:Expr}(hc:∀{c f},C.cs.flds.contains (c,f)=true->yt X.K (aj X.K c)/\gW X.K (aj X.K c) f)(ha:PE X a (SE X cl (ao C d)))(hb:attributeBase a f X.env (eval a X.env)=eval a X.env):PE X (.Attribute a f pos) (SE X cl (ao C (.fld d f))):=by
 rintro aa s Y H Q I ⟨J,Z,m,w,m',r,l,e,k⟩;erw[j9] at e;let⟨x,m1,e1,e⟩:=R.ah e;unfold vf at e;split at e
 .ext c fs e2;split at e
  .ext B;split at e
   .ext w' e3;cases e;refine uU hb (bP (ha aa s Y H (λ v g=>∃b,Ext J H b g/\Rel X.K cl b m' g/\RW X.K b g x v) I ⟨J,Z,m,x,m',r,l,e1,fun b g v1 q j y=>⟨b,q,j,y⟩⟩) λ u s1 ⟨v,g,F,M,b,q,j,y⟩=>?_);let⟨a',dx,gs,rfl,hr,t⟩:=j.ins y e2;obtain rfl:u=Value.ref a':=M;let⟨T,O,N⟩:=Aj F hr;let⟨z,ez,S⟩:=t.lookup.1 e3;let⟨h,A⟩:=hc B;let⟨u,U,L⟩:=fQ.some_of (v:=z) (o:=T f) (by rw[<-ez];exact N f);exact get_map F.fR O (h.get f) h.hd A U (nR L) ⟨z,g,F.tok _,L,k _ _ _ q j S⟩
   .cases e
  .cases e
 .cases e
theorem vD(q:RW K J H w v):∀{a:List (Str×W)} {gs:List (Str×V)},gm K J H a gs->gm K J H (D.eL f w a) (L2.eL f v gs)
 |_,_,.nil=>.cons q .nil
 |_,_,.cons (f:=g) (ws:=ws) (vs:=vs) b t=>by
  erw[D.eL,L2.eL];split
  .exact .cons q t
  .exact .cons b (vD q t)
theorem gm.length:∀{a:List (Str×W)} {gs:List (Str×V)},gm K J H a gs->a.length=gs.length
 |_,_,.nil=>rfl
 |_,_,.cons _ t=>by rw[QO,QO,t.length]
theorem gm.mono(r:Rel K cl J m H)(x:Ext J H J' H'){a:List (Str×W)}(t:gm K J H a gs):gm K J' H' a gs:=t.cu r Bv x
theorem Rel.NC{a:Addr}(r:Rel K cl J m H){o:O}{y:List (Str×W)}(B:m[n]?=some o)(t:J[n]?=some a)(q:gm K J H y gs) :
  Ext J H J (upd H a (.ins (aj K c) dx gs))/\Rel K cl J (m.set n (.ins c y)) (upd H a (.ins (aj K c) dx gs)):=by
 have F:a∈J:=QW t;have x:Ext J H J (upd H a (.ins (aj K c) dx gs)):=⟨⟨[],by simp,by simp⟩,λ {b u} h hn _=>by rw[aq (show b≠a from λ z=>hn (by rw[z];exact F))];exact h⟩;refine⟨x,by simp[r.len],r.nd,λ {k M b} j g=>?_⟩
 by_cases l:n=k
 .subst l;rw[t] at g;cases g;rw[QG (Qc.mp B).1] at j;cases j;exact⟨dx,gs,aB,q.mono r x⟩
 .rw[QA l] at j;have A:=r.obj j g;refine A.mono r x (aq ?_);rintro rfl;let⟨Q,L⟩:=Qc.mp g;let⟨N,I⟩:=Qc.mp t;exact l ((Uy r.nd).mp (I.trans L.symm))
theorem Hs{a:Expr}{O:E}{b:Pos}(hc:∀{c f},C.cs.flds.contains (c,f)=true->yt X.K (aj X.K c)/\gW X.K (aj X.K c) f)(ho:PE X o (SE X cl (ao C O)))(ha:PE X a (SE X cl (ao C d)))
  (hs:swapsWith a @(.Attribute o f b) pos.line X.env=pure false):PS X (.Assign [.Attribute o f b] a pos) (SS X cl (aM C (.fas O f d))):=by
 refine PS.imp (FQ ho ha hs) ?_;rintro D Y H ⟨J,Z,m,ff,m',r,l,e,k⟩;erw[rE] at e;let⟨w,L,e1,e⟩:=R.ah e;let⟨x,m2,e2,e⟩:=R.ah e;let⟨_,m3,g,e⟩:=R.ah e;cases e;refine⟨J,Z,m,w,L,r,l,e1,fun u H1 v1 A q U=>?_⟩;refine⟨u,Z,L,x,m2,q,l.mono r A,e2,fun Q H2 v2 y j T=>?_⟩;unfold oi at g;split at g
 .ext n;split at g
  .ext c fs N;split at g
   .ext h;cases g;cases T with
    |ref M=>
     let⟨dx,gs,z,t⟩:=j.obj N M;let⟨F,B⟩:=hc h.1;let⟨I,S⟩:=j.NC (c:=c) (dx:=dx) N M (vD (f:=f) (U.mono q y) t);exact⟨_,_,dx,gs,rfl,z,F,B,by rw[<-t.length];exact h.2,k _ _ ((A.trans q y).trans j I) S _ (((l.mono r A).mono q y).mono j I)⟩
   .cases g
  .cases g
 .cases g
def EA(X:L2.Cx)(cl:Cl)(C:D.Cx)(c name:Str)(i:Nat):Prop:=∃(k:Nat) (g:Addr) (b:FuncData) (a:List Str),bV k X.A/\yt X.K (aj X.K c)/\Meth X.K (aj X.K c) name g/\Binds X.K b a []/\
 cg X.prog X.w X.K X.mg X.base (yv X.prog X.w) k g b a (vq X.K cl a.length (C.call i))/\∀ws m w m',C.call i ws m=.ok w m'->ws.length=a.length
theorem K7{name:Str}{A:Pos}(hM:∀{c name i},C.cs.mths.lookup (c,name)=some i->EA X cl C c name i)(ho:PE X o (SE X cl (ao C d)))(ha:PA X es (SA X cl (bh C ds)))
  (L:attributeBase o name X.env (eval o X.env)=eval o X.env)
  (U:((backTo pos (starEach es X.env)).all (λ x=>!x.1)&&(backToKw pos (keywordEach [] X.env)).all (λ x=>x.1.isSome)
   && decide (es.length+([]:List Keyword).length+(if ([]:List Keyword).isEmpty then 0 else 1)<30))=true)
  (F:(A.endLine==pos.line)=true) (hs:(es=[]/\ds=.nil)\/∃a r,es=a::r/\starEach (a::r) X.env=(false,eval a X.env)::starEach r X.env/\(backTo pos (starEach r X.env)).any (·.1)=false) :
  PE X (.Call (.Attribute o name A) es [] pos) (SE X cl (ao C (.mth d name ds))):=by
 rintro aa s Y H Q I ⟨J,Z,m,w,m',r,l,e,k⟩;erw[kc] at e;let⟨x,m1,e1,e⟩:=R.ah e;split at e
 .ext i S;let⟨ws,m2,e3,e⟩:=R.ah e;refine kH L U F (bP (ho aa s Y H (λ v z=>∃g,Ext J H g z/\Rel X.K cl g m1 z/\RW X.K g z x v) I ⟨J,Z,m,x,m1,r,l,e1,fun g z v1 x1 B q1=>⟨g,x1,B,q1⟩⟩) λ u s1 ⟨v,z,I1,rv,g,x1,B,q1⟩ pl=>?_);unfold vg at S;split at S
  .ext c fs e4;split at S
   .ext hno;let⟨y,dx,gs,rfl,hr,t⟩:=B.ins q1 e4;obtain rfl:u=Value.ref y:=rv;let⟨mA,O,ro⟩:=Aj I1 hr;have hn:mA name=none:=fQ.none_of (by rw[<-t.lookup.2 (~~~hno)];exact ro name);let⟨kk,fa,fd,ps,j,hcl,q,hbd,hF,rX⟩:=hM S;refine yS I1.fR O (hcl.get name) q.at_ q.fn hn ?_;have tO:∀vs b h,Ext g z b h->Rel X.K cl b m2 h->aS X.K b h ws vs->vq X.K cl ps.length (C.call i) ((.ref y::vs)++[]) h Q E0:=λ vs b h M N T=>by
     rw[Rm];have hq:aS X.K b h (x::ws) (.ref y::vs):=.cons (q1.mono B M) T;exact⟨by rw[<-hq.length];exact rX _ _ _ _ e,b,m2,x::ws,w,m',N,hq,e,fun β3 H3 v3 x3 r3 q3=>k _ _ _ ((x1.trans B M).trans N x3) r3 q3⟩
    rcases hs with⟨rfl,rfl⟩ | ⟨a,rr,rfl,hst,hpl⟩
    .erw[fG] at e3;cases e3;exact PySem.W.callWith_K0 (first:=[.ref y]) I1.fR q.kp (pF (us:=[.ref y]) (vs:=[.ref y]) hF j hbd .nil rR I1 %[|rfl] (tO [] g z Ext.refl B .nil))
    .refine Rw (first:=[.ref y]) (h₀:=X.base) I.ok.mod.kin q.kp (bP (ha pos aa s1 Y z (λ vs h=>∃b,Ext g z b h/\Rel X.K cl b m2 h/\aS X.K b h ws vs) I1 ⟨g,Z,m1,ws,m2,B,l.mono r x1,e3,fun b h v2 M N T=>⟨b,M,N,T⟩⟩) λ us s2 ⟨vs,h,I2,rr2,b,M,N,T⟩=>⟨I2.fR,?_⟩) hst hpl;exact pF (us:=.ref y::us) (vs:=.ref y::vs) hF j hbd .nil rR I2 (.cons rfl rr2) (tO vs b h M N T)
   .cases S
  .cases S
 .cases e
def EB(X:L2.Cx)(cl:Cl)(C:D.Cx)(c:Str)(i:Nat):Prop:=∃(k:Nat) (g:Addr) (b:FuncData) (a:List Str),bV (k+1) X.A/\Mk X.K (aj X.K c) g/\X.mg c=some (.ref (aj X.K c))/\Binds X.K b a []/\
 cg X.prog X.w X.K X.mg X.base (yv X.prog X.w) k g b a (vq X.K cl a.length (C.call i))/\∀ws m w m',C.call i ws m=.ok w m'->ws.length=a.length
theorem Ht{a:Expr}(hi:C.cs.ini.lookup c=some i)(hI:EB X cl C c i)(hg:Gl X c)(ha:PA X (a::es) (SA X cl (bh C ds)))
  (B:(c==("__debug__":Str))=false) (he:starEach (a::es) X.env=(false,eval a X.env)::starEach es X.env) (t:(backTo pos (starEach es X.env)).any (·.1)=false) :
  PE X (.Call (.Name c p) (a::es) [] pos) (SE X cl (ao C (.make c ds))):=by
 let⟨k,fa,fd,ps,b,y,z,F,hF,rX⟩:=hI;refine PE.imp (BU y hF b hg z F .nil rR ha B he t) ?_;rintro Y H Q ⟨J,Z,m,w,m',r,l,e,k⟩;erw[dM] at e;let⟨ws,j,e1,e⟩:=R.ah e;refine⟨J,Z,m,ws,j,r,l,e1,fun g H1 v1 U h q1 x dx hx A u=>?_⟩;erw[ua,hi] at e;let⟨w2,m2,S,e⟩:=R.ah e;split at e
 .cases e;let⟨M,q⟩:=h.zX A (.own x);have GG:upd H1 dx (.own x) x=none:=by rw[aq u.symm];exact hx
  let⟨L,N⟩:=q.zQ (ho:=.ins (aj X.K c) dx []) (o:=.ins c []) GG λ _=>⟨dx,[],aB,.nil⟩;have O:aS X.K (g++[x]) _ (.ref j.length::ws) (.ref x::v1):=.cons (.ref (h.last x)) ((q1.mono h M).mono q L);refine⟨?_,g++[x],j++[.ins c []],.ref j.length::ws,.non,m',N,by rw[Rm];exact O,S,fun T H4 v4 I r4 q4=>?_⟩
  .rw[Rm,<-O.length];exact rX _ _ _ _ S
  .cases q4;refine⟨rfl,k _ _ _ (((U.trans h M).trans q L).trans N I) r4 (.ref (I.get (h.last x)))⟩
 .cases e
theorem Dg{k f:Nat}{g:Addr}{h:FuncData}{a:List Str}{x:Str}(F:cg X.prog X.w X.K X.mg X.base (yv X.prog X.w) k g h a (vq X.K cl a.length (C.call f)))(y:bV k X.A)(L:Gl X x)(z:X.mg x=@(.ref g))(I:PySem.W.keepIn X.K (.ref g)=true)(M:Binds X.K h a [])
  (B:a.length=0) (b:(x==("__debug__":Str))=false):PE X (.Call (.Name x p) [] [] pos) (SE X cl (ao C (.call f .nil))):=by
 refine PE.imp (yX F y L z I M .nil rR b) ?_;rintro Y H Q ⟨J,Z,m,w,m',r,l,e,k⟩;erw[gF,fG,R.bind] at e;exact⟨by rw[B];rfl,J,m,[],w,m',r,.nil,e,fun j O N q t u=>k _ _ _ q t u⟩
end
end D
end
section
namespace L2
open PySem PySem.Spec PyProof.Rows List
theorem kI(r:Addr)(a b i:Int)(t u v x:Tok):Meets (Builtin.«range.__contains__» ⟨[.ref r,.int i x],[]⟩) (λ _ R s=>s.heap.get? r=some {cls:=.type "range",dict:=none,data:=.fields #[.int a t,.int b u,.int 1 v],slots:=#[]}/\R (.ok (.ret (.bool (Builtin.Range.rangePlace? a b 1 i).isSome))) s):=
 .of_wp λ c w A R s h=>by let⟨j,g,d,e,f⟩:=s;let⟨k,h⟩:=h;wp_walk;exact⟨_,rfl,h⟩
theorem uv{b i:Int}:(Builtin.Range.rangePlace? 0 b 1 i).isSome=decide (0<=i/\i<b):=by
 unfold Builtin.Range.rangePlace?;erw[Int.sub_zero,Int.emod_one]
 by_cases h:0<=i/\i<b
 .simp[h.1,h.2]
 .rw[QH h];rw[Qu]
  .rfl
  .simp;omega
theorem Dh{X:Cx}:gf X (compareOp .NotIn) (λ x y H Q=>∃i j p,x=.int i/\y=.ref p/\H p=some (.rng 0 j)/\Q (.bl (!decide (0<=i/\i<j))) H):=by
 intro k s Y H x y v u Q I f d h;let⟨i,j,p,rfl,rfl,g,q⟩:=h;let⟨t,rfl⟩:=f;cases d;let⟨c,b,a,e⟩:=I.hok p _ g;refine PySem.SeqRoads2.notIn_meets ⟨_,e,rfl⟩ F.slot_range_contains F.entry_range_contains (F.args_range_contains_2 _ _) (kI p 0 j i c b a t) ⟨e,_,rfl,.bl _,H,I,?_,q⟩;rw[uv];rfl
end L2
end
section
namespace D
open PySem PySem.Spec PyProof.Rows L2 List
variable{C:D.Cx}{Dd:Ends}{H:Hp}{K:ae}{Q:VK}{X:L2.Cx}{b e elt o tg v:Expr}{c:Str}{cl:Cl}{d:E}{ds:Es}{es:List Expr}{f:Expr->Option E}{fl:F}{i n np:Nat}{m m' m2:Mem}{p pos spos:Pos}{pn:List (Addr×Obj)}{s:Stmt}{scope:Scope}{vs:List V}{w:W}{ws:List W}{xe:Value->Shared->Prop}{J γ:List Addr}{Z:D.Loc}{Y:L2.St}
def TopK(K:ae)(w:World)(j:Str->Option Value)(x:Str)(g:List (Str×W)):Prop:=∃a h,j x=some (.ref a)/\TopD K w a h/\∀J H,gm K J H g h
section
variable{X:L2.Cx}{cl:Cl}{C:D.Cx}{pos p:Pos}{a:Expr}{d:E}{x:Str}{kvs:List (Str×W)}
theorem Hu(T:TopK X.K X.w X.mg x kvs)(A:Gl X x)(B:(x==("__debug__":Str))=false)(G:PE X a (SE X cl (ao C d))):PE X (.Compare a [.NotIn] [.Name x p] pos) (SE X cl (ao C (.fus (.knin kvs) d))):=by
 let⟨b,P,u,I,t⟩:=T;refine PE.imp (uR je G (ja (v:=.ref b) A u rfl B) rfl) ?_;rintro Y H Q ⟨J,Z,m,w,m',r,l,e,k⟩;erw[dG] at e;let⟨y,O,L,e⟩:=R.ah e;erw[dW] at e;split at e
 .ext z;cases e;refine⟨J,Z,m,_,_,r,l,L,fun g M N h j q=>?_⟩;cases q;exact⟨_,_,_,rfl,rfl,I,by rw[<-(t g M).look.1];exact k _ _ _ h j (.bl _)⟩
 .cases e
theorem Hv(T:TopK X.K X.w X.mg x kvs)(B:Gl X x)(G:(x==("__debug__":Str))=false)(I:PE X a (SE X cl (ao C d))):PT X (.Compare a [.NotIn] [.Name x p] pos) (ST X cl (br C (.fus (.knin kvs) d))):=by
 let⟨b,U,A,L,u⟩:=T;refine PT.imp (uT je I (ja (v:=.ref b) B A rfl G) rfl) ?_;rintro Y H Q ⟨J,Z,m,w,m',r,l,e,k⟩;erw[eG] at e;let⟨O,m2,g,e⟩:=R.ah e;let⟨y,S,M,g⟩:=R.ah g;erw[dW] at g;split at g
 .ext z;cases g;erw[truthy] at e;cases e;refine⟨J,Z,m,_,_,r,l,M,fun h N P j q t=>?_⟩;cases t;exact⟨_,_,_,rfl,rfl,L,by rw[<-(u h N).look.1];exact⟨_,rfl,k _ _ j q⟩⟩
 .cases g
theorem Hw(T:TopK X.K X.w X.mg x kvs)(G:Gl X x)(I:(x==("__debug__":Str))=false)(L:PE X a (SE X cl (ao C d)))(u:kO a):PE X (.Subscript (.Name x p) a pos) (SE X cl (ao C (.fus (.kget kvs) d))):=by
 let⟨b,gs,B,M,A⟩:=T;refine PE.imp (D3 Gv (ja (v:=.ref b) G B rfl I) L u) ?_;rintro Y H Q ⟨J,Z,m,w,m',r,l,e,k⟩;erw[dG] at e;let⟨y,m1,P,e⟩:=R.ah e;erw[dW] at e;split at e
 .ext z;split at e
  .ext U O;cases e;refine⟨J,Z,m,_,_,r,l,P,fun g S v1 h j t=>?_⟩;cases t;let⟨v,N,q⟩:=(A g S).look.2 _ O;exact⟨_,_,_,_,rfl,rfl,M,N,k _ _ _ h j q⟩
  .cases e
 .cases e
end
def vE(X:L2.Cx)(cl:Cl)(C:D.Cx):List Str->Es->List (TE×TE)
 |k::ks,.cons e es=>(tC (.str k),SE X cl (ao C e))::vE X cl C ks es
 |_,_=>[]
section
variable{X:L2.Cx}{cl:Cl}{C:D.Cx}
theorem rY{Z:Loc}:∀{ks:List Str} {es:Es} {J:List Addr} {H:Hp} {m m':Mem} {ws:List W} {Q:List (V×V)->Hp->Prop},ks.length=ws.length->Rel X.K cl J m H->RL X.K J H Z Y->bh C es Z m=.ok ws m'->
  (∀q g vs,Ext J H q g->Rel X.K cl q m' g->aS X.K q g ws vs->Q ((ks.map V.str).zip vs) g)->pP (vE X cl C ks es) Y H Q
 |ks,.nil,J,H,m,m',ws,Q,a,r,l,e,k=>by
  erw[fG] at e;cases e;have:ks=[]:=SW.mp a;subst this;exact k _ _ [] Ext.refl r .nil
 |ks,.cons d es,J,H,m,m',ws,Q,a,r,l,e,k=>by
  erw[fG] at e;let⟨w,m1,L,e⟩:=R.ah e;let⟨N,m2,I,e⟩:=R.ah e;cases e;cases ks with
  |nil=>simp at a
  |cons z ks=>
   refine⟨J,Z,m,w,m1,r,l,L,fun x O y u j G=>?_⟩;refine rY (~~~a) j (l.mono r u) I fun h M vs t A B=>?_;exact k h M (y::vs) (u.trans j t) A (.cons (G.mono j t) B)
theorem vF:∀{ks:List Str} {ws:List W} {vs:List V},ks.length=ws.length->aS K J H ws vs->gm K J H (ks.zip ws) (ks.zip vs)
 | [],_,_,h,.nil=>.nil
 | [],_,_,h,.cons _ _=>by simp at h
 |_::_,_,_,h,.nil=>by simp at h
 |k::ks,_,_,h,.cons q t=>.cons q (vF (~~~h) t)
theorem Rel.other{p:Addr}{u u':HO}(r:Rel K cl J m H)(k:H p=some u)(U:p∉J)(h1:∀xs,u≠.tup xs)(h2:∀O x,u≠.frz O x)(h3:∀A,u≠.xd A:=by intro _ z;cases z) :
  Rel K cl J m (upd H p u')/\∀{ws:List W} {vs:List V},aS K J H ws vs->aS K J (upd H p u') ws vs:=by
 have l:∀{a:Addr} {o:Obj} {u:HO},H a=some (.frz o u)->upd H p u' a=some (.frz o u):=λ {a o x} e=>by
  rw[aq]
  .exact e
  .rintro rfl;rw[k] at e;cases e;exact h2 _ _ rfl
 have L:∀{a:Addr} {vs:List V},ef K H a vs->ef K (upd H p u') a vs:=λ {a vs} q=>by
  rcases q with (e | ⟨o,e⟩) | q
  .refine .inl (.inl ?_);rw[aq]
   .exact e
   .rintro rfl;rw[k] at e;cases e;exact h1 _ rfl
  .exact .inl (.inr ⟨o,l e⟩)
  .exact .inr q
 have R:∀{w:W} {v:V},RW K J H w v->RW K J (upd H p u') w v:=λ q=>q.keep ⟨[],by simp⟩ L l;have j:∀{ws:List W} {vs:List V},aS K J H ws vs->aS K J (upd H p u') ws vs:=λ q=>q.keep ⟨[],by simp⟩ L l;have I:∀{ws:List (Str×W)} {vs:List (Str×V)},gm K J H ws vs->gm K J (upd H p u') ws vs:=λ q=>by
  induction q with
  |nil=>exact .nil
  |cons a b T=>exact .cons (R a) T
 refine⟨⟨r.len,r.nd,λ {n o a} g1 g2=>?_⟩,j⟩;have h:a≠p:=by
  rintro rfl;exact U (QW g2)
 have q:=r.obj g1 g2;cases o with
 |lst ws=>let⟨vs,e,t⟩:=q;exact⟨vs,(aq h).trans e,j t⟩
 |ins c A=>let⟨B,g,e,t⟩:=q;exact⟨B,g,(aq h).trans e,I t⟩
 |set ks=>let⟨S,e,t⟩:=q;exact⟨S,(aq h).trans e,t⟩
 |dic A=>let⟨g,e,t⟩:=q;exact⟨g,(aq h).trans e,I t⟩
 |exc c f ws=>
  let⟨P,N,vs,e,M,t,d⟩:=q;refine⟨P,N,vs,(aq h).trans e,M,j t,d.imp id λ ⟨B,y,d1,d2,G⟩=>⟨B,y,d1,d2,?_⟩⟩;rw[aq]
  .exact G
  .rintro rfl;rw[k] at G;cases G;exact h3 _ rfl
theorem oF:∀{ks:List Str} {vs:List V},ks.length=vs.length->(ks.map V.str).zip vs=(keyed (ks.zip vs)).map λ a=>(kV a.1,a.2)
 | [],_,_=>rfl
 |_::_,[],h=>by simp at h
 |k::ks,v::vs,h=>by
  have:=oF (ks:=ks) (vs:=vs) (~~~h);show (V.str k,v)::(ks.map V.str).zip vs=(V.str k,v)::(keyed (ks.zip vs)).map λ a=>(kV a.1,a.2);rw[this]
theorem Hx{g:List (Option Expr)}{j:List Expr}{ks:List Str}(h:Ir X pos g j (vE X cl C ks ds))(N:g.all (·.isSome)=true)(hl:g.length=j.length)(h0:g≠[])(MZ:g.length<=15) :
  PE X (.Dict g j pos) (SE X cl (ao C (.fus (.dict ks) (.tup ds)))):=by
 refine PE.imp (Cd h N hl h0 MZ) ?_;rintro Y H Q ⟨J,Z,m,w,m',r,l,e,k⟩;erw[dG] at e;let⟨x,m1,O,e⟩:=R.ah e;let⟨ws,m2,e2,O⟩:=R.ah O;split at O
 .cases O;erw[dW,zy] at e;split at e
  .ext hk;let⟨S,k2,k3⟩:=hk;cases e;intro p I;let⟨x1,r1⟩:=r.zX I (.dK []);refine rY S r1 (l.mono r x1) e2 fun q H2 vs P B U=>?_;have pb:p∉J:=r.Ks I;have G:H2 p=some (.dK []):=P.keep aB pb 's';have Ot:p∉q:=λ z=>by
    let⟨γ,rfl,A⟩:=P.pre;rcases Qz.mp z with z | z
    .exact pb z
    .have:=A p z;rw[aB] at this;cases this
   have vl:ks.length=vs.length:=S.trans U.length;refine⟨G,keyed (ks.zip vs),?_,by simp[keyed];omega,?_⟩
   .exact oF vl
   .have T:((ks.zip vs).map (·.1)).Nodup:=by rw[map_fst_zip 'o'];exact k2
    rw[xQ (rW T) 's',TV];let⟨r3,kS⟩:=B.other (u':=.dK (keyed (ks.zip vs))) G Ot (by intro _ z;cases z) (by intro _ _ z;cases z);have t:∀{n:Nat} {a:Addr},q[n]?=some a->(q++[p])[n]?=some a:=λ h=>by rw[Qh (Qc.mp h).1];exact h
    refine k (q++[p]) _ (.ref p) ⟨?_,λ {b u} M T _=>?_⟩ ⟨by simp[B.len],?_,λ {n o a} g1 g2=>?_⟩ (.ref (B.last p))
    .let⟨γ,rfl,A⟩:=P.pre;refine⟨γ++[p],by rw[Rc],λ a y=>?_⟩;rcases Qz.mp y with y | y
     .have z:=A a y
      by_cases e:a=p
      .rw[e];exact I
      .rw[aq e] at z;exact z
     .rw[QV] at y;rw[y];exact I
    .have nb:b≠p:=aA M I;rw[aq nb];exact P.keep (by rw[aq nb];exact M) T 's'
    .rw[R6];refine⟨B.nd,by simp,λ a y b M=>?_⟩;rw[QV] at M;subst M;rintro rfl;exact Ot y
    .by_cases L:n<m1.length
     .rw[Qh L] at g1;rw[Qh (by rw[B.len];exact L)] at g2;exact(r3.obj g1 g2).sub t
     .have:n=m1.length:=by
       have:=(Qc.mp g1).1;simp at this;omega
      subst this;rw[Qy (Qf _)] at g1;simp at g1;subst g1;rw[B.last p] at g2;cases g2;exact⟨ks.zip vs,aB,(vF S (kS U)).sub t⟩
  .cases e
 .cases O
end
set_option genInjectivity false in
structure Ci where
 N:List Str
 names:List (Str×NameKind)
 fns:List (Str×(Nat×Nat))
 gl:List (Str×W)
 cs:Cs
 fz:List Pos
def kJ(x:Str):List Str->Option Nat
 | []=>none
 |y::r=>if y=x then some 0 else (kJ x r).map (·+1)
theorem jo{x:Str}:∀{N:List Str} {i:Nat},kJ x N=some i->N[i]?=some x
 | [],_,h=>by cases h
 |y::r,i,h=>by
  unfold kJ at h;split at h
  .ext e;cases h;simp[e]
  .erw[P9] at h;let⟨j,a,rfl⟩:=h;simpa using jo a
def uw:List (Str×B):=[("len",.len),("abs",.abs),("max",.max),("min",.min),("divmod",.divmod),("all",.all)
 ,("any",.any)
 ,("list",.list),("tuple",.tuple),("int",.int),("sorted",.sorted),("repr",.repr)
 ]
def mj:List Str:=["len","abs","max","min","divmod","all","any","list","tuple","int","bool","str","dict","isinstance","range","enumerate","zip","sorted","set","repr","sum","reversed"]
def Al:List (Str×(String×String)):=[("append",("append","list.append"))
 ,("pop",("pop","list.pop"))
 ,("extend",("extend","list.extend"))
 ,("insert",("insert","list.insert"))
 ,("join",("join","str.join"))
 ,("index",("index","str.index"))
 ,("add",("add","set.add"))
 ]
def qb(a:List Pos)(o:Expr)(m:Str):Option (String×String):=
 Al.lookup m
def noStar:Expr->Bool
 |.Starred ..=>false
 |_=>true
def isSlice:Expr->Bool
 |.Slice ..=>true
 |_=>false
def isSet:Expr->Bool
 |.Set ..=>true
 |_=>false
def mq:Expr->Bool
 |.ListComp ..=>true
 |.SetComp ..=>true
 |.DictComp ..=>true
 |_=>false
def gJ:Expr->Bool
 |.Call (.Name _ _) [] [] _=>true
 |_=>false
def Di:Expr->Bool
 |.Call ..=>true
 |.ListComp ..=>true
 |.List ..=>true
 |.BinOp ..=>true
 |.Subscript ..=>true
 |_=>false
def wz(c:Ci)(e:Expr)(d:E):E:=if Di e&&c.fz.contains e.pos then .frz d else d
def vG:Expr->Bool
 |.Name ..=>true
 |_=>false
def mw:Expr->Bool
 |.Tuple ..=>true
 |.List ..=>true
 |_=>false
def isIt:E->Bool
 |.rng _=>true
 |.rng2 _ _=>true
 |.enm _=>true
 |.zip _=>true
 |_=>false
def special(x:Str):Bool:=x=="__debug__"||x=="__classdict__"||x=="__name__"
def kK(f:Expr->Option E):List Expr->Option Es
 | []=>some .nil
 |e::es=>if noStar e then match f e with
  |none=>none
  |some d=>match kK f es with
   |none=>none
   |some ds=>some (.cons d ds) else none
def K8(f:Expr->Option E)(a:BoolOp):List Expr->Option E
 | []=>none
 | [e]=>f e
 |e::r=>match f e with
  |none=>none
  |some d=>match K8 f a r with
   |none=>none
   |some ds=>match a with
    |.And=>some (.and d ds)
    |.Or=>some (.or d ds)
def cO(f:Expr->Option E):Option Expr->Option Oe
 |none=>some .none
 |some e=>(f e).map .some
def oG(c:Ci)(x:Str):Option E:=if special x then none else match c.names.lookup x with
 |some .local=>(kJ x c.N).map .var
 |some .cell=>(kJ x c.N).map .var
 |some .free=>(kJ x c.N).map .var
 |some .globalImplicit=>(c.gl.lookup x).map .cst
 |_=>none
def jq(c:Ci)(x:Str):Option Nat:=match c.names.lookup x with
 |some .local=>kJ x c.N
 |some .cell=>kJ x c.N
 |_=>none
def L0(f:Expr->Option T):List Expr->Option Ts
 | []=>some .nil
 |e::es=>if noStar e then match f e with
  |none=>none
  |some d=>match L0 f es with
   |none=>none
   |some ds=>some (.cons d ds) else none
def cT:Nat->Ci->Expr->Option T
 |0,_,_=>none
 |n+1,c,e=>match e with
  |.Name x _=>(jq c x).map .var
  |.Tuple es _ _=>(L0 (cT n c) es).map .tup
  |_=>none
def cI(f:Expr->Option E)(c:Ci)(tg e:Expr):Option E:=match e with
 |.Call (.Name x _) args g _=>if g.isEmpty&&c.names.lookup x==some .globalImplicit&&(c.fns.lookup x).isNone&&!special x then
   if x="range" then match args with
    | [a]=>if noStar a then (f a).map .rng else none
    |_=>none
   else if x="enumerate" then match tg,args with
    |.Tuple _ _ _,[a]=>if noStar a then (f a).map .enm else none
    |_,_=>none
   else match f e with
    |some d=>if isIt d then none else some d
    |none=>none
  else match f e with
   |some d=>if isIt d then none else some d
   |none=>none
 |e=>match f e with
  |some d=>if isIt d then none else some d
  |none=>none
def Am(f:Expr->Option E):List Expr->Option Es
 | []=>some .nil
 | [e]=>(f e).map λ d=>.cons d .nil
 |_=>none
def EC(f:Expr->Option E)(n:Nat)(c:Ci)(elt:Expr):List Comprehension->Option G
 | []=>(f elt).map .elt
 |⟨tg,it,ifs,as⟩::a=>if as=0/\isSet it=false then match cT n c tg,cI f c tg it,Am f ifs,EC f n c elt a with
  |some t,some d,some ds,some g=>some (.gen t [] d ds g)
  |_,_,_,_=>none else none
def rZ(N:List Str)(names:List (Str×NameKind)):List Nat:=(N.zipIdx.filter λ p=>names.lookup p.1==some .local||names.lookup p.1==some .cell).map (·.2)
def ux(N:List Str)(scope:Scope)(a:List (Str×NameKind)):Bool:=
 decide (scope.kind=.function)&&scope.names.all λ y=>(decide (y.2≠.cell)||decide (scope.names.lookup y.1=some .cell))&&(decide (y.2≠.local)||decide (scope.names.lookup y.1=some .local))&&(decide (y.2≠.free)||decide (a.lookup y.1=some .cell)||decide (a.lookup y.1=some .free))
def Dj(c:Ci)(e:Expr):Option (List (Str×W)):=match e with
 |.Name x _=>if special x then none else if c.names.lookup x=some .globalImplicit then c.cs.dic.lookup x else none
 |_=>none
def oH:List (Option Expr)->Option (List Str)
 | []=>some []
 |e::r=>match e with
  |some (.Constant (.str k) _ _)=>(oH r).map (k::·)
  |_=>none
def K9(g:CmpOp)(a:List (Str×W))(d:Option E):Option E:=match g with
 |.NotIn=>d.map (.fus (.knin a))
 |_=>none
def cE:Nat->Ci->Expr->Option E
 |0,_,_=>none
 |n+1,c,e=>Option.map (wz c e) <| match e with
  |.Name x _=>oG c x
  |.Constant k _ _=>match k with
   |.int i=>some (.cst (.int i))
   |.bool b=>some (.cst (.bl b))
   |.none=>some (.cst .non)
   |.str x=>some (.cst (.str x))
   |_=>none
  |.BinOp a op b _=>match cE n c a,cE n c b with
   |some d,some d'=>some (.bin op d d')
   |_,_=>none
  |.UnaryOp op a _=>match op with
   |.USub=>(cE n c a).map .neg
   |.Not=>(cE n c a).map .not
   |_=>none
  |.BoolOp op vs _=>K8 (cE n c) op vs
  |.Compare a ops bs _=>match ops,bs with
   | [op],[b]=>if behindInMarks op b then none else
    match Dj c b with
    |some j=>K9 op j (cE n c a)
    |none=>
    match cE n c a,cE n c b with
     |some d,some d'=>some (.cmp op d d')
     |_,_=>none
   | [z,o2],[b,A]=>if lastMarks [z,o2] [b,A] then none else match cE n c a,cE n c b,cE n c A with
    |some d,some d',some q=>some (.chain z o2 d d' q)
    |_,_,_=>none
   |_,_=>none
  |.IfExp t a b _=>match cE n c t,cE n c a,cE n c b with
   |some d,some d',some q=>some (.ife d d' q)
   |_,_,_=>none
  |.Tuple es _ _=>(kK (cE n c) es).map .tup
  |.List es _=>(kK (cE n c) es).map .lst
  |.Subscript a s _=>match s with
   |.Slice lo hi st _=>match st with
    |none=>match cE n c a,cO (cE n c) lo,cO (cE n c) hi with
     |some d,some l,some h=>some (.slc d l h)
     |_,_,_=>none
    |some _=>none
   |s=>if isSlice s then none else
    match Dj c a with
    |some j=>(cE n c s).map (.fus (.kget j))
    |none=>
    match cE n c a,cE n c s with
     |some d,some d'=>some (.idx d d')
     |_,_=>none
  |.Dict keys values _=>if keys.length=values.length/\keys.length<=15/\keys≠[] then match oH keys with
    |some ks=>(kK (cE n c) values).map λ ds=>.fus (.dict ks) (.tup ds)
    |none=>none
   else none
  |.Call f args y pos=>if y.isEmpty then match f with
    |.Name x _=>if special x then none else if c.names.lookup x=some .globalImplicit then match c.fns.lookup x with
      |some (i,np)=>match args with
       | []=>if np=0 then some (.call i .nil) else none
       |a::r=>if args.length=np then (kK (cE n c) (a::r)).map (.call i) else none
      |none=>match c.cs.ini.lookup x with
       |some _=>match args with
        | []=>none
        |a::r=>(kK (cE n c) (a::r)).map (.make x)
       |none=>if x="set" then match args with
        | []=>some .nB
        |_=>none
       else
       match uw.lookup x with
       |some b=>match args with
        | []=>none
        |a::r=>(kK (cE n c) (a::r)).map (.blt b)
       |none=>none
     else none
    |.Attribute o m apos=>if gJ o then none else if (apos.endLine==pos.line) then match qb c.fz o m,cE n c o with
      |some (nm,_),some d=>if args.length<20 then (kK (cE n c) args).map (.meth d nm) else none
      |none,some d=>if args.length<20 then (kK (cE n c) args).map (.mth d m) else none
      |_,_=>none
     else none
    |_=>none
   else none
  |.Attribute o f _=>if gJ o then none else (cE n c o).map λ d=>.fld d f
  |.ListComp elt gens scope _=>match gens with
   | []=>none
   |⟨tg,it,ifs,as⟩::B=>
    let u:Ci:={c with names:=scope.names}
    if as=0/\isSet it=false/\ux c.N scope c.names=true then match cT n u tg,cI (cE n c) c tg it,Am (cE n u) ifs,EC (cE n u) n u elt B with
     |some t,some d,some ds,some g=>some (.comp (.gen t (rZ c.N scope.names) d ds g))
     |_,_,_,_=>none
    else none
  |_=>none
def L1(f:Expr->Option A):List Expr->Option As
 | []=>some .nil
 |e::es=>if noStar e then match f e with
  |none=>none
  |some d=>match L1 f es with
   |none=>none
   |some ds=>some (.cons d ds) else none
def cA:Nat->Ci->Expr->Option A
 |0,_,_=>none
 |n+1,c,e=>match e with
  |.Name x _=>(jq c x).map λ i=>.pt (.var i)
  |.Tuple es _ _=>(L1 (cA n c) es).map .tup
  |.Subscript o i _=>if isSlice i then none else match cE n c o,cE n c i with
   |some d,some d'=>some (.sub d d')
   |_,_=>none
  |_=>none
def sW(f:Stmt->Option S):List Stmt->Option Ss
 | []=>some .nil
 |s::r=>match f s with
  |none=>none
  |some d=>match sW f r with
   |none=>none
   |some ds=>some (.cons d ds)
def Hy(n:Nat)(c:Ci)(tg v:Expr):Option S:=if (mw tg&&mw v)||vG tg||!noStar tg then none else match cA n c tg,cE n c v with
 |some t,some d=>some (.asg t d)
 |_,_=>none
def Hz(n:Nat)(c:Ci)(tg v:Expr):Option S:=match tg with
 |.Name x _=>match jq c x,cE n c v with
  |some i,some d=>some (.asg (.pt (.var i)) d)
  |_,_=>none
 |.Attribute o f _=>match cE n c o,cE n c v with
  |some d,some a=>some (.fas d f a)
  |_,_=>none
 |tg=>
  Hy n c tg v
def cS:Nat->Ci->Stmt->Option S
 |0,_,_=>none
 |n+1,c,s=>match s with
  |.Assign ts v _=>match ts with
   | [t]=>Hz n c t v
   |_=>none
  |.Expr v _=>if mq v then none else (cE n c v).map .expr
  |.Return o _=>match o with
   |some v=>(cE n c v).map .ret
   |none=>some .retN
  |.If t a b _=>match cE n c t,sW (cS n c) a,sW (cS n c) b with
   |some d,some x,some y=>some (.ife d x y)
   |_,_,_=>none
  |.For tg it body g _=>match g with
   | []=>if isSet it then none else match cT n c tg,cI (cE n c) c tg it,sW (cS n c) body with
    |some t,some d,some x=>some (.for_ t d x)
    |_,_,_=>none
   |_=>none
  |.Pass _=>some .pass
  |.Break _=>some .brk
  |.Continue _=>some .cont
  |.Raise _ _ _=>some .never
  |_=>none
structure Ok(X:L2.Cx)(cl:Cl)(C:D.Cx)(c:Ci):Prop where
 N:X.N=c.N
 nd:c.N.Nodup
 vis:∀{x:Str} {k:NameKind},c.names.lookup x=some k->(k=.local\/k=.cell\/k=.free)->DU X.env.scope x
 loc:∀{x:Str} {k:NameKind},c.names.lookup x=some k->(k=.local\/k=.cell)->L2.Loc X.env.scope x/\(X.fn x=true\/X.env.scope.names.lookup x=some .local)
 cel:∀{x:Str},(c.names.lookup x=some .cell\/c.names.lookup x=some .free)->X.env.scope.names.lookup x=some .cell\/X.env.scope.names.lookup x=some .free
 glb:∀{x:Str},c.names.lookup x=some .globalImplicit->Gl X x
 calm:X.calm=true
 units:UN X cl
 hand:X.A.handled=none
 blt:∀x∈mj,X.mg x=none
 fn:∀{x:Str} {i np:Nat},c.fns.lookup x=some (i,np)->∃(k:Nat) (fa:Addr) (fd:FuncData) (ps:List Str),ps.length=np/\bV k X.A/\X.mg x=some (.ref fa)/\PySem.W.keepIn X.K (.ref fa)=true/\Binds X.K fd ps []/\cg X.prog X.w X.K X.mg X.base (yv X.prog X.w) k fa fd ps (vq X.K cl ps.length (C.call i))
 gl:∀{x:Str} {w:W},c.gl.lookup x=some w->∃u v,X.mg x=some u/\RelV v u/\∀J H,RW X.K J H w v
 cs:c.cs=C.cs
 fld:∀{d f:Str},C.cs.flds.contains (d,f)=true->yt X.K (aj X.K d)/\gW X.K (aj X.K d) f
 mth:∀{d f:Str} {i:Nat},C.cs.mths.lookup (d,f)=some i->EA X cl C d f i
 ini:∀{d:Str} {i:Nat},C.cs.ini.lookup d=some i->EB X cl C d i
 dic:∀{x:Str} {kvs:List (Str×W)},C.cs.dic.lookup x=some kvs->TopK X.K X.w X.mg x kvs
 isc:∀{x:Str},C.cs.isc.contains x=true->X.mg x=some (.ref (aj X.K x))/\GS X.K (aj X.K x)
section
variable{env:Env}
theorem bF(h:noStar e=true):starEach (e::es) env=(false,eval e env)::starEach es env:=by
 cases e<;>first | rfl | cases h
theorem dB:∀{es:List Expr} {ds:Es},kK f es=some ds->(backTo pos (starEach es env)).any (·.1)=false
 | [],_,_=>rfl
 |e::es,ds,h=>by
  unfold kK at h;split at h
  .ext a;split at h
   .cases h
   .split at h
    .cases h
    .ext j g;rw[bF a];show ((false||(backTo pos (starEach es env)).any (·.1)))=false;rw[dB g];rfl
  .cases h
theorem qc:∀{es:List Expr} {ds:Es},kK f es=some ds->(backTo pos (starEach es env)).all (λ x=>!x.1)=true
 | [],_,_=>rfl
 |e::es,ds,h=>by
  unfold kK at h;split at h
  .ext a;split at h
   .cases h
   .split at h
    .cases h
    .ext j g;rw[bF a];show ((true&&(backTo pos (starEach es env)).all (λ x=>!x.1)))=true;rw[qc g];rfl
  .cases h
theorem fK(h:kK f (e::es)=some ds):noStar e=true/\∃d a,f e=some d/\kK f es=some a/\ds=.cons d a:=by
 unfold kK at h;split at h
 .ext g;split at h
  .cases h
  .ext d k;split at h
   .cases h
   .ext a j;cases h;exact⟨g,d,a,k,j,rfl⟩
 .cases h
theorem jr(h:noStar e=true):assignEach (e::es) env=(false,assign e env)::assignEach es env:=by
 cases e<;>first | rfl | cases h
theorem vH(h:isSlice b=false):kO b:=by
 intro o i;cases b<;>first | rfl | cases h
theorem kR{m:Str}(h:gJ o=false):attributeBase o m env (eval o env)=eval o env:=by
 unfold attributeBase;split
 .cases h
 .rfl
theorem qd(h:isSet e=false)(x:Value):foldedSetIterable e env x=pure x:=by
 cases e<;>first | rfl | cases h
theorem jt{t:Option Expr}{l:Nat}(h:mq v=false):swapsWith v t l env=pure false:=by
 cases v<;>first | rfl | cases h
def Es.len:Es->Nat
 |.nil=>0
 |.cons _ r=>r.len+1
theorem vI:∀{es:List Expr} {ds:Es},kK f es=some ds->ds.len=es.length
 | [],_,h=>by cases h;rfl
 |e::es,ds,h=>by
  let⟨_,d,a,_,g,rfl⟩:=fK h;show a.len+1=_;rw[vI g];rfl
theorem r8:∀{ds:Es} {Z:Loc} {m m':Mem} {ws:List W},bh C ds Z m=.ok ws m'->ws.length=ds.len
 |.nil,_,_,_,_,h=>by erw[fG] at h;cases h;rfl
 |.cons d ds,_,_,_,_,h=>by
  erw[fG] at h;let⟨w,m1,g,h⟩:=R.ah h;let⟨ws,m2,a,h⟩:=R.ah h;cases h;rw[QO,r8 a];rfl
end
theorem lookup_mem{J:Type}{x:Str}{b:J}:∀{l:List (Str×J)},l.lookup x=some b->(x,b)∈l:=λ {l} h=>QT h
theorem xS{x:Str}{b:B}(h:uw.lookup x=some b):x∈mj/\((∃a,zV b=.builtin a/\bootBuiltins x=@(.builtin a))\/∃a,zV b=.type a/\bootBuiltins x=@(.type a)):=by
 have g:=lookup_mem h;erw[uw,RI,UD,R4,Te] at g;rcases g with⟨rfl,rfl⟩ | ⟨rfl,rfl⟩ | ⟨rfl,rfl⟩ | ⟨rfl,rfl⟩ | ⟨rfl,rfl⟩ | ⟨rfl,rfl⟩ | ⟨rfl,rfl⟩ | ⟨rfl,rfl⟩ | ⟨rfl,rfl⟩ | ⟨rfl,rfl⟩ | ⟨rfl,rfl⟩
  |⟨rfl,rfl⟩
 all_goals first
  |exact⟨by decide +kernel,.inl ⟨_,rfl,by decide +kernel⟩⟩
  |exact⟨by decide +kernel,.inr ⟨_,rfl,by decide +kernel⟩⟩
theorem uy{a:List Pos}{m:Str}{y:String×String}(h:qb a o m=some y):(m,y)∈Al:=by
 unfold qb at h;exact lookup_mem h
theorem An(k:UN X cl){l:List Pos}{m:Str}{a g:String}(h:qb l o m=some (a,g)):PlainAttrs (KP (kB a))/\Slot (KP (kB a)) m g/\typeOf (.builtin g)=pure (.type "method_descriptor")/\Br X g (SM X cl a):=by
 have j:=uy h;erw[Al,RI,UD,R4,Te] at j;rcases j with⟨rfl,rfl,rfl⟩
  |⟨rfl,rfl,rfl⟩
  |⟨rfl,rfl,rfl⟩
  |⟨rfl,rfl,rfl⟩
  |⟨rfl,rfl,rfl⟩
  |⟨rfl,rfl,rfl⟩
  |⟨rfl,rfl,rfl⟩
 .exact⟨R0,PySem.F.slot_list_append,PySem.F.type_list_append,xM⟩
 .exact⟨R0,PySem.F.slot_list_pop,PySem.F.type_list_pop,GW⟩
 .exact⟨R0,PySem.F.slot_list_extend,PySem.F.type_list_extend,xN⟩
 .exact⟨R0,PySem.F.slot_list_insert,PySem.F.type_list_insert,xO⟩
 .exact⟨Um,PySem.F.slot_str_join,PySem.F.type_str_join,CV⟩
 .exact⟨Um,PySem.F.slot_str_index,PySem.F.type_str_index,xP⟩
 .exact⟨PySem.F.plainAttrs_set,PySem.F.slot_set_add,PySem.F.type_set_add,GX k⟩
theorem bQ{x:Str}(h:special x=false):(x==("__debug__":Str))=false/\(x==("__classdict__":Str))=false/\x≠"__name__":=by
 unfold special at h;erw[Tf] at h;exact⟨h.1.1,h.1.2,~~~h.2⟩
section
variable{X:L2.Cx}{cl:Cl}{C:D.Cx}{c:Ci}
theorem Ok.slot(o:Ok X cl C c){x:Str}(h:kJ x c.N=some i):X.N[i]?=some x:=by rw[o.N];exact jo h
theorem Dk(o:Ok X cl C c){x:Str}(h:oG c x=some d):PE X (.Name x pos) (SE X cl (ao C d))/\∀Z m,br C d Z m=(ao C d Z m).bind λ w m=>D.truthy m w:=by
 unfold oG at h;split at h
 .cases h
 .ext q;let⟨j,k,r⟩:=bQ (~~~q);split at h
  .ext a;erw[P9] at h;let⟨i,g,rfl⟩:=h;exact⟨ou (o.slot g) (o.vis a (.inl rfl)) j k,λ _ _=>rfl⟩
  .ext a;erw[P9] at h;let⟨i,g,rfl⟩:=h;exact⟨ou (o.slot g) (o.vis a (.inr (.inl rfl))) j k,λ _ _=>rfl⟩
  .ext a;erw[P9] at h;let⟨i,g,rfl⟩:=h;exact⟨ou (o.slot g) (o.vis a (.inr (.inr rfl))) j k,λ _ _=>rfl⟩
  .ext a;erw[P9] at h;let⟨w,l,rfl⟩:=h;exact⟨Ej (o.glb a) (o.gl l) j,λ _ _=>rfl⟩
  .cases h
def Tells(X:L2.Cx)(cl:Cl)(C:D.Cx)(e:Expr)(d:E):Prop:=PE X e (SE X cl (ao C d))/\PT X e (ST X cl (br C d))
theorem av(h:PE X e (SE X cl (ao C d)))(g:∀a,isTrue e X.env a=(do let v <-a;standAt e.pos;holding [v] (PySem.truthy v)))(j:∀Z m,br C d Z m=(ao C d Z m).bind λ w m=>D.truthy m w):Tells X cl C e d:=⟨h,Em h g j⟩
theorem Ao(h:Tells X cl C e d):Tells X cl C e (wz c e d):=by
 unfold wz;split
 .ext a;erw[Qe] at a;refine⟨Ez h.1,Em (Ez h.1) ?_ λ _ _=>rfl⟩;have:=a.1;cases e<;>first | (intro _;rfl) | cases this
 .exact h
theorem gn(a:∀e d,f e=some d->Tells X cl C e d):∀{es:List Expr} {ds:Es},kK f es=some ds->PA X es (SA X cl (bh C ds))
 | [],_,h=>by cases h;exact KJ
 |e::es,ds,h=>by
  let⟨g,d,l,k,j,rfl⟩:=fK h;exact GN (a e d k).1 (gn a j) (bF g)
theorem La(a:∀e d,f e=some d->Tells X cl C e d){e:Option Expr}{d:Oe}(h:cO f e=some d):PO X e (Iw X cl (zD C d)):=by
 cases e with
 |none=>cases h;exact GO
 |some e=>
  erw[cO,P9] at h;let⟨j,g,rfl⟩:=h;exact GP (a e j g).1
theorem Aq{f:Expr->Option E}(g:∀e d,f e=some d->Tells X cl C e d){a:BoolOp}{pos:Pos}:∀{es:List Expr} {d:E},K8 f a es=some d->PE X (.BoolOp a es pos) (SE X cl (ao C d))/\PW X (.BoolOp a es pos) (ST X cl (br C d))
 | [],_,h=>by cases h
 | [e],d,h=>by
  have q:=g e d h;cases a with
  |And=>exact⟨yG q.1,BC q.2⟩
  |Or=>exact⟨yG q.1,Fc q.2⟩
 |e::z::r,d,h=>by
  unfold K8 at h;split at h
  .cases h
  .ext y x;split at h
   .cases h
   .ext A u;let⟨k,j⟩:=Aq (pos:=pos) g u;let⟨t,l⟩:=g e y x;cases a with
    |And=>cases h;exact⟨KG t k,w_and l j⟩
    |Or=>cases h;exact⟨Nr t k,w_or l j⟩
theorem Dm{a O:Expr}{da db dc:E}{t o2:CmpOp}(hu:UN X cl)(ha:PE X a (SE X cl (ao C da)))(hb:PE X b (SE X cl (ao C db)))(g:PE X O (SE X cl (ao C dc)))(hm:lastMarks [t,o2] [b,O]=false) :
  PT X (.Compare a [t,o2] [b,O] pos) (ST X cl (br C (.chain t o2 da db dc))):=by
 refine PT.imp (yO (jT (cl:=cl) hu t) (jT (cl:=cl) hu o2) ha hb g hm) ?_;rintro Y H Q ⟨J,Z,m,w,m',r,l,e,k⟩;erw[bK] at e;let⟨x,m1,e1,e⟩:=R.ah e;let⟨y,m2,e2,e⟩:=R.ah e;let⟨z,m3,e3,e⟩:=R.ah e;refine⟨J,Z,m,x,m1,r,l,e1,fun I H1 v1 N q q1=>?_⟩;refine⟨I,Z,m1,y,m2,q,l.mono r N,e2,fun G H2 v2 M j T=>?_⟩;have l2:=(l.mono r N).mono q M;refine⟨G,m2,x,y,.bl z,m3,j,q1.mono q M,T,by rw[e3];rfl,fun B H3 v3 L h q3=>?_⟩;cases q3;refine⟨z,rfl,?_⟩;have KI:=(N.trans q M).trans j L;split at e
 .ext g;rw[Qn g];let⟨u,U,e4,e⟩:=R.ah e;refine⟨B,Z,m3,u,U,h,l2.mono j L,e4,fun A H4 v4 P S q4=>?_⟩;refine⟨A,U,y,u,.bl w,m',S,(T.mono j L).mono h P,q4,by rw[e];rfl,fun β5 H5 v5 x5 r5 q5=>?_⟩;cases q5;exact⟨_,rfl,k _ _ ((KI.trans h P).trans S x5) r5⟩
 .ext g;rw[Qu g];cases e;exact⟨_,rfl,k _ _ KI h⟩
theorem Lb{t a:Expr}{N P O:E}(T:PT X t (ST X cl (br C N)))(ha:PT X a (ST X cl (br C P)))(hb:PT X b (ST X cl (br C O))):PT X (.IfExp t a b pos) (ST X cl (br C (.ife N P O))):=by
 intro L s Y H Q I h;let⟨J,Z,m,w,m',r,l,e,k⟩:=h;erw[eK] at e;let⟨x,y,e1,e⟩:=R.ah e;show wpAny _ _ (isTrue t X.env (eval t X.env) >>= λ z=>if z=true then isTrue a X.env (eval a X.env) else isTrue b X.env (eval b X.env)) _ _ s;refine Qa (bP (T L s Y H (λ c u=>c=x/\∃g,Ext J H g u/\Rel X.K cl g y u) I ⟨J,Z,m,x,y,r,l,e1,fun g u j q=>⟨rfl,g,j,q⟩⟩) λ c M ⟨u,S,U,g,j,q⟩=>?_);subst U;cases c with
 |true=>exact ha L M Y u Q S ⟨g,Z,y,w,m',q,l.mono r j,e,fun A H2 B G=>k _ _ (j.trans q B) G⟩
 |false=>exact hb L M Y u Q S ⟨g,Z,y,w,m',q,l.mono r j,e,fun A H2 B G=>k _ _ (j.trans q B) G⟩
end
section
variable{X:L2.Cx}{cl:Cl}{C:D.Cx}{c:Ci}
theorem ju(o:Ok X cl C c){x:Str}(h:jq c x=some i):X.N[i]?=some x/\L2.Loc X.env.scope x/\(X.fn x=true\/X.env.scope.names.lookup x=some .local):=by
 unfold jq at h;split at h
 .ext a;exact⟨o.slot h,o.loc a (.inl rfl)⟩
 .ext a;exact⟨o.slot h,o.loc a (.inr rfl)⟩
 .cases h
theorem Iz(o:Ok X cl C c):X.N.Nodup:=by rw[o.N];exact o.nd
theorem ED{f:Expr->Option T}(g:∀e t,f e=some t->PG X e (SG X cl (fT C (.pt t)))):∀{es:List Expr} {ts:Ts},L0 f es=some ts->
  sV X es (G0 X cl (fU C (T.uq ts)))/\(assignEach es X.env).length=(T.uq ts).len/\(assignEach es X.env).findIdx? (·.1)=none
 | [],_,h=>by cases h;exact⟨Ab,rfl,rfl⟩
 |e::es,ts,h=>by
  unfold L0 at h;split at h
  .ext q;split at h
   .cases h
   .ext d u;split at h
    .cases h
    .ext ds r;cases h;let⟨l,k,j⟩:=ED g r;have a:=jr (env:=X.env) (es:=es) q;refine⟨vA (g e d u) l (by rw[a];rfl),?_,?_⟩
     .rw[a,QO,k];rfl
     .rw[a,findIdx?_cons];simp[j]
  .cases h
theorem r9(o:Ok X cl C c):∀(n:Nat) (e:Expr) (t:T),cT n c e=some t->PG X e (SG X cl (fT C (.pt t)))
 |0,_,_,h=>by cases h
 |n+1,e,t,h=>by
  unfold cT at h;split at h
  .erw[P9] at h;let⟨i,hi,rfl⟩:=h;let⟨q,l,k⟩:=ju o hi;exact Et (Iz o) q l k
  .erw[P9] at h;let⟨ts,hi,rfl⟩:=h;let⟨j,g,a⟩:=ED (λ e t h=>r9 o n e t h) hi;exact G8 (Eu o.calm j g a)
  .cases h
theorem Ar(h:isIt d=false):∀Z m,dw C d Z m=(ao C d Z m).bind kC:=by
 intro Z m;cases d<;>first | (simp[isIt] at h;done) | rfl
theorem qe(a:∀e d,f e=some d->Tells X cl C e d)(h:(match f e with | some d=>if isIt d=true then none else some d | none=>none)=some d):PI X tg e (SI X cl (dw C d)):=by
 split at h
 .ext k j;split at h
  .cases h
  .ext g;cases h;exact KQ (a _ _ j).1 (Ar (~~~g))
 .cases h
theorem vJ(o:Ok X cl C c)(a:∀e d,f e=some d->Tells X cl C e d)(h:cI f c tg e=some d):PI X tg e (SI X cl (dw C d)):=by
 unfold cI at h;split at h
 .ext x p u y pos;split at h
  .ext t;erw[Qe,Q6,isEmpty_iff] at t;let⟨⟨⟨q,g⟩,A⟩,z⟩:=t;subst q;split at h
   .ext j;subst j;have l:=o.blt "range" 'k';split at h
    .split at h
     .ext k;erw[P9] at h;let⟨B,r,rfl⟩:=h;exact KR (o.glb g) l (a _ _ r).1 (bF k)
     .cases h
    .cases h
   .split at h
    .ext j;subst j;have l:=o.blt "enumerate" 'k';split at h
     .split at h
      .ext k;erw[P9] at h;let⟨B,r,rfl⟩:=h;exact KS (o.glb g) l (a _ _ r).1 (bF k)
      .cases h
     .cases h
    .
      exact qe a h
  .exact qe a h
 .exact qe a h
theorem vK(a:∀e d,f e=some d->Tells X cl C e d)(h:Am f es=some ds):lN X es (ST X cl (bD C ds)):=by
 unfold Am at h;split at h
 .cases h;exact Dc
 .erw[P9] at h;let⟨d,g,rfl⟩:=h;exact Df (a _ _ g).2
 .cases h
theorem mz{a:List Comprehension}{g:G}(h:EC f n c elt a=some g):∀g',a[0]?=some g'->g'.is_async=0/\∀(env:Env) x,foldedSetIterable g'.iter env x=pure x:=by
 intro g' j;cases a with
 |nil=>simp at j
 |cons q a=>
  simp at j;subst j;let⟨tg,r,l,t⟩:=q;unfold EC at h;split at h
  .ext k;exact⟨k.1,λ env x=>qd k.2 x⟩
  .cases h
theorem Au(o:Ok X cl C c)(k:X.xe=λ _ _=>False)(j:∀e d,f e=some d->Tells X cl C e d){gens:List Comprehension}{Δ:Addr}:∀{r:List Comprehension} {g:G} {d0:Nat},EC f n c elt r=some g->(∀i,gens[d0+1+i]?=r[i]?)->
  PB X (λ Q s=>dO X.prog X.w X.A (.ListComp elt gens scope pos) elt d0 (.ref Δ) X.env Q gens[d0+1]? s) (SB false X cl Δ (gZ C g))
 | [],g,d0,h,a=>by
  erw[EC,P9] at h;let⟨d,q,rfl⟩:=h;exact Hj k (by simpa using a 0) (j _ _ q).1
 |⟨tg,it,ifs,as⟩::r,g,d0,h,a=>by
  unfold EC at h;split at h
  .ext y;split at h
   .ext t d ds g' q I B u;cases h;let⟨rfl,x⟩:=y;have z:=mz u;refine K0 k o.calm (by simpa using a 0) (λ L l=>?_) (vJ o j I) (r9 o n _ _ q) (vK j B) (Au o k j (d0:=d0+1) u λ i=>?_)
    .have:=a 1;rw[l] at this;let⟨N,M⟩:=z L (~~~this.symm);exact⟨N,M _⟩
    .have:=a (i+1);rw[show d0+1+1+i=d0+1+(i+1) by omega,this];simp
   .cases h
  .cases h
theorem bC{env:Env}:∀{names:List (Str×NameKind)} {x:Str} {k:NameKind},names.lookup x=some k->
  (names.map λ (n,k)=>if (k==NameKind.free&&env.scope.kind==.function&&env.kindOf n==some .cell) then (n,NameKind.cell) else (n,k)).lookup x=some k\/
  (k=.free/\(names.map λ (n,k)=>if (k==NameKind.free&&env.scope.kind==.function&&env.kindOf n==some .cell) then (n,NameKind.cell) else (n,k)).lookup x=some .cell)
 | [],_,_,h=>by simp at h
 |(n,a)::r,x,k,h=>by
  have l:=@bC env r x k;show List.lookup x ((if (a==NameKind.free&&env.scope.kind==.function&&env.kindOf n==some .cell)=true then (n,NameKind.cell) else (n,a))::(r.map λ (n,k)=>if (k==NameKind.free&&env.scope.kind==.function&&env.kindOf n==some .cell) then (n,NameKind.cell) else (n,k)))=some k\/(k=.free/\List.lookup x ((if (a==NameKind.free&&env.scope.kind==.function&&env.kindOf n==some .cell)=true then (n,NameKind.cell) else (n,a))::(r.map λ (n,k)=>if (k==NameKind.free&&env.scope.kind==.function&&env.kindOf n==some .cell) then (n,NameKind.cell) else (n,k)))=some .cell);cases g:x==n with
  |true=>
   erw[Qs,g] at h;cases h
   by_cases j:(a==NameKind.free&&env.scope.kind==.function&&env.kindOf n==some .cell)=true
   .rw[Qn j];have q:a=.free:=by
     erw[Qe] at j;simpa using j.1.1
    exact .inr ⟨q,by erw[Qs,g]⟩
   .rw[Qu j];exact .inl (by erw[Qs,g])
  |false=>
   erw[Qs,g] at h;have:=l h;split<;>(erw[Qs,g];exact this)
theorem Ok.comp(o:Ok X cl C c)(t:ux c.N scope c.names=true):gD X.N (rZ c.N scope.names) scope X.env.scope/\∀q h H₀ B pn,Ok (X.comp scope q h H₀ B pn) cl C {c with names:=scope.names}:=by
 unfold ux at t;erw[Qe,QE,So,Tj] at t;let⟨I,u⟩:=t;refine⟨⟨I,λ y l j=>?_,λ y l j=>?_,λ p A j=>?_,λ y l G=>?_⟩,λ q h H₀ B pn=>⟨o.N,o.nd,λ {x k} a r=>?_,λ {x k} a r=>?_,λ {x} a=>?_,λ {x} a=>?_,o.calm,⟨o.units.un,o.units.P,o.units.w,o.units.gd⟩,o.hand,o.blt,o.fn,o.gl,o.cs,o.fld,o.mth,o.ini,o.dic,o.isc⟩⟩
 .rcases (u y l).1.1 with z | z
  .exact absurd j z
  .exact z
 .rcases (u y l).1.2 with z | z
  .exact absurd j z
  .exact z
 .unfold rZ;rw[o.N] at A;refine QB.mpr ⟨p,Tg.mpr ⟨A,by rcases j with j | j<;>simp[j]⟩,rfl⟩
 .rcases (u y l).2 with (z | z) | z
  .exact absurd G z
  .exact o.cel (.inl z)
  .exact o.cel (.inr z)
 .rcases bC (env:=X.env) a with z | ⟨g,z⟩
  .rcases r with rfl | rfl | rfl
   .exact .inl z
   .exact .inr (.inl z)
   .exact .inr (.inr z)
  .exact .inr (.inl z)
 .rcases r with rfl | rfl
  .rcases bC (env:=X.env) a with z | ⟨g,z⟩
   .exact⟨.inl z,.inr z⟩
   .cases g
  .rcases bC (env:=X.env) a with z | ⟨g,z⟩
   .exact⟨.inr z,.inl (~~~a)⟩
   .cases g
 .rcases a with a | a
  .rcases bC (env:=X.env) a with z | ⟨g,z⟩
   .exact .inl z
   .cases g
  .rcases bC (env:=X.env) a with z | ⟨g,z⟩
   .exact .inr z
   .exact .inl z
 .rcases bC (env:=X.env) a with z | ⟨g,z⟩
  .exact z
  .cases g
end
theorem vL{c:Ci}(o:Ok X cl C c){a:List (Str×W)}(h:Dj c e=some a):∃x p,e=.Name x p/\TopK X.K X.w X.mg x a/\Gl X x/\(x==("__debug__":Str))=false:=by
 unfold Dj at h;split at h
 .ext x p;split at h
  .cases h
  .ext g;split at h
   .ext j;rw[o.cs] at h;exact⟨x,p,rfl,o.dic h,o.glb j,(bQ (~~~g)).1⟩
   .cases h
 .cases h
theorem sd:∀{a:List (Option Expr)} {ks:List Str},oH a=some ks->a.all (·.isSome)=true
 | [],_,_=>rfl
 |e::r,ks,h=>by
  unfold oH at h;split at h
  .erw[P9] at h;let⟨g,j,rfl⟩:=h;rw[UO,sd j];rfl
  .cases h
theorem Av(l:∀e d,f e=some d->PE X e (SE X cl (ao C d))):∀{g:List (Option Expr)} {a:List Expr} {ks:List Str} {ds:Es},oH g=some ks->kK f a=some ds->g.length=a.length->Ir X pos g a (vE X cl C ks ds)
 | [],[],ks,ds,j,h,_=>by cases j;cases h;exact Cb
 | [],_::_,_,_,_,_,k=>by simp at k
 |_::_,[],_,_,_,_,k=>by simp at k
 |e::r,v::vs,ks,ds,j,h,k=>by
  unfold oH at j;split at j
  .erw[P9] at j;let⟨q,x,rfl⟩:=j;unfold kK at h;split at h
   .split at h
    .cases h
    .ext d u;split at h
     .cases h
     .ext y t;cases h;exact zf yF (l v d u) (Av l x t (~~~k))
   .cases h
  .cases j
theorem L3{a:Expr}{es:Es}(h:kK f [a,b]=some es):∃d d',es=.cons d %[|d']/\f a=some d/\f b=some d':=by
 let⟨_,d,ds,l,k,rfl⟩:=fK h;let⟨_,d',q,j,g,rfl⟩:=fK k;cases g;exact⟨d,d',rfl,l,j⟩
theorem EE{c:Ci}(o:Ok X cl C c){it:Expr}{ifs:List Expr}{j:List Comprehension}{t:T}{u:E}{g:G}
  (r:∀h a H₀ l pn,Ok (X.comp scope h a H₀ l pn) cl C {c with names:=scope.names}) (z:gD X.N (rZ c.N scope.names) scope X.env.scope) (B:∀k,j[0]?=some k->k.is_async=0/\∀(q:Env) x,foldedSetIterable k.iter q x=pure x)
  (A:∀e d,cE n c e=some d->Tells X cl C e d) (y:∀h a H₀ l pn e d,cE n {c with names:=scope.names} e=some d->Tells (X.comp scope h a H₀ l pn) cl C e d)
  (O:cT n {c with names:=scope.names} tg=some t) (M:cI (cE n c) c tg it=some u) (L:Am (cE n {c with names:=scope.names}) ifs=some ds) (I:EC (cE n {c with names:=scope.names}) n {c with names:=scope.names} elt j=some g) (P:isSet it=false) :
  CL X cl C elt tg it ifs j scope pos (rZ c.N scope.names) t u ds g:=
 ⟨o.calm,z,B,vJ o A M,λ _ _ _ _ _=>r9 (r _ _ _ _ _) n _ _ O,λ _ _ _ _ _=>vK (y _ _ _ _ _) L,
  λ _ _ _ _ _ R=>Au (r _ _ _ _ _) rfl (y _ _ _ _ _) I λ i=>by simp[Nat.add_comm],λ x=>qd P x⟩
theorem iw:∀(n:Nat) (X:L2.Cx) (c:Ci) (e:Expr) (d:E),Ok X cl C c->cE n c e=some d->Tells X cl C e d
 |0,_,_,_,_,_,h=>by cases h
 |n+1,X,c,e,d,o,h=>by
  have l:∀e d,cE n c e=some d->Tells X cl C e d:=λ e d h=>iw n X c e d o h;unfold cE at h;erw[P9] at h;let⟨d,h,rfl⟩:=h;refine Ao ?_;split at h
  .
   let⟨q1,q2⟩:=Dk o h;exact av q1 (λ _=>rfl) q2
  .
   split at h
   .cases h;exact av Eg (λ _=>rfl) λ _ _=>rfl
   .cases h;exact av Ky (λ _=>rfl) λ _ _=>rfl
   .cases h;exact av Eh (λ _=>rfl) λ _ _=>rfl
   .cases h;exact av Ei (λ _=>rfl) λ _ _=>rfl
   .cases h
  .
   split at h
   .ext B d2 j z;cases h;exact av (Kz (l _ _ j).1 (l _ _ z).1) (λ _=>rfl) λ _ _=>rfl
   .cases h
  .
   split at h
   .erw[P9] at h;let⟨d',j,rfl⟩:=h;exact av (KD (l _ _ j).1) (λ _=>rfl) λ _ _=>rfl
   .erw[P9] at h;let⟨d',j,rfl⟩:=h;exact⟨Ek (l _ _ j).1,El (l _ _ j).2⟩
   .cases h
  .
   let⟨q1,q2⟩:=Aq l h;exact⟨q1,q2.pt⟩
  .
   split at h
   .split at h
    .cases h
    .ext N;split at h
     .ext kvs O;let⟨x,p,rfl,hT,L,hd⟩:=vL o O;unfold K9 at h;split at h
      .erw[P9] at h;let⟨B,j,rfl⟩:=h;exact⟨Hu hT L hd (l _ _ j).1,Hv hT L hd (l _ _ j).1⟩
      .cases h
     split at h
     .ext B d2 j z;cases h;exact⟨KA o.units (l _ _ j).1 (l _ _ z).1 (~~~N),KC o.units (l _ _ j).1 (l _ _ z).1 (~~~N)⟩
     .cases h
   .split at h
    .cases h
    .ext N;split at h
     .ext B d2 d3 j z P;cases h;have N:=(QX _).mp N;exact⟨CQ o.units (l _ _ j).1 (l _ _ z).1 (l _ _ P).1 (yN (jT o.units _) (jT o.units _) (l _ _ j).1 (l _ _ z).1 (l _ _ P).1 N),Dm o.units (l _ _ j).1 (l _ _ z).1 (l _ _ P).1 N⟩
     .cases h
   .cases h
  .
   split at h
   .ext B d2 d3 j z P;cases h;exact⟨KH (l _ _ j).2 (l _ _ z).1 (l _ _ P).1,Lb (l _ _ j).2 (l _ _ z).2 (l _ _ P).2⟩
   .cases h
  .
   erw[P9] at h;let⟨ds,j,rfl⟩:=h;exact av (En (gn l j)) (λ _=>rfl) λ _ _=>rfl
  .erw[P9] at h;let⟨ds,j,rfl⟩:=h;exact av (Eo (gn l j)) (λ _=>rfl) λ _ _=>rfl
  .
   split at h
   .split at h
    .split at h
     .ext B d2 d3 j z P;cases h;exact av (KN (l _ _ j).1 (La l z) (La l P)) (λ _=>rfl) λ _ _=>rfl
     .cases h
    .cases h
   .split at h
    .cases h
    .ext hs;split at h
     .ext kvs O;let⟨x,p,rfl,hT,L,hd⟩:=vL o O;erw[P9] at h;let⟨B,j,rfl⟩:=h;exact av (Hw hT L hd (l _ _ j).1 (vH ((QX _).mp hs))) (λ _=>rfl) λ _ _=>rfl
     split at h
     .ext B d2 j z;cases h;exact av (KL (l _ _ j).1 (l _ _ z).1 (vH ((QX _).mp hs))) (λ _=>rfl) λ _ _=>rfl
     .cases h
  .
   split at h
   .ext hc;split at h
    .ext ks O;erw[P9] at h;let⟨ds,j,rfl⟩:=h;exact av (Hx (Av (λ e d h=>(l e d h).1) O j hc.1) (sd O) hc.1 hc.2.2 hc.2.1) (λ _=>rfl) λ _ _=>rfl
    .cases h
   .cases h
  .
   ext f args kws pos;split at h
   .ext O;have O:kws=[]:=by simpa using O
    subst O;split at h
    .ext x p;split at h
     .cases h
     .ext tO;let⟨I,hs2,hs3⟩:=bQ (~~~tO);split at h
      .ext Pb;have L:=o.glb Pb;split at h
       .ext i np hf;split at h
        .split at h
         .ext hnp;cases h;let⟨k,fa,fd,ps,e1,e2,e3,e4,e5,e6⟩:=o.fn hf;exact av (Dg e6 e2 L e3 e4 e5 (by rw[e1];exact hnp) I) (λ _=>rfl) λ _ _=>rfl
         .cases h
        .ext a r;split at h
         .ext y;erw[P9] at h;let⟨ds,j,rfl⟩:=h;let⟨k,fa,fd,ps,e1,e2,e3,e4,e5,e6⟩:=o.fn hf;let⟨q,B,S,z1,M,rfl⟩:=fK j;refine av (s_call e6 e2 L e3 e4 e5 (gn l j) (fun Z m ws m' hw=>?_) I (bF q) (dB M)) (λ _=>rfl) λ _ _=>rfl;rw[r8 hw,vI j,e1];exact y
         .cases h
       .split at h
        .ext ix U;split at h
         .cases h
         .ext a r;erw[P9] at h;let⟨ds,j,rfl⟩:=h;let⟨q,B,S,z1,M,rfl⟩:=fK j;rw[o.cs] at U;exact av (Ht U (o.ini U) L (gn l j) I (bF q) (dB M)) (λ _=>rfl) λ _ _=>rfl
        split at h
        .ext gp;subst gp;split at h
         .cases h;exact av (GZ o.units L (o.blt _ 'k')) (λ _=>rfl) λ _ _=>rfl
         .cases h
        split at h
        .ext b hb;split at h
         .cases h
         .ext a r;erw[P9] at h;let⟨ds,j,rfl⟩:=h;let⟨q,B,S,z1,M,rfl⟩:=fK j;obtain⟨N,⟨id,y1,T⟩ | ⟨id,y1,T⟩⟩:=xS hb
          .exact av (GU o.units o.calm o.hand y1 L (o.blt _ N) T (gn l j) hs3 I (bF q) (dB M)) (λ _=>rfl) λ _ _=>rfl
          .exact av (GV o.units o.calm o.hand y1 L (o.blt _ N) T (gn l j) hs3 I (bF q) (dB M)) (λ _=>rfl) λ _ _=>rfl
        .cases h
      .cases h
    .ext ob mm apos;split at h
     .cases h
     .ext R;split at h
      .ext A;split at h
       .ext nm id B y1 T;split at h
        .ext y;erw[P9] at h;let⟨ds,j,rfl⟩:=h;let⟨w0,w1,w2,w3⟩:=An (X:=X) (cl:=cl) o.units y1;have u:=kR (env:=X.env) (m:=mm) (by simpa using R:gJ ob=false);cases args with
         |nil=>
          cases j;exact av (CW rfl w0 w1 w2 w3 (l _ _ T).1 u A) (λ _=>rfl) λ _ _=>rfl
         |cons a r=>
          let⟨q,d2,S,z1,M,rfl⟩:=fK j;refine av (GY rfl w0 w1 w2 w3 (l _ _ T).1 (gn l j) u ?_ A (bF q) (dB M)) (λ _=>rfl) λ _ _=>rfl;rw[qc j];have:(a::r).length+0+0<30:=Qm y 'd';show (true&&true&&decide _)=true;exact QS this
        .cases h
       .ext B y1 T;split at h
        .ext y;erw[P9] at h;let⟨ds,j,rfl⟩:=h;have u:=kR (env:=X.env) (m:=mm) (by simpa using R:gJ ob=false);refine av (K7 (λ hx=>o.mth hx) (l _ _ T).1 (gn l j) u ?_ A ?_) (λ _=>rfl) λ _ _=>rfl
         .rw[qc j];have:args.length+0+0<30:=Qm y 'd';show (true&&true&&decide _)=true;exact QS this
         .cases args with
          |nil=>cases j;exact .inl ⟨rfl,rfl⟩
          |cons a r=>
           let⟨q,d2,S,z1,M,rfl⟩:=fK j;exact .inr ⟨a,r,rfl,bF q,dB M⟩
        .cases h
       .cases h
      .cases h
    .cases h
   .cases h
  .
   ext ob f p;split at h
   .cases h
   .ext R;erw[P9] at h;let⟨B,j,rfl⟩:=h;exact av (K6 (λ hx=>o.fld hx) (l _ _ j).1 (kR (by simpa using R:gJ ob=false))) (λ _=>rfl) λ _ _=>rfl
  .
   ext elt gens scope pos;split at h
   .cases h
   .ext tg it ifs as gs;split at h
    .ext oJ;let⟨rfl,gp,hco⟩:=oJ;split at h
     .ext t B ds g j z P h4;cases h;let⟨ok,oc⟩:=o.comp hco;have IA:∀cl' G H₀ fp pn e d,cE n {c with names:=scope.names} e=some d->Tells (X.comp scope cl' G H₀ fp pn) cl C e d:=λ cl' G H₀ fp pn e d h=>iw n _ _ e d (oc cl' G H₀ fp pn) h;refine av (Hq (EE o oc ok (mz h4) l IA j z P h4 gp) (eval_ListComp _ _ _ _)) (λ _=>rfl) λ _ _=>rfl
     .cases h
    .cases h
  .cases h
section
variable{env:Env}
theorem Dn{i:Expr}(h:isSlice i=false)(v:Value):assign (.Subscript o i pos) env v=(do
   let a <-holding [v] (eval o env)
   let g <-holding [v,a] (eval i env)
   standAt pos
   holding [v,a,g] (setItem a g v)
   release [v,a,g] []):=by
 cases i<;>first | rfl | cases h
theorem Dp{l:Nat}(h:vG tg=false):swapsWithSole [tg] v l env=pure false:=by
 show swapsWith v (some tg) l env=pure false;cases v<;>first | rfl | (cases tg<;>first | rfl | cases h)
theorem Dq{f:Str}{l:Nat}:swapsWith v @(.Attribute o f p) l env=pure false:=by
 cases v<;>rfl
theorem oK(h:(mw tg&&mw v)=false):swappedStores [tg] v env=pure none:=by
 cases tg<;>first | rfl | (cases v<;>first | rfl | cases h)
end
theorem xT{c:Ci}(j:mq v=true)(h:cE n c v=some d):(∃elt gens scope pos,v=.ListComp elt gens scope pos)\/∃g a gens scope pos,v=.DictComp g a gens scope pos:=by
 cases n with
 |zero=>cases h
 |succ n=>
  cases v with
  |ListComp elt gens scope pos=>exact .inl ⟨_,_,_,_,rfl⟩
  |SetComp elt gens scope pos=>unfold cE at h;simp at h
  |DictComp k v gens scope pos=>exact .inr ⟨_,_,_,_,_,rfl⟩
  |_=>cases j
section
variable{X:L2.Cx}{cl:Cl}{C:D.Cx}{c:Ci}
theorem EF{f:Expr->Option A}(g:∀e t,f e=some t->PG X e (SG X cl (fT C t))):∀{es:List Expr} {ts:As},L1 f es=some ts->
  sV X es (G0 X cl (fU C ts))/\(assignEach es X.env).length=ts.len/\(assignEach es X.env).findIdx? (·.1)=none
 | [],_,h=>by cases h;exact⟨Ab,rfl,rfl⟩
 |e::es,ts,h=>by
  unfold L1 at h;split at h
  .ext q;split at h
   .cases h
   .ext d u;split at h
    .cases h
    .ext ds r;cases h;let⟨l,k,j⟩:=EF g r;have a:=jr (env:=X.env) (es:=es) q;refine⟨vA (g e d u) l (by rw[a];rfl),?_,?_⟩
     .rw[a,QO,k];rfl
     .rw[a,findIdx?_cons];simp[j]
  .cases h
theorem Aw(o:Ok X cl C c):∀(n:Nat) (e:Expr) (t:A),cA n c e=some t->PG X e (SG X cl (fT C t))
 |0,_,_,h=>by cases h
 |n+1,e,t,h=>by
  unfold cA at h;split at h
  .erw[P9] at h;let⟨i,hi,rfl⟩:=h;let⟨g,a,r⟩:=ju o hi;exact Et (Iz o) g a r
  .erw[P9] at h;let⟨ts,hi,rfl⟩:=h;let⟨l,k,j⟩:=EF (λ e t h=>Aw o n e t h) hi;exact Eu o.calm l k j
  .split at h
   .cases h
   .ext q;split at h
    .ext x u g a;cases h;exact KU o.units (iw n X c _ _ o g).1 (iw n X c _ _ o a).1 (Dn ((QX _).mp q))
    .cases h
  .cases h
theorem gP{f:Stmt->Option S}(a:∀s d,f s=some d->PS X s (SS X cl (aM C d))):∀{es:List Stmt} {ds:Ss},sW f es=some ds->iE X es (SS X cl (aF C ds))
 | [],_,h=>by cases h;exact Hf
 |e::es,ds,h=>by
  unfold sW at h;split at h
  .cases h
  .ext d j;split at h
   .cases h
   .ext ds g;cases h;exact CY (a e d j) (gP a g)
theorem Ax(o:Ok X cl C c){x:Str}{gens:List Comprehension}(U:jq c x=some i)(h:cE n c (.ListComp elt gens scope pos)=some d) :
  PS X (.Assign [.Name x p] (.ListComp elt gens scope pos) spos) (SS X cl (aM C (.asg (.pt (.var i)) d))):=by
 let⟨L,I,G⟩:=ju o U;have e:swapsWith (.ListComp elt gens scope pos) @(.Name x p) spos.line X.env=pure (X.env.blockKind==.function&&X.env.kindOf x==some .local&&p.line==(Expr.ListComp elt gens scope pos).pos.line&&!(scope.names.any λ (n,k)=>n==x&&(k==.local||k==.cell))):=rfl;cases B:(X.env.blockKind==.function&&X.env.kindOf x==some .local&&p.line==(Expr.ListComp elt gens scope pos).pos.line&&!(scope.names.any λ (n,k)=>n==x&&(k==.local||k==.cell))) with
 |false=>
  rw[B] at e;exact ur (Iz o) L I (iw n X c _ _ o h).1 e G
 |true=>
  rw[B] at e;cases n with
  |zero=>cases h
  |succ n=>
   have S:∀e d,cE n c e=some d->Tells X cl C e d:=λ e d h=>iw n X c e d o h;unfold cE at h;erw[P9] at h;let⟨d,h,rfl⟩:=h;have r:PS X (.Assign [.Name x p] (.ListComp elt gens scope pos) spos) (SS X cl (aM C (.asg (.pt (.var i)) d)))->PS X (.Assign [.Name x p] (.ListComp elt gens scope pos) spos) (SS X cl (aM C (.asg (.pt (.var i)) (wz c (.ListComp elt gens scope pos) d)))):=λ q=>by
    unfold wz;split
    .exact Hr q
    .exact q
   refine r ?_;split at h
   .cases h
   .ext tg it T as gs;split at h
    .ext R;let⟨rfl,gp,u⟩:=R;split at h
     .ext t d1 ds g O N M z;cases h;let⟨P,A⟩:=o.comp u;have IA:∀l a j y pn e d,cE n {c with names:=scope.names} e=some d->Tells (X.comp scope l a j y pn) cl C e d:=λ l a j y pn e d h=>iw n _ _ e d (A l a j y pn) h;exact C9 (Iz o) L I (EE o A P (mz z) S IA O N M z gp) e G
     .cases h
    .cases h
theorem Dr(o:Ok X cl C c)(k:∀e d,cE n c e=some d->Tells X cl C e d){d:S}(h:Hy n c tg v=some d):PS X (.Assign [tg] v spos) (SS X cl (aM C d)):=by
 unfold Hy at h;split at h
 .cases h
 .ext a;erw[Tj,Q0,Ug,Bool.not_eq_false] at a;let⟨⟨r,q⟩,l⟩:=a;split at h
  .ext t u j g;cases h;exact Hg (k _ _ g).1 (Aw o n _ _ j) (Dp ((QX _).mp q)) (oK ((QX _).mp r)) (by rw[jr l];rfl)
  .cases h
theorem Ds(o:Ok X cl C c)(q:X.env.scope.names=c.names)(r:X.env.scope.kind=.function){d:S}(h:Hz n c tg v=some d):PS X (.Assign [tg] v spos) (SS X cl (aM C d)):=by
 have j:∀e d,cE n c e=some d->Tells X cl C e d:=λ e d h=>iw n X c e d o h;unfold Hz at h;split at h
 .ext x p;split at h
  .ext i z g a;cases h;let⟨y,u,t⟩:=ju o g
   by_cases k:mq v=true
   .rcases xT k a with⟨_,_,_,_,rfl⟩ | ⟨_,_,_,_,_,rfl⟩
    .exact Ax o g a
    .cases n with | zero=>cases a | succ n=>unfold cE at a;simp at a
   .exact ur (Iz o) y u (j _ _ a).1 (jt ((QX _).mp k)) t
  .cases h
 .split at h
  .ext z A g a;cases h;exact Hs (λ l=>o.fld l) (j _ _ g).1 (j _ _ a).1 Dq
  .cases h
 .
   exact Dr o j h
theorem EG(o:Ok X cl C c)(a:X.env.scope.names=c.names)(g:X.env.scope.kind=.function)(B:PassesOwn (model X.prog X.w) X.A X.env X.xe)(G:∀e s,¬X.xe e s):∀(n:Nat) (s:Stmt) (d:S),cS n c s=some d->PS X s (SS X cl (aM C d))
 |0,_,_,h=>by cases h
 |n+1,s,d,h=>by
  have j:∀e d,cE n c e=some d->Tells X cl C e d:=λ e d h=>iw n X c e d o h;have z:∀s d,cS n c s=some d->PS X s (SS X cl (aM C d)):=λ s d h=>EG o a g B G n s d h;unfold cS at h;split at h
  .split at h
   .exact Ds o a g h
   .cases h
  .split at h
   .cases h
   .ext L;erw[P9] at h;let⟨u,r,rfl⟩:=h;exact CZ (j _ _ r).1 (jt ((QX _).mp L))
  .split at h
   .erw[P9] at h;let⟨u,r,rfl⟩:=h;exact Ac (j _ _ r).1
   .cases h;exact p6
  .split at h
   .ext u x y q l k;cases h;exact Ad (j _ _ q).2 (gP z l) (gP z k)
   .cases h
  .split at h
   .split at h
    .cases h
    .ext I;split at h
     .ext t u x q l k;cases h;exact Ae B o.calm (vJ o j l) (r9 o n _ _ q) (gP z k) (λ x=>qd ((QX _).mp I) x)
     .cases h
   .cases h
  .cases h;exact vB
  .cases h;exact Hh
  .cases h;exact C0
  .cases h;exact mh
  .cases h
end
def Ay(K:ae)(J:List Addr)(H:Hp)(Q:VK)(E:XK):F->Prop
 |.nx _=>Q .non H
 |.rt w=>∀v,RW K J H w v->Q v H
 |.rz c none _=>E (.ref (aj K c)) none H
 |.rz c (some (f,w)) _=>∀y dx,RW K J H w y->H dx=none->E (.ref (aj K c)) (some dx) (upd H dx (.xd [(f,y)]))
 |_=>False
def Du(K:ae)(cl:Cl)(np:Nat)(f:List W->Mem->R F):Sp:=λ vs H Q E=>vs.length=np/\∃J m ws fl m',Rel K cl J m H/\aS K J H ws vs/\f ws m=.ok fl m'/\∀a g,Ext J H a g->Rel K cl a m' g->Ay K a g Q E fl
section
variable{X:L2.Cx}{cl:Cl}{C:D.Cx}{pos:Pos}
theorem Dv{x f:Str}{a:Expr}{np g:Pos}{k:Nat}{B:Addr}{I:FuncData}{h:List Str}{bm:List Value}(M:XC X.K (aj X.K c) bm @(.ref B))(u:PySem.W.typeIn X.K (.ref B)=@(.type "function"))
  (Fi:cg X.prog X.w X.K X.mg X.base Cg k B I h (Iv (aj X.K c) f)) (P:bV (k+1) X.A) (hb:Binds X.K I h []) (t:h.length=2) (j:X.ex=[]) (T:Gl X x) (S:X.mg x=@(.ref (aj X.K c))) (U:PE X a (SE X cl (ao C d)))
  (z:(x==("__debug__":Str))=false) (q:starEach [a] X.env=(false,eval a X.env)::starEach [] X.env):PS X (.Raise @(.Call (.Name x np) [a] [] g) none pos) (SS X cl (aM C (.rais c (some f) d))):=by
 refine PS.imp (zJ M u Fi P hb t j T S U z q) ?_;rintro D Y H ⟨J,Z,m,fl,m',r,l,e,k⟩;erw[ud] at e;let⟨w,m1,e1,e⟩:=R.ah e;cases e;exact⟨J,Z,m,w,_,r,l,e1,fun L H1 y G N O dx hd=>k _ _ G N Y y dx (l.mono r G) O hd⟩
theorem Az{x:Str}{a:Expr}{np g:Pos}{O:List Value}(z:XC X.K (aj X.K c) O none)(I:X.A.handled=none)(h:X.ex=[])(L:Gl X x)(G:X.mg x=@(.ref (aj X.K c)))(M:PE X a (SE X cl (ao C d)))
  (q:(x==("__debug__":Str))=false) (j:starEach [a] X.env=(false,eval a X.env)::starEach [] X.env):PS X (.Raise @(.Call (.Name x np) [a] [] g) none pos) (SS X cl (aM C (.rais c none d))):=by
 refine PS.imp (xE z I h L G M q j) ?_;rintro D Y H ⟨J,Z,m,fl,m',r,l,e,k⟩;erw[ud] at e;let⟨w,S,N,e⟩:=R.ah e;cases e;exact⟨J,Z,m,w,_,r,l,N,fun u T y t B P=>k _ _ t B Y (l.mono r t)⟩
theorem qf{h:Ea}{f:F}{a:List Addr}{j:Hp}(e:Bs C h Z none fl m2=.ok f m')(u:Rel X.K cl a m2 j)(l2:RL X.K a j Z Y)
  (x:∀l r,Ext a j l r->Rel X.K cl l m' r->zZ X Dd l r f) (t:∀w,oj C h Z w m2=.ok f m'->∀v,RW X.K a j w v->Q v j):Ay X.K a j Q (Bu X Y) fl:=by
 cases fl with
 |nx g=>exact t .non e .non .non
 |rt w=>exact λ v q=>t w e v q
 |bk g=>cases e
 |ct g=>cases e
 |rz c fw g=>
  cases e;have k:=x a j Ext.refl u;rcases fw with _ | ⟨f,w⟩
  .exact k Y l2
  .exact λ y A q z=>k Y y A l2 q z
theorem qg{h:Ea}{f:F}{a:List Addr}{j:Hp}{t:W}{v0:V}(e:Bs C h Z (some t) fl m2=.ok f m')(x:Rel X.K cl a m2 j)(l2:RL X.K a j Z Y)
  (z:∀l r,Ext a j l r->Rel X.K cl l m' r->zZ X Dd l r f) (u:oj C h Z t m2=.ok f m'->Q v0 j):Ay X.K a j (λ v H=>v=.non/\Q v0 H) (Bu X Y) fl:=by
 cases fl with
 |nx g=>exact⟨rfl,u e⟩
 |rt w=>
  intro v q;cases w<;>first | (cases q;exact⟨rfl,u e⟩) | cases e
 |bk g=>cases e
 |ct g=>cases e
 |rz c fw g=>
  cases e;have k:=z a j Ext.refl x;rcases fw with _ | ⟨f,w⟩
  .exact k Y l2
  .exact λ y B q A=>k Y y B l2 q A
theorem mC{m1:Mem}(r:Rel X.K cl J m H)(l:RL X.K J H Z Y)(A:bh C ds Z m=.ok ws m1)(z:C.flow i ws m1=.ok fl m2)(y:ws.length=np)
  (h:∀a g,Ext J H a g->Rel X.K cl a m2 g->Ay X.K a g Q (Bu X Y) fl):um X (Du X.K cl np (C.flow i)) [] (SA X cl (bh C ds)) Y H Q:=
 ⟨J,Z,m,ws,m1,r,l,A,fun j B vs u k q=>⟨by rw[Rm,<-q.length];exact y,j,m1,ws,fl,m2,k,by rw[Rm];exact q,z,fun a g t x=>h a g (u.trans k t) x⟩⟩
theorem mD{m1:Mem}(r:Rel X.K cl J m H)(l:RL X.K J H Z Y)(U:bh C ds Z m=.ok ws m1)(T:C.flow i (.ref m1.length::ws) (m1++[.ins c []])=.ok fl m2)(S:(W.ref m1.length::ws).length=np)
  (h:∀a k x,Ext J H a k->Rel X.K cl a m2 k->RW X.K a k (.ref m1.length) (.ref x)->Ay X.K a k (λ v H=>v=.non/\Q (.ref x) H) (Bu X Y) fl):uo X (aj X.K c) (Du X.K cl np (C.flow i)) [] (SA X cl (bh C ds)) Y H Q:=by
 refine⟨J,Z,m,ws,m1,r,l,U,fun g H1 N M j P x z R y u=>?_⟩;let⟨G,t⟩:=j.zX y (.own x);have GG:upd H1 z (.own x) x=none:=by rw[aq u.symm];exact R
 let⟨B,I⟩:=t.zQ (ho:=.ins (aj X.K c) z []) (o:=.ins c []) GG λ _=>⟨z,[],aB,.nil⟩;have L:aS X.K (g++[x]) _ (.ref m1.length::ws) (.ref x::N):=.cons (.ref (j.last x)) ((P.mono j G).mono t B);refine⟨?_,g++[x],m1++[.ins c []],.ref m1.length::ws,fl,m2,I,by rw[Rm];exact L,T,fun q H4 A O=>?_⟩
 .rw[Rm,<-L.length];exact S
 .exact h q H4 x (((M.trans j G).trans t B).trans I A) O (.ref (A.get (j.last x)))
theorem HA{a:Expr}(L:PE X a (um X (Du X.K cl np (C.flow i)) [] (SA X cl (bh C ds))))(G:∀ws m fl m',C.flow i ws m=.ok fl m'->ws.length=np) :
  ((swapsWith a none pos.line X.env=pure false)->PS X (.Expr a pos) (SS X cl (aM C (.xc .drop none i ds))))/\PS X (.Return (some a) pos) (SS X cl (aM C (.xc .ret none i ds)))/\
  ∀{tg:Expr} {M:A},PG X tg (SG X cl (fT C M))->swapsWithSole [tg] a pos.line X.env=pure false->swappedStores [tg] a X.env=pure none->(assignEach [tg] X.env).map (·.2)=[assign tg X.env]->PS X (.Assign [tg] a pos) (SS X cl (aM C (.xc (.asg M) none i ds))):=by
 refine⟨λ I=>?_,?_,λ {tg M} U I hw h1=>?_⟩
 .refine PS.imp (pC L I) ?_;rintro D Y H ⟨J,Z,m,f,m',r,l,e,k⟩;erw[rF] at e;let⟨ws,P,z,e⟩:=R.ah e;let⟨fl,m2,j,e⟩:=R.ah e;refine mC r l z j (G _ _ _ _ j) fun t S g h=>qf e h (l.mono r g) (fun N O u x=>k _ _ (g.trans h u) x) λ w y v q=>?_;cases y;exact k _ _ g h Y (l.mono r g)
 .refine PS.imp (sY L) ?_;rintro D Y H ⟨J,Z,m,f,m',r,l,e,k⟩;erw[rF] at e;let⟨ws,P,z,e⟩:=R.ah e;let⟨fl,m2,j,e⟩:=R.ah e;refine mC r l z j (G _ _ _ _ j) fun t S g h=>qf e h (l.mono r g) (fun N O u x=>k _ _ (g.trans h u) x) λ w y v q=>?_;cases y;exact k _ _ g h v q
 .refine PS.imp (sZ L U I hw h1) ?_;rintro D Y H ⟨J,Z,m,f,m',r,l,e,k⟩;erw[rF] at e;let⟨ws,P,z,e⟩:=R.ah e;let⟨fl,m2,j,e⟩:=R.ah e;refine mC r l z j (G _ _ _ _ j) fun t S g h=>qf e h (l.mono r g) (fun N O u x=>k _ _ (g.trans h u) x) λ w y v q=>?_;let⟨Z3,m3,e3,y⟩:=R.ah y;cases y;exact⟨t,Z,m2,w,Z3,_,h,l.mono r g,q,e3,fun N O B u x T=>k _ _ (g.trans h u) x B T⟩
theorem HB{a:Expr}(N:PE X a (uo X (aj X.K c) (Du X.K cl np (C.flow i)) [] (SA X cl (bh C ds))))(L:∀ws m fl m',C.flow i ws m=.ok fl m'->ws.length=np) :
  ((swapsWith a none pos.line X.env=pure false)->PS X (.Expr a pos) (SS X cl (aM C (.xc .drop (some c) i ds))))/\PS X (.Return (some a) pos) (SS X cl (aM C (.xc .ret (some c) i ds)))/\
  ∀{tg:Expr} {G:A},PG X tg (SG X cl (fT C G))->swapsWithSole [tg] a pos.line X.env=pure false->swappedStores [tg] a X.env=pure none->(assignEach [tg] X.env).map (·.2)=[assign tg X.env]->PS X (.Assign [tg] a pos) (SS X cl (aM C (.xc (.asg G) (some c) i ds))):=by
 refine⟨λ M=>?_,?_,λ {tg G} hg M hw h1=>?_⟩
 .refine PS.imp (pC N M) ?_;rintro D Y H ⟨J,Z,m,f,m',r,l,e,k⟩;erw[rG] at e;let⟨ws,T,B,e⟩:=R.ah e;let⟨fl,m2,j,e⟩:=R.ah e;refine mD r l B j (L _ _ _ _ j) fun t U x g h q=>qg (Q:=λ _ P=>D.nx Y P) (v0:=.ref x) e h (l.mono r g) (fun O S u y=>k _ _ (g.trans h u) y) λ z=>?_;cases z;exact k _ _ g h Y (l.mono r g)
 .refine PS.imp (sY N) ?_;rintro D Y H ⟨J,Z,m,f,m',r,l,e,k⟩;erw[rG] at e;let⟨ws,T,B,e⟩:=R.ah e;let⟨fl,m2,j,e⟩:=R.ah e;refine mD r l B j (L _ _ _ _ j) fun t U x g h q=>qg (Q:=D.rt) e h (l.mono r g) (fun O S u y=>k _ _ (g.trans h u) y) λ z=>?_;cases z;exact k _ _ g h _ q
 .refine PS.imp (sZ N hg M hw h1) ?_;rintro D Y H ⟨J,Z,m,f,m',r,l,e,k⟩;erw[rG] at e;let⟨ws,T,B,e⟩:=R.ah e;let⟨fl,m2,j,e⟩:=R.ah e;refine mD r l B j (L _ _ _ _ j) fun t U x g h q=>qg (Q:=λ v P=>SG X cl (fT C G) v Y P D.nx) e h (l.mono r g) (fun O S u y=>k _ _ (g.trans h u) y) λ z=>?_;let⟨Z3,m3,e3,z⟩:=R.ah z;cases z;exact⟨t,Z,m2,_,Z3,_,h,l.mono r g,q,e3,fun O S I u y l'=>k _ _ (g.trans h u) y I l'⟩
end
section
variable{X:L2.Cx}{cl:Cl}{C:D.Cx}{pos:Pos}
theorem Rel.exc{a:Addr}{g:Obj}{h:Option Addr}{f:Str}(r:Rel K cl J m H)(j:H a=none)(l:CI (aj K c) h g)(q:aS K J H ws vs)(d:XD H h f vs) :
  Ext J H (J++[a]) (upd H a (jl a g))/\Rel K cl (J++[a]) (m++[.exc c f ws]) (upd H a (jl a g)):=by
 refine r.zQ (ho:=jl a g) (o:=.exc c f ws) j λ x=>?_;refine⟨g,h,vs,aB,l,q.mono r x,d.imp id λ ⟨t,y,z,u,k⟩=>⟨t,y,z,u,?_⟩⟩;rw[aq (aA k j)];exact k
theorem RL.gone(l:RL K J H Z Y):RL K J H (Z.set i none) (Y.set i none):=by
 refine⟨~~~l.len,λ {j w} h=>?_⟩
 by_cases z:i=j
 .subst z;rw[UM] at h;simp at h
 .rw[QA z] at h ⊢;exact l.at_ h
def vM(i:Option Nat)(Y:L2.St):L2.St:=match i with
 |none=>Y
 |some i=>Y.set i none
theorem jv{j:L2.Cx}{i:Option Nat}{a:Ends}{f:F}(g:j.K=X.K)(e:gone i fl m2=.ok f m')(k:Rel X.K cl J m' H->zZ X Dd J H f)(r:Rel X.K cl J m2 H)(h:∀Z Y,RL X.K J H Z Y->RL X.K J H (uc i none Z) (vM i Y))
  (y:∀Y,a.nx Y H=Dd.nx (vM i Y) H) (x:∀Y,a.bk Y H=Dd.bk (vM i Y) H) (u:∀Y,a.ct Y H=Dd.ct (vM i Y) H) (t:a.rt=Dd.rt):zZ j a J H fl:=by
 cases fl with
 |nx Z=>cases e;intro Y l;rw[g] at l;rw[y];exact k r _ (h _ _ l)
 |bk Z=>cases e;intro Y l;rw[g] at l;rw[x];exact k r _ (h _ _ l)
 |ct Z=>cases e;intro Y l;rw[g] at l;rw[u];exact k r _ (h _ _ l)
 |rt w=>cases e;intro v q;rw[g] at q;rw[t];exact k r _ q
 |rz c w Z=>cases e
theorem HC{body u:List Stmt}{B:Stmt}{cn n:Str}{np hpos:Pos}{P:Addr}{CH:List Value}{jP:Option Value}{b h:Ss}{cs:List Str}(hx:X.ex=[])(hst:X.stack=X.env::X.outer)(hfl:X.env.frame=some X.env.locals)
  (hN:X.N.Nodup) (hi:X.N[i]?=some n) (hk:X.env.kindOf n=some .local) (p:XC X.K P CH jP) (hg:Gl X cn) (hm:X.mg cn=@(.ref P)) (hdb:(cn==("__debug__":Str))=false)
  (hcs:∀c,cs.contains c=true->∃bm j,XC X.K (aj X.K c) bm j/\(Value.ref (aj X.K c)::bm).contains (.ref P)=true)
  (hb:∀pn xe,PassesOwn (model X.prog X.w) X.A X.env xe->iE (X.nF pn xe) body (SS (X.nF pn xe) cl (aF C b)))
  (hs:∀a pn,iE (X.kE (.ref a) pn rL) (B::u) (SS (X.kE (.ref a) pn rL) cl (aF C h))) :
  PS X (.Try body [.ExceptHandler @(.Name cn np) (some n) (B::u) hpos] [] [] pos) (SS X cl (aM C (.tr b cs (some i) h))):=by
 refine PS.imp (zM (tb:=λ PY=>SS PY cl (aF C b)) hx hst hfl hb (Nm (ts:=λ PY=>SS PY cl (aF C h)) hx hN hi hk p hg hm hs hdb)) ?_;rintro D Y H ⟨J,Z,m,f,m',r,l,e,k⟩;erw[Cw] at e;let⟨fl,x,e1,e⟩:=R.ah e;intro pn xe hE;refine⟨J,Z,m,fl,x,r,l,e1,fun S H1 L t=>?_⟩;cases fl with
 |nx I=>cases e;exact k _ _ L t
 |bk I=>cases e;exact k _ _ L t
 |ct I=>cases e;exact k _ _ L t
 |rt w=>cases e;exact k _ _ L t
 |rz c fw I=>
  simp only at e;split at e
  .ext hc;let⟨bm,j,xc,hin⟩:=hcs c hc;let⟨z,m2,M,e3⟩:=R.ah e;rcases fw with _ | ⟨g,w⟩
   .have M:aF C h (I.set i @(.ref x.length)) (x++[O.exc c "" []])=.ok z m2:=M;intro G l1;refine hE G (.ref (aj X.K c)) none H1 ⟨aj X.K c,bm,j,rfl,xc,hin,λ a pn' oa xo ha=>?_⟩;let⟨T,U⟩:=t.exc (f:="") (ws:=[]) (vs:=[]) ha xo .nil (.inl ⟨rfl,rfl⟩);refine⟨S++[a],I.set i @(.ref x.length),x++[O.exc c "" []],z,m2,U,(RL.mono t T l1).set (.ref (t.last a)),M,fun β3 H3 x3 r3=>?_⟩;exact jv (X:=X) rfl e3 (λ r4=>k _ _ ((L.trans t T).trans U x3) r4) r3 (fun Z Y l=>l.gone) (λ _=>rfl) (λ _=>rfl) (λ _=>rfl) rfl
   .have M:aF C h (I.set i @(.ref x.length)) (x++[O.exc c g [w]])=.ok z m2:=M;intro G y dx l1 q hd;let⟨x0,r0⟩:=t.zX hd (.xd [(g,y)]);refine hE G (.ref (aj X.K c)) (some dx) (upd H1 dx (.xd [(g,y)])) ⟨aj X.K c,bm,j,rfl,xc,hin,λ a pn' oa xo ha=>?_⟩;let⟨T,U⟩:=r0.exc (f:=g) (ws:=[w]) (vs:=[y]) ha xo %[|RW.mono t x0 q] (.inr ⟨dx,y,rfl,rfl,aB⟩);refine⟨S++[a],I.set i (some (.ref x.length)),x++[O.exc c g [w]],z,m2,U,(RL.mono r0 T (RL.mono t x0 l1)).set (.ref (r0.last a)),M,fun β3 H3 x3 r3=>?_⟩;exact jv (X:=X) rfl e3 (λ r4=>k _ _ (((L.trans t x0).trans r0 T).trans U x3) r4) r3 (fun Z Y l=>l.gone) (λ _=>rfl) (λ _=>rfl) (λ _=>rfl) rfl
  .cases e
end
section
variable{X:L2.Cx}{cl:Cl}{C:D.Cx}{pos:Pos}
theorem HD{body t:List Stmt}{z:Stmt}{cn:Str}{np U:Pos}{P:Addr}{CH:List Value}{jP:Option Value}{b h:Ss}{cs:List Str}(hx:X.ex=[])(hst:X.stack=X.env::X.outer)(hfl:X.env.frame=some X.env.locals)
  (p:XC X.K P CH jP) (hg:Gl X cn) (hm:X.mg cn=@(.ref P)) (hdb:(cn==("__debug__":Str))=false)
  (hcs:∀c,cs.contains c=true->∃bm j,XC X.K (aj X.K c) bm j/\(Value.ref (aj X.K c)::bm).contains (.ref P)=true)
  (hb:∀pn xe,PassesOwn (model X.prog X.w) X.A X.env xe->iE (X.nF pn xe) body (SS (X.nF pn xe) cl (aF C b)))
  (hs:∀a pn,iE (X.kE (.ref a) pn rL) (z::t) (SS (X.kE (.ref a) pn rL) cl (aF C h))) :
  PS X (.Try body [.ExceptHandler @(.Name cn np) none (z::t) U] [] [] pos) (SS X cl (aM C (.tr b cs none h))):=by
 refine PS.imp (zM (tb:=λ PY=>SS PY cl (aF C b)) hx hst hfl hb (Nn (ts:=λ PY=>SS PY cl (aF C h)) hx p hg hm hs hdb)) ?_;rintro D Y H ⟨J,Z,m,f,m',r,l,e,k⟩;erw[Cw] at e;let⟨fl,T,e1,e⟩:=R.ah e;intro pn xe hE;refine⟨J,Z,m,fl,T,r,l,e1,fun M H1 I u=>?_⟩;cases fl with
 |nx G=>cases e;exact k _ _ I u
 |bk G=>cases e;exact k _ _ I u
 |ct G=>cases e;exact k _ _ I u
 |rt w=>cases e;exact k _ _ I u
 |rz c fw G=>
  simp only at e;split at e
  .ext hc;let⟨bm,j,xc,hin⟩:=hcs c hc;let⟨x,m2,L,e3⟩:=R.ah e;rcases fw with _ | ⟨g,w⟩
   .have L:aF C h G (T++[O.exc c "" []])=.ok x m2:=L;intro B l1;refine hE B (.ref (aj X.K c)) none H1 ⟨aj X.K c,bm,j,rfl,xc,hin,λ a pn' oa xo ha=>?_⟩;let⟨N,S⟩:=u.exc (f:="") (ws:=[]) (vs:=[]) ha xo .nil (.inl ⟨rfl,rfl⟩);refine⟨M++[a],G,T++[O.exc c "" []],x,m2,S,RL.mono u N l1,L,fun β3 H3 x3 r3=>?_⟩;exact jv (X:=X) rfl e3 (λ r4=>k _ _ ((I.trans u N).trans S x3) r4) r3 (fun Z Y l=>l) (λ _=>rfl) (λ _=>rfl) (λ _=>rfl) rfl
   .have L:aF C h G (T++[O.exc c g [w]])=.ok x m2:=L;intro B y dx l1 q hd;let⟨x0,r0⟩:=u.zX hd (.xd [(g,y)]);refine hE B (.ref (aj X.K c)) (some dx) (upd H1 dx (.xd [(g,y)])) ⟨aj X.K c,bm,j,rfl,xc,hin,λ a pn' oa xo ha=>?_⟩;let⟨N,S⟩:=r0.exc (f:=g) (ws:=[w]) (vs:=[y]) ha xo %[|RW.mono u x0 q] (.inr ⟨dx,y,rfl,rfl,aB⟩);refine⟨M++[a],G,T++[O.exc c g [w]],x,m2,S,RL.mono r0 N (RL.mono u x0 l1),L,fun β3 H3 x3 r3=>?_⟩;exact jv (X:=X) rfl e3 (λ r4=>k _ _ (((I.trans u x0).trans r0 N).trans S x3) r4) r3 (fun Z Y l=>l) (λ _=>rfl) (λ _=>rfl) (λ _=>rfl) rfl
  .cases e
theorem Rel.ND{x:V}{f:Str}(r:Rel K cl J m H)(q:RW K J H (.ref n) x)(e:m[n]?=@(.exc c f ws)) :
  ∃a j g vs,x=.ref a/\H a=some (jl a j)/\CI (aj K c) g j/\aS K J H ws vs/\XD H g f vs:=by
 cases q with
 |ref h=>
  let⟨j,g,vs,l,k,t,d⟩:=r.obj e h;exact⟨_,j,g,vs,rfl,l,k,t,d⟩
theorem Lc{a:Expr}{f:Str}{A:List Str}(T:∀c,A.contains c=true->∃h j,XC X.K (aj X.K c) h j/\XG X.K (aj X.K c)/\PySem.W.findIn X.K (.ref (aj X.K c)) f=some none)
  (U:PE X a (SE X cl (ao C d))) (hb:attributeBase a f X.env (eval a X.env)=eval a X.env):PE X (.Attribute a f pos) (SE X cl (ao C (.fus (.xfl f A) d))):=by
 refine PE.imp (GH U hb) ?_;rintro Y H Q ⟨J,Z,m,w,m',r,l,e,k⟩;erw[dG] at e;let⟨x,m1,e1,e⟩:=R.ah e;erw[dW,zA] at e;split at e
 .ext n;split at e
  .ext c g w1 e2;split at e
   .ext u;cases e;refine⟨J,Z,m,_,_,r,l,e1,fun B H1 v1 M q O=>?_⟩;let⟨a',P,od,vs,rfl,h1,G,t,dd⟩:=q.ND O e2;let⟨v,rfl,N⟩:=ir t;let⟨h,j,L,I,S⟩:=T c u.2;rcases dd with⟨_,z⟩ | ⟨dx,y,d1,d2,d3⟩
    .cases z
    .cases d2;subst d1;exact⟨a',aj X.K c,dx,P,h,j,_,v,rfl,h1,G,L,I,S,d3,by rw[u.1];simp[List.lookup],k _ _ _ M q N⟩
   .cases e
  .cases e
 .cases e
theorem Ld{a g:Expr}{v:V}{u:Value}{h:List (Str×Bool)}(hg:Gl X "isinstance")(U:X.mg "isinstance"=none)(h2:PE X g (tC v))(T:∀u',RelV v u'->u'=u)
  (hk:∀c b,h.lookup c=some b->∃y j,XC X.K (aj X.K c) y j/\XG X.K (aj X.K c)/\PySem.W.kitOne X.K (.ref (aj X.K c)) u=some b) (ha:PE X a (SE X cl (ao C d)))
  (A:starEach [a,g] X.env=(false,eval a X.env)::starEach [g] X.env) (q:starEach [g] X.env=(false,eval g X.env)::starEach [] X.env):PE X (.Call (.Name "isinstance" p) [a,g] [] pos) (SE X cl (ao C (.fus (.isx h) d))):=by
 refine PE.imp (lG (zN) hg U 'k' (dm ha (dm h2 gB q) A) 'k' 'k' A (by rw[q];rfl)) ?_;rintro Y H Q ⟨J,Z,m,w,m',r,l,e,k⟩;erw[dG] at e;let⟨x,m1,e1,e⟩:=R.ah e;erw[dW,n9] at e;split at e
 .split at e
  .ext c f ws em;split at e
   .ext b eb;cases e;refine⟨J,Z,m,_,_,r,l,e1,fun B H1 v1 M z N=>?_⟩;let⟨a',P,O,vs,rfl,h1,G,t,dd⟩:=z.ND N em;let⟨y,j,L,I,S⟩:=hk c b eb;exact⟨a',aj X.K c,O,P,y,j,v,u,b,rfl,h1,G,L,I,T,S,k _ _ _ M z (.bl b)⟩
   .cases e
  .cases e
 .cases e
theorem HE{a:Expr}{q}{tp:Pos}{us:List Value}{tab:List (Str×Bool)}(hg:Gl X "isinstance")(hm:X.mg "isinstance"=none)(h2:PA X es (λ _ H Q=>Q vs H))(hz:vs.length<=sizeLine)(hu:∀g,Vals vs g->g=us)
  (hk:∀c b,tab.lookup c=some b->∃u j,XC X.K (aj X.K c) u j/\XG X.K (aj X.K c)/\PySem.W.kitAny X.K (.ref (aj X.K c)) us=some b) (ha:PE X a (SE X cl (ao C d)))
  (he:starEach [a,.Tuple es q tp] X.env=(false,eval a X.env)::starEach [.Tuple es q tp] X.env):PE X (.Call (.Name "isinstance" p) [a,.Tuple es q tp] [] pos) (SE X cl (ao C (.fus (.isx tab) d))):=by
 refine PE.imp (lG (xH) hg hm 'k' (dm ha (dm (yV h2) gB) he) 'k' 'k' he rfl) ?_;rintro Y H Q ⟨J,Z,m,w,m',r,l,e,k⟩;erw[dG] at e;let⟨x,m1,e1,e⟩:=R.ah e;erw[dW,n9] at e;split at e
 .split at e
  .ext c f ws em;split at e
   .ext b eb;cases e;refine⟨J,Z,m,_,_,r,l,e1,fun A H1 v1 M h P=>⟨hz,λ t y=>?_⟩⟩;let⟨a',T,S,N,rfl,z,B,_,_⟩:=h.ND P em;let⟨u,j,I,G,U⟩:=hk c b eb;let⟨L,O⟩:=h.pZ y vs;exact⟨a',aj X.K c,S,T,u,j,t,vs,us,b,rfl,by rw[aq (aA z y)];exact z,B,I,G,aB,hu,U,k _ _ _ (M.trans h L) O (.bl b)⟩
   .cases e
  .cases e
 .cases e
end
structure Cz where
 fn:List (Str×(Nat×Nat)):=[]
 ini:List (Str×Nat):=[]
 cls:List (Str×Option Str):=[]
 sub:List (Str×List Str):=[]
def Cz.tab(z:Cz)(ts:List Str):List (Str×Bool):=z.cls.map λ y=>(y.1,ts.any λ t=>((z.sub.lookup t).getD []).contains y.1)
def Cz.has(z:Cz)(f:Str):List Str:=(z.cls.filter λ y=>y.2==some f).map (·.1)
def L4(c:Ci)(z:Cz):Expr->Option Str
 |.Name t _=>if !special t&&c.names.lookup t==some .globalImplicit&&(z.sub.lookup t).isSome then some t else none
 |_=>none
def Dw(c:Ci)(z:Cz):List Expr->Option (List Str)
 | []=>some []
 |e::r=>match L4 c z e with
  |some t=>(Dw c z r).map (t::·)
  |none=>none
def AA:Expr->Option (Expr×Expr)
 |.Call (.Name x _) [a,t] [] _=>if x="isinstance" then some (a,t) else none
 |_=>none
def AB:Expr->Option (List Expr)
 |.Tuple es _ _=>some es
 |_=>none
def uE:Nat->Ci->Cz->Expr->Option E
 |0,_,_,_=>none
 |n+1,c,z,e=>match e with
  |.Name x _=>oG c x
  |.Constant k _ _=>match k with
   |.int i=>some (.cst (.int i))
   |.bool b=>some (.cst (.bl b))
   |.none=>some (.cst .non)
   |.str x=>some (.cst (.str x))
   |_=>none
  |.Tuple es _ _=>(kK (uE n c z) es).map .tup
  |.List es _=>(kK (uE n c z) es).map .lst
  |.BoolOp op vs _=>K8 (uE n c z) op vs
  |.UnaryOp op a _=>match op with
   |.Not=>(uE n c z a).map .not
   |_=>none
  |.Attribute o f _=>if gJ o then none else (uE n c z o).map (.fus (.xfl f (z.has f)))
  |.Call f args g pos=>match AA (.Call f args g pos) with
   |some (a,t)=>if noStar a&&noStar t&&c.names.lookup ("isinstance":Str)==some .globalImplicit then match AB t with
    |some es=>match Dw c z es,uE n c z a with
     |some ts,some d=>if es.length<=100 then some (.fus (.isx (z.tab ts)) d) else none
     |_,_=>none
    |none=>match L4 c z t,uE n c z a with
     |some t,some d=>some (.fus (.isx (z.tab [t])) d)
     |_,_=>none
    else none
   |none=>none
  |_=>none
def nameOf:Expr->Option Str
 |.Name x _=>some x
 |_=>none
def uS:Nat->Ci->Cz->Stmt->Option S
 |0,_,_,_=>none
 |n+1,c,z,s=>match s with
  |.Assign ts v _=>match ts with
   | [t]=>match nameOf t with
    |some x=>if mq v then none else match jq c x,uE n c z v with
     |some i,some d=>some (.asg (.pt (.var i)) d)
     |_,_=>none
    |none=>none
   |_=>none
  |.Return o _=>match o with
   |some v=>(uE n c z v).map .ret
   |none=>some .retN
  |.If t a b _=>match uE n c z t,sW (uS n c z) a,sW (uS n c z) b with
   |some d,some x,some y=>some (.ife d x y)
   |_,_,_=>none
  |.Pass _=>some .pass
  |_=>none
def qh:Expr->Option (Str×Expr×List Expr)
 |.Call (.Name x _) (a::r) [] _=>some (x,a,r)
 |_=>none
def HF(n:Nat)(c:Ci)(z:Cz)(e:Expr):Option (Option Str×Nat×Es):=match qh e with
 |some (x,a,r)=>if !special x&&c.names.lookup x==some .globalImplicit&&!c.fz.contains e.pos then match z.fn.lookup x with
   |some (i,np)=>if (a::r).length=np then (kK (cE n c) (a::r)).map λ d=>(none,i,d) else none
   |none=>match z.ini.lookup x with
    |some i=>(kK (cE n c) (a::r)).map λ d=>(some x,i,d)
    |none=>none
  else none
 |none=>none
def raiseOf:Option Expr->Option Expr->Option (Str×Expr)
 |some (.Call (.Name x _) [a] [] _),none=>some (x,a)
 |_,_=>none
def handOf:List ExceptHandler->Option (Str×Option Str×Stmt×List Stmt)
 | [.ExceptHandler (some (.Name x _)) y (s::r) _]=>some (x,y,s,r)
 |_=>none
def HG:S->Bool
 |.ife _ _ _=>false
 |.for_ _ _ _=>false
 |.while_ _ _=>false
 |.rais _ _ _=>false
 |.xc _ _ _ _=>false
 |.tr _ _ _ _=>false
 |_=>true
def xU(n:Nat)(c:Ci)(s:Stmt):Option S:=match cS n c s with
 |some d=>if HG d then some d else none
 |none=>none
def AD(n:Nat)(c:Ci)(z:Cz)(x:Str)(a:Expr):Option S:=match z.cls.lookup x with
 |some g=>if !special x&&c.names.lookup x==some .globalImplicit&&noStar a then (cE n c a).map (.rais x g) else none
 |none=>some .never
def Le(c:Ci)(z:Cz)(x:Str)(y:Option Str)(b h:Ss):Option S:=match z.cls.lookup x,z.sub.lookup x with
 |some _,some cs=>if !special x&&c.names.lookup x==some .globalImplicit then match y with
   |none=>some (.tr b cs none h)
   |some v=>if c.names.lookup v=some .local then (kJ v c.N).map λ i=>.tr b cs (some i) h else none
  else none
 |_,_=>none
def EH(n:Nat)(c:Ci)(z:Cz)(t v:Expr):Option S:=match HF n c z v with
 |some (mk,i,ds)=>if !noStar t||mw t then none else (cA n c t).map λ t=>.xc (.asg t) mk i ds
 |none=>none
def cX:Nat->Ci->Cz->Stmt->Option S
 |0,_,_,_=>none
 |n+1,c,z,s=>match s with
  |.Raise e f _=>match raiseOf e f with
   |some (x,a)=>AD n c z x a
   |none=>some .never
  |.Try body hs g fin _=>match g with
   | []=>match fin with
    | []=>match handOf hs with
     |some (x,y,s,r)=>match sW (cX n c z) body,sW (uS n c z) (s::r) with
      |some b,some h=>Le c z x y b h
      |_,_=>none
     |none=>none
    |_=>none
   |_=>none
  |.If t a b _=>match cE n c t,sW (cX n c z) a,sW (cX n c z) b with
   |some d,some x,some y=>some (.ife d x y)
   |_,_,_=>none
  |.For tg it body g _=>match g with
   | []=>if isSet it then none else match cT n c tg,cI (cE n c) c tg it,sW (cX n c z) body with
    |some t,some d,some x=>some (.for_ t d x)
    |_,_,_=>none
   |_=>none
  |.Expr v pos=>match HF n c z v with
   |some (mk,i,ds)=>some (.xc .drop mk i ds)
   |none=>xU (n+1) c (.Expr v pos)
  |.Return o pos=>match o with
   |some v=>match HF n c z v with
    |some (mk,i,ds)=>some (.xc .ret mk i ds)
    |none=>xU (n+1) c (.Return (some v) pos)
   |none=>some .retN
  |.Assign ts v pos=>match ts with
   | [t]=>match HF n c z v with
    |some _=>EH n c z t v
    |none=>xU (n+1) c (.Assign [t] v pos)
   |_=>none
  |s=>xU (n+1) c s
def qS(K:ae)(t:Str):Value:=if t="ValueError" then .type "ValueError" else .ref (aj K t)
def HH(K:ae)(t:Str):V:=if t="ValueError" then .ty "ValueError" else .ref (aj K t)
theorem AE{t:Str}{u:Value}(h:RelV (HH K t) u):u=qS K t:=by
 unfold HH at h;unfold qS;split
 .ext e;rw[Qn e] at h;exact h
 .ext e;rw[Qu e] at h;exact h
theorem vN{t:Str}:RelV (HH K t) (qS K t):=by
 unfold HH qS;split<;>exact rfl
structure ZU(X:L2.Cx)(z:Cz):Prop where
 sub:∀{t:Str} {cs:List Str},z.sub.lookup t=some cs->(X.mg t=some (qS X.K t)\/X.mg t=none/\bootBuiltins t=@(qS X.K t))/\∀{c fo},z.cls.lookup c=some fo->PySem.W.kitOne X.K (.ref (aj X.K c)) (qS X.K t)=@(cs.contains c)
 cls:∀{c:Str} {fo:Option Str},(c,fo)∈z.cls->∃bm j,XC X.K (aj X.K c) bm j/\XG X.K (aj X.K c)/\∀f,fo=some f->PySem.W.findIn X.K (.ref (aj X.K c)) f=some none
structure IB(X:L2.Cx)(cl:Cl)(C:D.Cx)(z:Cz):Prop where
 fn:∀{x:Str} {i np:Nat},z.fn.lookup x=some (i,np)->∃(k:Nat) (fa:Addr) (fd:FuncData) (ps:List Str),ps.length=np/\bV k X.A/\X.mg x=some (.ref fa)/\PySem.W.keepIn X.K (.ref fa)=true/\Binds X.K fd ps []/\cg X.prog X.w X.K X.mg X.base (lX X.prog X.w) k fa fd ps (Du X.K cl ps.length (C.flow i))/\∀ws m fl m',C.flow i ws m=.ok fl m'->ws.length=ps.length
 ini:∀{x:Str} {i:Nat},z.ini.lookup x=some i->∃(k:Nat) (fa:Addr) (fd:FuncData) (ps:List Str),bV (k+1) X.A/\Mk X.K (aj X.K x) fa/\X.mg x=some (.ref (aj X.K x))/\Binds X.K fd ps []/\cg X.prog X.w X.K X.mg X.base (lX X.prog X.w) k fa fd ps (Du X.K cl ps.length (C.flow i))/\∀ws m fl m',C.flow i ws m=.ok fl m'->ws.length=ps.length
 cls:∀{x:Str} {fo:Option Str},z.cls.lookup x=some fo->X.mg x=some (.ref (aj X.K x))/\(fo=none->∃bm,XC X.K (aj X.K x) bm none)/\∀f,fo=some f->∃(bm:List Value) (k:Nat) (fa:Addr) (fd:FuncData) (ps:List Str),XC X.K (aj X.K x) bm @(.ref fa)/\PySem.W.typeIn X.K (.ref fa)=some (.type "function")/\cg X.prog X.w X.K X.mg X.base Cg k fa fd ps (Iv (aj X.K x) f)/\bV (k+1) X.A/\Binds X.K fd ps []/\ps.length=2
 hnd:∀{x:Str} {fo:Option Str} {cs:List Str},z.cls.lookup x=some fo->z.sub.lookup x=some cs->∀c,cs.contains c=true->∃bm j,XC X.K (aj X.K c) bm j/\(Value.ref (aj X.K c)::bm).contains (.ref (aj X.K x))=true
 u:ZU X z
theorem ZU.of{a:L2.Cx}{z:Cz}(o:ZU X z)(g:a.K=X.K)(h:a.mg=X.mg):ZU a z:=⟨by rw[g,h];exact o.sub,by rw[g];exact o.cls⟩
structure HJ(X:L2.Cx)(cl:Cl)(c:Ci):Prop where
 N:X.N=c.N
 nd:c.N.Nodup
 vis:∀{x:Str} {k:NameKind},c.names.lookup x=some k->(k=.local\/k=.cell\/k=.free)->DU X.env.scope x
 loc:∀{x:Str} {k:NameKind},c.names.lookup x=some k->(k=.local\/k=.cell)->L2.Loc X.env.scope x/\(X.fn x=true\/X.env.scope.names.lookup x=some .local)
 glb:∀{x:Str},c.names.lookup x=some .globalImplicit->Gl X x
 blt:∀x∈mj,X.mg x=none
 gl:∀{x:Str} {w:W},c.gl.lookup x=some w->∃u v,X.mg x=some u/\RelV v u/\∀J H,RW X.K J H w v
section
variable{X:L2.Cx}{cl:Cl}{C:D.Cx}{c:Ci}{z:Cz}
theorem Lf(o:HJ X cl c){x:Str}(h:oG c x=some d):PE X (.Name x pos) (SE X cl (ao C d))/\∀Z m,br C d Z m=(ao C d Z m).bind λ w m=>D.truthy m w:=by
 have k:∀{i},kJ x c.N=some i->X.N[i]?=some x:=λ h=>by rw[o.N];exact jo h
 unfold oG at h;split at h
 .cases h
 .ext r;let⟨j,l,t⟩:=bQ (~~~r);split at h
  .ext a;erw[P9] at h;let⟨i,g,rfl⟩:=h;exact⟨ou (k g) (o.vis a (.inl rfl)) j l,λ _ _=>rfl⟩
  .ext a;erw[P9] at h;let⟨i,g,rfl⟩:=h;exact⟨ou (k g) (o.vis a (.inr (.inl rfl))) j l,λ _ _=>rfl⟩
  .ext a;erw[P9] at h;let⟨i,g,rfl⟩:=h;exact⟨ou (k g) (o.vis a (.inr (.inr rfl))) j l,λ _ _=>rfl⟩
  .ext a;erw[P9] at h;let⟨w,q,rfl⟩:=h;exact⟨Ej (o.glb a) (o.gl q) j,λ _ _=>rfl⟩
  .cases h
theorem HK(o:HJ X cl c){x:Str}(h:jq c x=some i):X.N[i]?=some x/\L2.Loc X.env.scope x/\(X.fn x=true\/X.env.scope.names.lookup x=some .local):=by
 have g:∀{i},kJ x c.N=some i->X.N[i]?=some x:=λ h=>by rw[o.N];exact jo h
 unfold jq at h;split at h
 .ext a;exact⟨g h,o.loc a (.inl rfl)⟩
 .ext a;exact⟨g h,o.loc a (.inr rfl)⟩
 .cases h
theorem AF{a t:Expr}(h:AA e=some (a,t)):∃p pos,e=.Call (.Name "isinstance" p) [a,t] [] pos:=by
 unfold AA at h;split at h
 .split at h
  .ext g;cases h;subst g;exact⟨_,_,rfl⟩
  .cases h
 .cases h
theorem AG(h:AB e=some es):∃x p,e=.Tuple es x p:=by
 unfold AB at h;split at h
 .cases h;exact⟨_,_,rfl⟩
 .cases h
theorem xV{x:Str}(h:nameOf e=some x):∃p,e=.Name x p:=by
 unfold nameOf at h;split at h
 .cases h;exact⟨_,rfl⟩
 .cases h
theorem AH(o:HJ X cl c)(u:ZU X z){t:Str}(h:L4 c z e=some t):PE X e (tC (HH X.K t))/\noStar e=true/\∃g,z.sub.lookup t=some g:=by
 unfold L4 at h;split at h
 .split at h
  .ext a;cases h;erw[Qe,Q0,Q6] at a;let⟨j,x,r⟩:=bQ a.1.1;let⟨g,e⟩:=RS.mp a.2;refine⟨?_,rfl,g,e⟩;rcases (u.sub e).1 with q | ⟨l,k⟩
   .exact ja (o.glb a.1.2) q vN j
   .exact BB (o.glb a.1.2) l k vN r j
  .cases h
 .cases h
theorem vO(o:HJ X cl c)(u:ZU X z):∀{es:List Expr} {ts:List Str},Dw c z es=some ts->PA X es (λ _ H Q=>Q (ts.map (HH X.K)) H)/\es.length=ts.length/\∀t∈ts,∃B,z.sub.lookup t=some B
 | [],_,h=>by cases h;exact⟨gB,rfl,λ t x=>by cases x⟩
 |e::es,ts,h=>by
  unfold Dw at h;split at h
  .ext t A;erw[P9] at h;let⟨ts,y,rfl⟩:=h;let⟨k,j,g⟩:=AH o u A;let⟨r,q,l⟩:=vO o u y;refine⟨dm k r (bF j),by rw[QO,QO,q],λ s a=>?_⟩;rcases Qv.mp a with rfl | a
   .exact g
   .exact l s a
  .cases h
theorem HL{ts:List Str}{x:Str}{b:Bool}(h:(z.tab ts).lookup x=some b):(∃g,z.cls.lookup x=some g)/\b=ts.any λ t=>((z.sub.lookup t).getD []).contains x:=by
 unfold Cz.tab at h;generalize z.cls=l at h ⊢
 induction l with
 |nil=>cases h
 |cons y r a=>
  rw[QF,Qs] at h;rw[Qs];cases e:x==y.1 with
  |true=>
   rw[e] at h;cases h;cases eq_of_beq e;exact⟨⟨_,rfl⟩,rfl⟩
  |false=>
   rw[e] at h;exact a h
theorem oM(u:ZU X z){x:Str}{l:Option Str}(g:z.cls.lookup x=some l):∀{ts:List Str},(∀t∈ts,∃a,z.sub.lookup t=some a)->PySem.W.kitAny X.K (.ref (aj X.K x)) (ts.map (qS X.K))=@(ts.any λ t=>((z.sub.lookup t).getD []).contains x)
 | [],_=>rfl
 |t::ts,h=>by
  let⟨a,e⟩:=h t (.head _);have j:=oM u g (ts:=ts) λ s k=>h s (.tail _ k);rw[QF,Sz,PySem.W.kitAny,(u.sub e).2 g,e,Option.getD_some];cases a.contains x with
  |true=>rfl
  |false=>rw[UG];exact j
theorem vP:∀{ts:List Str} {us:List Value},Vals (ts.map (HH K)) us->us=ts.map (qS K)
 | [],_,h=>by cases h;rfl
 |t::ts,_,h=>by
  cases h with
  |cons a b=>rw[QF,AE a,vP b]
theorem HM{f x:Str}(h:(z.has f).contains x=true):∃y∈z.cls,y=(x,some f):=by
 unfold Cz.has at h;let⟨y,k,j⟩:=QB.mp (Sb.mp h);let⟨g,a⟩:=Tg.mp k;exact⟨y,g,by cases y;cases j;cases eq_of_beq a;rfl⟩
end
section
variable{X:L2.Cx}{cl:Cl}{C:D.Cx}{c:Ci}{z:Cz}
theorem EI(o:HJ X cl c)(u:ZU X z):∀(n:Nat) (e:Expr) (d:E),uE n c z e=some d->Tells X cl C e d
 |0,_,_,h=>by cases h
 |n+1,e,d,h=>by
  have l:∀e d,uE n c z e=some d->Tells X cl C e d:=λ e d h=>EI o u n e d h;unfold uE at h;split at h
  .let⟨k,g⟩:=Lf (C:=C) o h;exact av k (λ _=>rfl) g
  .split at h
   .cases h;exact av Eg (λ _=>rfl) λ _ _=>rfl
   .cases h;exact av Ky (λ _=>rfl) λ _ _=>rfl
   .cases h;exact av Eh (λ _=>rfl) λ _ _=>rfl
   .cases h;exact av Ei (λ _=>rfl) λ _ _=>rfl
   .cases h
  .erw[P9] at h;let⟨d',r,rfl⟩:=h;exact av (En (gn l r)) (λ _=>rfl) λ _ _=>rfl
  .erw[P9] at h;let⟨d',r,rfl⟩:=h;exact av (Eo (gn l r)) (λ _=>rfl) λ _ _=>rfl
  .let⟨k,g⟩:=Aq l h;exact⟨k,g.pt⟩
  .split at h
   .erw[P9] at h;let⟨d',r,rfl⟩:=h;exact⟨Ek (l _ _ r).1,El (l _ _ r).2⟩
   .cases h
  .split at h
   .cases h
   .ext R;erw[P9] at h;let⟨d',r,rfl⟩:=h;refine av (Lc (λ x G=>?_) (l _ _ r).1 (kR ((QX _).mp R))) (λ _=>rfl) λ _ _=>rfl;let⟨y,hy,rfl⟩:=HM G;let⟨B,j,k,g,A⟩:=u.cls hy;exact⟨B,j,k,g,A _ rfl⟩
  .split at h
   .ext a t hq;let⟨p,pos,e⟩:=AF hq;cases e;split at h
    .ext hc;erw[Qe,Q6] at hc;let⟨⟨c1,c2⟩,c3⟩:=hc;have hg:=o.glb c3;have T:=o.blt "isinstance" 'k';have U:∀x b ts,(z.tab ts).lookup x=some b->(∀t∈ts,∃cs,z.sub.lookup t=some cs)->∃B j,XC X.K (aj X.K x) B j/\XG X.K (aj X.K x)/\PySem.W.kitAny X.K (.ref (aj X.K x)) (ts.map (qS X.K))=some b:=λ x b ts P R=>by
      let⟨⟨fo,q⟩,rfl⟩:=HL P;let⟨B,j,k,g,_⟩:=u.cls (QT q);exact⟨B,j,k,g,oM u q R⟩
     split at h
     .ext es he;let⟨kx,tp,rfl⟩:=AG he;split at h
      .ext ts d1 L I;split at h
       rotate_left
       .cases h
       ext hl;cases h;let⟨N,S,M⟩:=vO o u L;exact av (HE hg T N (by rw[Qq,<-S];exact Qk hl 'k') (λ us' O=>vP O) (λ x b G=>U x b ts G M) (l _ _ I).1 (bF c1)) (λ _=>rfl) λ _ _=>rfl
      .cases h
     .split at h
      .ext t1 d1 L I;cases h;let⟨N,S,M⟩:=AH o u L;refine av (Ld hg T N (λ u' O=>AE O) (λ x b G=>?_) (l _ _ I).1 (bF c1) (bF c2)) (λ _=>rfl) λ _ _=>rfl;let⟨B,j,k,g,A⟩:=U x b [t1] G (λ t P=>by cases List.mem_singleton.mp P;exact M);refine⟨B,j,k,g,?_⟩;rw[QF,PySem.W.kitAny] at A;split at A
       .ext e;rw[e];exact A
       .ext e;rw[e];exact A
       .cases A
      .cases h
    .cases h
   .cases h
  .cases h
theorem EJ(o:HJ X cl c)(u:ZU X z):∀(n:Nat) (s:Stmt) (d:S),uS n c z s=some d->PS X s (SS X cl (aM C d))
 |0,_,_,h=>by cases h
 |n+1,s,d,h=>by
  have j:∀e d,uE n c z e=some d->Tells X cl C e d:=EI o u n;have q:∀s d,uS n c z s=some d->PS X s (SS X cl (aM C d)):=EJ o u n;unfold uS at h;split at h
  .split at h
   .split at h
    .ext x t;let⟨p,rfl⟩:=xV t;split at h
     .cases h
     .ext A;split at h
      .ext i l g a;cases h;let⟨k,G,B⟩:=HK o g;exact ur (by rw[o.N];exact o.nd) k G (j _ _ a).1 (jt ((QX _).mp A)) B
      .cases h
    .cases h
   .cases h
  .split at h
   .erw[P9] at h;let⟨l,k,rfl⟩:=h;exact Ac (j _ _ k).1
   .cases h;exact p6
  .split at h
   .ext l x y g a r;cases h;exact Ad (j _ _ g).2 (gP q a) (gP q r)
   .cases h
  .cases h;exact vB
  .cases h
end
section
variable{X:L2.Cx}{cl:Cl}
theorem PA.fP{t:TA}(h:PA X.fP es t):PA X es t:=λ pos g s Y H Q I a=>
 Qw (h pos g s Y H Q (I.iO _) a) (λ _ _ ⟨vs,k,j,r,q⟩=>⟨vs,k,j.dj,r,q⟩) λ _ _ z=>False.elim z
theorem PG.fP{t:TG}(h:PG X.fP e t):PG X e t:=λ j s Y H v u Q I r g=>
 Qw (h j s Y H v u Q (I.iO _) r g) (λ _ _ ⟨a,l,k,q⟩=>⟨a,l,k.dj,q⟩) λ _ _ z=>False.elim z
theorem PS.fP{st:Stmt}{t:TS}(h:PS X.fP st t):PS X st t:=λ g s Y H D I a=>
 Qw (h g s Y H D (I.iO _) a) (λ _ _ q=>q.dj) λ _ _ z=>False.elim z
theorem PI.fP{t:TI}(h:PI X.fP tg e t):PI X tg e t:=λ A s Y H R I j=>
 Qw (h A s Y H R (I.iO _) j) (λ _ _ q=>Qw q (λ _ _ ⟨g,k,a,B,L,y,G,x,u,r,l⟩=>⟨g,k,a,B,L,y,G.dj,x,u,r,l⟩) λ _ _ z=>False.elim z) λ _ _ z=>False.elim z
theorem EK{a:Loc->Mem->R W}(h:PE X.fP e (SE X.fP cl a)):PE X e (SE X cl a):=PE.imp h.fP λ _ _ _ ⟨J,Z,m,w,m',r,l,e,k⟩=>⟨J,Z,m,w,m',r,l,e,k⟩
theorem Lg{a:Loc->Mem->R Bool}(h:PT X.fP e (ST X.fP cl a)):PT X e (ST X cl a):=PT.imp h.fP λ _ _ _ ⟨J,Z,m,w,m',r,l,e,k⟩=>⟨J,Z,m,w,m',r,l,e,k⟩
theorem EL{e:List Expr}{a:Loc->Mem->R (List W)}(h:PA X.fP e (SA X.fP cl a)):PA X e (SA X cl a):=PA.imp (PA.fP h) λ _ _ _ ⟨J,Z,m,w,m',r,l,e,k⟩=>⟨J,Z,m,w,m',r,l,e,k⟩
theorem EM{g:W->Loc->Mem->R Loc}(h:PG X.fP e (SG X.fP cl g)):PG X e (SG X cl g):=PG.imp (PG.fP h) λ _ _ _ _ ⟨J,Z,m,w,a,m',r,l,q,e,k⟩=>⟨J,Z,m,w,a,m',r,l,q,e,k⟩
theorem Lh{a:Loc->Mem->R Src}(h:PI X.fP tg e (SI X.fP cl a)):PI X tg e (SI X cl a):=PI.imp (PI.fP h) λ _ _ _ ⟨J,Z,m,w,m',r,l,e,k⟩=>⟨J,Z,m,w,m',r,l,e,k⟩
theorem Dy{d:S}(h:HG d=true){Z ρ':Loc}{x:Str}{g:Option (Str×W)}(e:aM C d Z m=.ok (.rz x g ρ') m'):False:=by
 cases d with
 |asg t d=>erw[fH] at e;let⟨_,_,_,e⟩:=R.ah e;let⟨_,_,_,e⟩:=R.ah e;cases e
 |aug i op d=>
  erw[zE] at e;split at e
  .let⟨_,_,_,e⟩:=R.ah e;let⟨_,_,_,e⟩:=R.ah e;cases e
  .cases e
 |expr d=>erw[lW] at e;let⟨_,_,_,e⟩:=R.ah e;cases e
 |ret d=>erw[rB] at e;let⟨_,_,_,e⟩:=R.ah e;cases e
 |retN=>erw[pS] at e;cases e
 |pass=>erw[pU] at e;cases e
 |brk=>erw[vh] at e;cases e
 |cont=>erw[pV] at e;cases e
 |never=>erw[kQ] at e;cases e
 |fas a f b=>erw[rE] at e;let⟨_,_,_,e⟩:=R.ah e;let⟨_,_,_,e⟩:=R.ah e;let⟨_,_,_,e⟩:=R.ah e;cases e
 |_=>cases h
theorem Li{d:S}(t:HG d=true)(h:PS X.fP s (SS X.fP cl (aM C d))):PS X s (SS X cl (aM C d)):=PS.imp (PS.fP h) λ D Y H ⟨J,Z,m,f,m',r,l,e,k⟩=>by
 refine⟨J,Z,m,f,m',r,l,e,fun u y g j=>?_⟩;have q:=k u y g j;cases f with
 |rz x fw a=>exact(Dy t e).elim
 |_=>exact q
end
section
variable{X:L2.Cx}{cl:Cl}{C:D.Cx}{c:Ci}{z:Cz}
theorem Ok.nF(o:Ok X.fP cl C c):Ok (X.nF pn xe).fP cl C c:=
 ⟨o.N,o.nd,λ a b=>o.vis a b,λ a b=>o.loc a b,λ a=>o.cel a,λ a=>o.glb a,o.calm,⟨o.units.un,o.units.P,o.units.w,o.units.gd⟩,o.hand,o.blt,λ a=>o.fn a,λ a=>o.gl a,o.cs,λ a=>o.fld a,λ a=>o.mth a,λ a=>o.ini a,λ a=>o.dic a,λ a=>o.isc a⟩
theorem IB.nF(o:IB X cl C z):IB (X.nF pn xe) cl C z:=⟨o.fn,o.ini,o.cls,o.hnd,o.u.of rfl rfl⟩
theorem Ok.kE(o:Ok X.fP cl C c){e:Value}:HJ (X.kE e pn xe) cl c:=
 ⟨o.N,o.nd,λ a b=>o.vis a b,λ a b=>o.loc a b,λ a=>o.glb a,o.blt,λ a=>o.gl a⟩
theorem oN{a:Expr}{x:Str}{r:List Expr}(h:qh e=some (x,a,r)):∃p pos,e=.Call (.Name x p) (a::r) [] pos:=by
 unfold qh at h;split at h
 .cases h;exact⟨_,_,rfl⟩
 .cases h
theorem uz{e f:Option Expr}{x:Str}{a:Expr}(h:raiseOf e f=some (x,a)):∃np g,e=some (.Call (.Name x np) [a] [] g)/\f=none:=by
 unfold raiseOf at h;split at h
 .cases h;exact⟨_,_,rfl,rfl⟩
 .cases h
theorem xW{a:List ExceptHandler}{x:Str}{y:Option Str}{r:List Stmt}(h:handOf a=some (x,y,s,r)):∃np g,a=[.ExceptHandler @(.Name x np) y (s::r) g]:=by
 unfold handOf at h;split at h
 .cases h;exact⟨_,_,rfl⟩
 .cases h
theorem xX{env:Env}{t f:Expr}{ks:List Keyword}{l:Nat}:swapsWithSole [t] (.Call f es ks p) l env=pure false:=by
 show swapsWith (.Call f es ks p) (some t) l env=pure false;exact jt rfl
theorem AI(o:Ok X.fP cl C c)(O:IB X cl C z)(R:X.ex=[]){l:Option Str}(h:HF n c z e=some (l,i,ds)) :
  PS X (.Expr e pos) (SS X cl (aM C (.xc .drop l i ds)))/\PS X (.Return (some e) pos) (SS X cl (aM C (.xc .ret l i ds)))/\
  ∀{tg:Expr} {U:A},PG X tg (SG X cl (fT C U))->swapsWithSole [tg] e pos.line X.env=pure false->swappedStores [tg] e X.env=pure none->(assignEach [tg] X.env).map (·.2)=[assign tg X.env]->PS X (.Assign [tg] e pos) (SS X cl (aM C (.xc (.asg U) l i ds))):=by
 have P:∀e d,cE n c e=some d->Tells X.fP cl C e d:=λ e d h=>iw n X.fP c e d o h;unfold HF at h;split at h
 .ext x a r hq;let⟨p,g,rfl⟩:=oN hq;split at h
  .ext y;erw[Qe,Q0,Q6] at y;let⟨T,h2,h3⟩:=bQ y.1.1;have S:Gl X x:=o.glb y.1.2;split at h
   .ext i' np hf;split at h
    .ext rX;erw[P9] at h;let⟨d,j,e⟩:=h;cases e;let⟨k,fa,fd,ps,e1,N,M,L,I,G,B⟩:=O.fn hf;let⟨u,d1,d2,_,t,_⟩:=fK j;have q:=HA (pos:=pos) (zO (pos:=g) (p:=p) R G N S M L I .nil (EL (gn P j)) T (bF u) (dB t)) B;exact⟨q.1 rfl,q.2.1,q.2.2⟩
    .cases h
   .split at h
    .ext i' hi;erw[P9] at h;let⟨d,j,e⟩:=h;cases e;let⟨k,fa,fd,ps,N,M,L,I,G,B⟩:=O.ini hi;let⟨u,d1,d2,_,t,_⟩:=fK j;have q:=HB (pos:=pos) (zP (pos:=g) (p:=p) R M G N S L I .nil (EL (gn P j)) T (bF u) (dB t)) B;exact⟨q.1 rfl,q.2.1,q.2.2⟩
    .cases h
  .cases h
 .cases h
theorem kU(o:Ok X.fP cl C c)(a:X.env.scope.names=c.names)(g:X.env.scope.kind=.function){d:S}(h:xU n c s=some d):PS X s (SS X cl (aM C d)):=by
 unfold xU at h;split at h
 .ext l k;split at h
  .ext j;cases h;exact Li j (EG o a g PassesOwn.never (λ _ _ z=>z) n s d k)
  .cases h
 .cases h
theorem AJ:∀(n:Nat) (X:L2.Cx) (s:Stmt) (d:S),Ok X.fP cl C c->IB X cl C z->X.env.scope.names=c.names->X.env.scope.kind=.function->X.ex=[]->X.stack=X.env::X.outer->X.env.frame=some X.env.locals->PassesOwn (model X.prog X.w) X.A X.env X.xe->cX n c z s=some d->PS X s (SS X cl (aM C d))
 |0,_,_,_,_,_,_,_,_,_,_,_,h=>by cases h
 |n+1,X,s,d,o,B,g,q,L,M,O,hp,h=>by
  have ih:∀e d,cE n c e=some d->Tells X.fP cl C e d:=λ e d h=>iw n X.fP c e d o h;have Bw:∀s d,cX n c z s=some d->PS X s (SS X cl (aM C d)):=λ s d h=>AJ n X s d o B g q L M O hp h;unfold cX at h;split at h
  .split at h
   .ext x a P;let⟨np,cpos,rfl,rfl⟩:=uz P;unfold AD at h;split at h
    .ext fo T;split at h
     .ext l;erw[Qe,Q0,Q6] at l;let⟨h1,h2,h3⟩:=bQ l.1.1;erw[P9] at h;let⟨d1,hd,rfl⟩:=h;let⟨U,q2,q3⟩:=B.cls T;cases fo with
      |none=>
       let⟨bm,R⟩:=q2 rfl;exact Az R o.hand L (o.glb l.1.2) U (EK (ih _ _ hd).1) h1 (bF l.2)
      |some f=>
       let⟨bm,k,fa,fd,ps,R,hfn,Fi,I,hb,hps⟩:=q3 f rfl;exact Dv R hfn Fi I hb hps L (o.glb l.1.2) U (EK (ih _ _ hd).1) h1 (bF l.2)
     .cases h
    .cases h;exact mh
   .cases h;exact mh
  .split at h
   .split at h
    .split at h
     .ext x y s0 r0 P;let⟨np,hpos,rfl⟩:=xW P;split at h
      .ext b hh hb hu;unfold Le at h;split at h
       .ext fo cs T hsb;split at h
        .ext l;erw[Qe,Q0,Q6] at l;let⟨h1,h2,h3⟩:=bQ l.1;let⟨U,q2,q3⟩:=B.cls T;let⟨bm,j,R,_⟩:=B.u.cls (QT T);have G:∀pn xe,PassesOwn (model X.prog X.w) X.A X.env xe->iE (X.nF pn xe) _ (SS (X.nF pn xe) cl (aF C b)):=λ pn xe hpo=>gP (λ s d h=>AJ n (X.nF pn xe) s d o.nF B.nF g q L M O hpo h) hb;have Lj:∀a pn,iE (X.kE (.ref a) pn rL) (s0::r0) (SS (X.kE (.ref a) pn rL) cl (aF C hh)):=λ a pn=>gP (EJ (o.kE) (B.u.of rfl rfl) n) hu;split at h
         .cases h;exact HD L M O R (o.glb l.2) U h1 (B.hnd T hsb) G Lj
         .ext v;split at h
          .ext hv;erw[P9] at h;let⟨i,hi,rfl⟩:=h;exact HC L M O (show X.N.Nodup from Iz (X:=X.fP) o) (o.slot hi) (by show X.env.scope.names.lookup v=_;rw[g];exact hv) R (o.glb l.2) U h1 (B.hnd T hsb) G Lj
          .cases h
        .cases h
       .cases h
      .cases h
     .cases h
    .cases h
   .cases h
  .split at h
   .ext d1 x y y1 y2 y3;cases h;exact Ad (Lg (ih _ _ y1).2) (gP Bw y2) (gP Bw y3)
   .cases h
  .split at h
   .split at h
    .cases h
    .ext hs;split at h
     .ext t d1 x y1 y2 y3;cases h;exact Ae hp o.calm (Lh (vJ o ih y2)) (EM (r9 o n _ _ y1)) (gP Bw y3) (λ x=>qd ((QX _).mp hs) x)
     .cases h
   .cases h
  .split at h
   .ext mk i ds I;cases h;exact(AI o B L I).1
   .exact kU o g q h
  .split at h
   .split at h
    .ext mk i ds I;cases h;exact(AI o B L I).2.1
    .exact kU o g q h
   .cases h;exact p6
  .split at h
   .split at h
    .ext t _ _ _;unfold EH at h;split at h
     .ext mk i ds I;split at h
      .cases h
      .ext l;erw[Tj,Q0,Ug,Bool.not_eq_false] at l;erw[P9] at h;let⟨t1,ht,rfl⟩:=h;obtain⟨x,a,r,P⟩:∃x a r,qh _=some (x,a,r):=by
        unfold HF at I;split at I
        .ext x a r P;exact⟨x,a,r,P⟩
        .cases I
       let⟨p,cpos,rfl⟩:=oN P;refine(AI o B L I).2.2 (EM (Aw o n _ _ ht)) ?_ (oK (by rw[(QX _).mp l.2];rfl)) (by rw[jr l.1];rfl);exact xX
     .cases h
    .exact kU o g q h
   .cases h
  .exact kU o g q h
end
mutual
def aQ:W->Bool
 |.tup xs=>aC xs
 |.fz xs=>aC xs
 |.obj _ _ vs=>aC vs
 |.ref _=>false
 |.non=>true
 |.bl _=>true
 |.int _=>true
 |.str _=>true
def aC:List W->Bool
 | []=>true
 |x::r=>aQ x&&aC r
end
mutual
def qG(k:Nat):W->W
 |.tup xs=>.tup (gT k xs)
 |.fz xs=>.fz (gT k xs)
 |.obj c ks vs=>.obj c ks (gT k vs)
 |.ref n=>.ref (k+n)
 |.non=>.non
 |.bl b=>.bl b
 |.int i=>.int i
 |.str x=>.str x
def gT(k:Nat):List W->List W
 | []=>[]
 |x::r=>qG k x::gT k r
end
def xY(k:Nat):List (Str×W)->List (Str×W)
 | []=>[]
 |(f,x)::r=>(f,qG k x)::xY k r
def xZ(k:Nat):O->O
 |.lst xs=>.lst (gT k xs)
 |.ins c fs=>.ins c (xY k fs)
 |.set ks=>.set ks
 |.dic fs=>.dic (xY k fs)
 |.exc c f ws=>.exc c f (gT k ws)
def aU(f:List W->Mem->R W)(ws:List W)(m:Mem):R W:=
 if aC ws then match f ws [] with
  |.ok w a=>if aQ w then .ok w m else .ok (qG m.length w) (m++a.map (xZ m.length))
  |.no=>.no
 else f ws m
set_option genInjectivity false in
structure Pg where
 fns:List Fn
 cs:Cs
 fuel:Nat
 z:Cz:={}
def dD(p:Pg):Nat->Nat->List W->Mem->R F
 |0,_,_,_=>.no
 |n+1,f,ws,m=>match p.fns[f]? with
  |none=>.no
  |some d=>if ws.length=d.np then aF ⟨λ f=>aU (λ ws m=>(dD p n f ws m).bind outF),p.fuel,p.cs,λ f=>dD p n f⟩ d.body (fJ d.nl ws) m else .no
def runN(p:Pg)(n f:Nat)(ws:List W)(m:Mem):R W:=(dD p n f ws m).bind outF
theorem runN_succ(p:Pg)(n f:Nat)(ws:List W)(m:Mem):runN p (n+1) f ws m=match p.fns[f]? with
  |none=>.no
  |some d=>if ws.length=d.np then (aF ⟨λ f=>aU (runN p n f),p.fuel,p.cs,λ f=>dD p n f⟩ d.body (fJ d.nl ws) m).bind outF else .no:=by
 unfold runN;rw[dD];cases p.fns[f]? with
 |none=>rfl
 |some d=>
  dsimp only;split
  .rfl
  .rfl
theorem RW.pure{g:List Addr}{v:V}(q:RW K J H w v):aQ w=true->RW K g H w v:=
 RW.rec (motive_1:=λ w v _=>aQ w=true->RW K g H w v) (motive_2:=λ w v _=>aC w=true->aS K g H w v) (λ _=>.non) (λ b _=>.bl b) (λ b _=>.int b) (λ b _=>.str b) (λ h _ i e=>.tup h (i e)) (λ h _ i e=>.fz h (i e)) (λ h z _ i e=>.obj h z (i e)) (λ q e=>nomatch (show false=true from e)) (λ _=>.nil) (λ _ _ a b e=>.cons (a (Ql.mp e).1) (b (Ql.mp e).2)) q
theorem aS.pure{h:List Addr}{w:List W}{v:List V}(q:aS K J H w v)(e:aC w=true):aS K h H w v:=by
 induction w generalizing v with
 |nil=>cases q;exact .nil
 |cons x w g=>cases q with | cons a b=>exact .cons (a.pure (Ql.mp e).1) (g b (Ql.mp e).2)
theorem RW.shift{v:V}(q:RW K γ H w v):RW K (J++γ) H (qG J.length w) v:=
 RW.rec (motive_1:=λ w v _=>RW K (J++γ) H (qG J.length w) v) (motive_2:=λ w v _=>aS K (J++γ) H (gT J.length w) v) .non .bl .int .str (λ h _ i=>.tup h i) (λ h _ i=>.fz h i) (λ h e _ i=>.obj h e i) (λ q=>.ref (by rw[Qy 'o',Nat.add_sub_cancel_left];exact q)) .nil (λ _ _ a b=>.cons a b) q
theorem aS.shift{w:List W}{v:List V}(q:aS K γ H w v):aS K (J++γ) H (gT J.length w) v:=by
 induction w generalizing v with
 |nil=>cases q;exact .nil
 |cons x w g=>cases q with | cons a b=>exact .cons a.shift (g b)
theorem gm.shift{w:List (Str×W)}{v:List (Str×V)}(q:gm K γ H w v):gm K (J++γ) H (xY J.length w) v:=by
 induction q with
 |nil=>exact .nil
 |cons a b g=>exact .cons a.shift g
theorem RO.shift{a:Addr}{o:O}(q:RO K cl γ H a o):RO K cl (J++γ) H a (xZ J.length o):=by
 cases o with
 |lst ws=>let⟨vs,e,t⟩:=q;exact⟨vs,e,t.shift⟩
 |ins c fs=>let⟨l,g,e,t⟩:=q;exact⟨l,g,e,t.shift⟩
 |dic fs=>let⟨g,e,t⟩:=q;exact⟨g,e,t.shift⟩
 |exc c f ws=>let⟨k,j,vs,e,h,t,d⟩:=q;exact⟨k,j,vs,e,h,t.shift,d⟩
 |set r=>exact q
theorem x9{f:List W->Mem->R W}{E:XK}(h:vq K cl np (aU f) vs H Q E):vq K cl np f vs H Q E:=by
 let⟨M,J,m,ws,w,m',r,t,e,k⟩:=h;unfold aU at e;split at e
 .ext T;split at e
  .ext O P e1;refine⟨M,[],[],ws,O,P,⟨rfl,UQ,λ {n o a} h=>by simp at h⟩,t.pure T,e1,fun N z v x A q=>?_⟩;have B:∀{a:Addr} {o:HO},H a=some o->z a=some o:=λ h=>x.keep h 's' 's';have G:Ext J H J z:=⟨⟨[],by simp,by simp⟩,λ h _ _=>B h⟩;have I:Rel K cl J m z:=⟨r.len,r.nd,λ j l=>by
    have q:=r.obj j l;let⟨u,e,_⟩:=q.ex;exact q.mono r G ((B e).trans e.symm)⟩
   split at e
   .ext S;cases e;exact k J z v G I (q.pure S)
   .cases e;let⟨γ,y,g⟩:=x.pre;rw[TV] at y;subst y;rw[<-r.len] at k;refine k (J++N) z v ⟨⟨N,rfl,g⟩,λ h _ _=>B h⟩ ⟨by simp[r.len,A.len],?_,λ {n o a} j l=>?_⟩ q.shift
    .rw[R6];refine⟨r.nd,A.nd,λ a ha b U=>?_⟩;rintro rfl;let⟨u,e,_⟩:=r.ex ha;rw[g a U] at e;cases e
    .by_cases L:n<J.length
     .rw[Qh (by rw[<-r.len];exact L)] at j;rw[Qh L] at l;exact(I.obj j l).sub λ {n a} h=>by rw[Qh (Qc.mp h).1];exact h
     .rw[Qy (by rw[<-r.len];omega),S1] at j;rw[Qy 'o'] at l;erw[P9] at j;let⟨o',j,rfl⟩:=j;rw[<-r.len] at j;exact(A.obj j l).shift
  .cases e
 .exact⟨M,J,m,ws,w,m',r,t,e,k⟩
theorem ya{f:List W->Mem->R W}(h:aU f ws m=.ok w m'):∃m1 w1 m2 a,f a m1=.ok w1 m2/\ws=a:=by
 unfold aU at h;split at h
 .split at h
  .exact⟨_,_,_,_,by assumption,rfl⟩
  .cases h
 .exact⟨_,_,_,_,h,rfl⟩
section
variable{P:Program}{w:World}{K:ae}{mg:Str->Option Value}{base:Heap}{fns:List (Str×(Nat×Nat))}{gl:List (Str×W)}{fz:List Pos}{p:Pg}
abbrev cB(p:Pg)(c:Ci):Stmt->Option S:=cX 60 c p.z
def FD(K:ae)(p:Pg)(fns:List (Str×(Nat×Nat)))(gl:List (Str×W))(fz:List Pos)(i:Nat)(x:Str)(f:Addr)(k:FuncData)(j:List Str):Prop:=
 ∃(g:Str) (h:Stmt) (N:List Str) (a:Ss),D6 K x g h f k/\gC N j (aI h)/\sW (cB p ⟨N,(aI h).names,fns,gl,p.cs,fz⟩) (cK h)=some a/\p.fns[i]?=some ⟨j.length,N.length,a⟩/\Binds K k j []
structure FA(K:ae)(w:World)(mg:Str->Option Value)(p:Pg)(fns:List (Str×(Nat×Nat)))(gl:List (Str×W))(fz:List Pos):Prop where
 blt:∀x∈mj,mg x=none
 glo:∀{x:Str} {w:W},gl.lookup x=some w->∃u v,mg x=some u/\RelV v u/\∀J H,RW K J H w v
 fn:∀{x:Str} {i np:Nat},fns.lookup x=some (i,np)->∃f fd ps,ps.length=np/\FD K p fns gl fz i x f fd ps/\mg x=@(.ref f)
 mth:∀{c x:Str} {i:Nat},p.cs.mths.lookup (c,x)=some i->∃f fd ps,FD K p fns gl fz i x f fd ps/\yt K (aj K c)/\Meth K (aj K c) x f
 ini:∀{c:Str} {i:Nat},p.cs.ini.lookup c=some i->∃f fd ps,FD K p fns gl fz i "__init__" f fd ps/\Mk K (aj K c) f/\mg c=@(.ref (aj K c))
 fld:∀{c x:Str},p.cs.flds.contains (c,x)=true->yt K (aj K c)/\gW K (aj K c) x
 dic:∀{x:Str} {kvs:List (Str×W)},p.cs.dic.lookup x=some kvs->TopK K w mg x kvs
 isc:∀{x:Str},p.cs.isc.contains x=true->mg x=some (.ref (aj K x))/\GS K (aj K x)
structure FZ(K:ae)(mg:Str->Option Value)(p:Pg)(fns:List (Str×(Nat×Nat))):Prop where
 fn:∀{x:Str} {v:Nat×Nat},p.z.fn.lookup x=some v->fns.lookup x=some v
 ini:∀{x:Str} {i:Nat},p.z.ini.lookup x=some i->p.cs.ini.lookup x=some i
 cls:∀{x:Str} {fo:Option Str},p.z.cls.lookup x=some fo->mg x=some (.ref (aj K x))/\(fo=none->∃bm,XC K (aj K x) bm none)/\∀f,fo=some f->∃(bm:List Value) (fa:Addr) (fd:FuncData) (ps:List Str),XC K (aj K x) bm @(.ref fa)/\PySem.W.typeIn K (.ref fa)=some (.type "function")/\(∀P w base,cg P w K mg base Cg 1 fa fd ps (Iv (aj K x) f))/\Binds K fd ps []/\ps.length=2
 hnd:∀{x:Str} {fo:Option Str} {cs:List Str},p.z.cls.lookup x=some fo->p.z.sub.lookup x=some cs->∀c,cs.contains c=true->∃bm j,XC K (aj K c) bm j/\(Value.ref (aj K c)::bm).contains (.ref (aj K x))=true
 sub:∀{t:Str} {cs:List Str},p.z.sub.lookup t=some cs->(mg t=some (qS K t)\/mg t=none/\bootBuiltins t=@(qS K t))/\∀{c fo},p.z.cls.lookup c=some fo->PySem.W.kitOne K (.ref (aj K c)) (qS K t)=@(cs.contains c)
 exc:∀{c:Str} {fo:Option Str},(c,fo)∈p.z.cls->∃bm j,XC K (aj K c) bm j/\XG K (aj K c)/\∀f,fo=some f->PySem.W.findIn K (.ref (aj K c)) f=some none
theorem RL.start{N:List Str}(t:aS K J H ws vs):RL K J H (fJ N.length ws) (L2.start N vs):=by
 refine⟨?_,λ {i w} h=>?_⟩
 .unfold fJ L2.start;simp[t.length]
 .unfold fJ at h
  by_cases a:i<ws.length
  .rw[Qh (~~~a),S1] at h;erw[P9] at h;let⟨k,j,g⟩:=h;cases g;let⟨v,e,q⟩:=t.get j;refine⟨v,?_,q⟩;unfold L2.start;rw[Qh (by rw[Qq,<-t.length];exact a),S1,e];rfl
  .rw[Qy (~~~a),getElem?_replicate] at h;split at h<;>cases h
theorem vQ{E:XK}(h:vq K cl np (runN p n i) vs H Q E):Du K cl np (dD p n i) vs H Q E:=by
 let⟨l,J,m,ws,w,m',r,t,e,k⟩:=h;let⟨fl,A,x,a⟩:=R.ah (show (dD p n i ws m).bind outF=.ok w m' from e);cases fl with
 |nx Z=>cases a;exact⟨l,J,m,ws,_,_,r,t,x,fun y z g j=>k _ _ _ g j .non⟩
 |rt u=>cases a;exact⟨l,J,m,ws,_,_,r,t,x,fun y z g j v q=>k _ _ _ g j q⟩
 |rz c fw Z=>cases a
 |bk Z=>cases a
 |ct Z=>cases a
theorem uA(I:FA K w mg p fns gl fz)(Z0:FZ K mg p fns):∀(n:Nat) {i:Nat} {x:Str} {f:Addr} {j:FuncData} {g:List Str},FD K p fns gl fz i x f j g->cg P w K mg base (lX P w) (2*n+1) f j g (Du K ⟨P,w⟩ g.length (dD p n i))
 |0,i,x,f,j,g,h=>⟨λ vs H Q E q=>q.1,λ A outer s H args us vs Q E M he N9 hv hs=>by
   let⟨_,_,_,_,_,_,_,_,e,_⟩:=hs;cases e⟩
 |n+1,i,x,f,j,g,h=>by
  let⟨qual,st,N,body,F,S,hb,hi,hB⟩:=h;refine F.O3 (k:=2*n+2) S (λ vs H Q E h=>h.1) (λ cdv A outer s H vs Q E M h=>?_);let⟨hl,J,m,ws,fl,m',r,t,e,k⟩:=h;have NF:∀{T:Nat} {x':Str} {f':Addr} {B:FuncData} {a:List Str},FD K p fns gl fz T x' f' B a->∀ws m fl m',dD p n T ws m=.ok fl m'->ws.length=a.length:=λ hd ws m fl m' hc=>by
   let⟨_,_,_,_,_,_,_,hi',_⟩:=hd;cases n with
   |zero=>cases (show (R.no:R D.F)=.ok _ _ from hc)
   |succ n=>
    erw[dD,hi'] at hc;split at hc
    .assumption
    .cases hc
  have rX:∀{T:Nat} {x':Str} {f':Addr} {B:FuncData} {a:List Str},FD K p fns gl fz T x' f' B a->∀ws m w m',aU (runN p n T) ws m=.ok w m'->ws.length=a.length:=λ hd ws m w m' hc=>by
   let⟨m1,w1,m2,zR,hc,Ou⟩:=ya hc;let⟨fl,m3,e1,_⟩:=R.ah (show (dD p n _ zR m1).bind outF=.ok w1 m2 from hc);rw[Ou];exact NF hd _ _ _ _ e1
  have go:∀{T:Nat} {x':Str} {f':Addr} {B:FuncData} {a:List Str},FD K p fns gl fz T x' f' B a->cg P w K mg base (lX P w) (2*n+1) f' B a (Du K ⟨P,w⟩ a.length (dD p n T))/\cg P w K mg base (yv P w) (2*n+1) f' B a (vq K ⟨P,w⟩ a.length (aU (runN p n T))):=λ hd=>
   ⟨uA I Z0 n hd,(uA I Z0 n hd).imp λ _ _ _ _ q=>vQ (x9 q)⟩
  have o:Ok (jc (lX P w) P w K mg base N qual (aI st) f cdv A outer s H E).fP ⟨P,w⟩ ⟨λ f=>aU (runN p n f),p.fuel,p.cs,λ f=>dD p n f⟩ ⟨N,(aI st).names,fns,gl,p.cs,fz⟩:=by
   refine⟨rfl,S.nd,λ {x k} O hv=>?_,λ {x k} O hv=>?_,λ {x} O=>O,λ {x} O=>O,rfl,⟨M.units,rfl,rfl,M.gd⟩,M.hd,I.blt,λ {x i np} L=>?_,I.glo,rfl,I.fld,λ {c x i} L=>?_,λ {c i} L=>?_,I.dic,I.isc⟩
   .rcases hv with rfl | rfl | rfl
    .exact .inl O
    .exact .inr (.inl O)
    .exact .inr (.inr O)
   .rcases hv with rfl | rfl
    .exact⟨.inl O,.inl rfl⟩
    .exact⟨.inr O,.inl rfl⟩
   .let⟨G,j,g,h1,l,U⟩:=I.fn L;have hkp:PySem.W.keepIn K (.ref G)=true:=let ⟨_,_,_,_,F,_,_,_,_⟩:=l;F.kp;have u:Binds K j g []:=let ⟨_,_,_,_,_,_,_,_,z⟩:=l;z;exact⟨2*n+1,G,j,g,h1,M.mono 'o',U,hkp,u,(go l).2⟩
   .let⟨G,j,g,l,U,h4⟩:=I.mth L;have u:Binds K j g []:=let ⟨_,_,_,_,_,_,_,_,z⟩:=l;z;exact⟨2*n+1,G,j,g,M.mono 'o',U,h4,u,(go l).2,rX l⟩
   .let⟨G,j,g,l,U,h4⟩:=I.ini L;have u:Binds K j g []:=let ⟨_,_,_,_,_,_,_,_,z⟩:=l;z;exact⟨2*n+1,G,j,g,M,U,h4,u,(go l).2,rX l⟩
  have oz:IB (jc (lX P w) P w K mg base N qual (aI st) f cdv A outer s H E) ⟨P,w⟩ ⟨λ f=>aU (runN p n f),p.fuel,p.cs,λ f=>dD p n f⟩ p.z:=by
   refine⟨λ {x i np} L=>?_,λ {x i} L=>?_,λ {x fo} L=>?_,Z0.hnd,Z0.sub,Z0.exc⟩
   .let⟨G,j,g,h1,l,U⟩:=I.fn (Z0.fn L);have hkp:PySem.W.keepIn K (.ref G)=true:=let ⟨_,_,_,_,F,_,_,_,_⟩:=l;F.kp;have u:Binds K j g []:=let ⟨_,_,_,_,_,_,_,_,z⟩:=l;z;exact⟨2*n+1,G,j,g,h1,M.mono 'o',U,hkp,u,(go l).1,NF l⟩
   .let⟨G,j,g,l,U,h4⟩:=I.ini (Z0.ini L);have u:Binds K j g []:=let ⟨_,_,_,_,_,_,_,_,z⟩:=l;z;exact⟨2*n+1,G,j,g,M,U,h4,u,(go l).1,NF l⟩
   .let⟨q1,q2,q3⟩:=Z0.cls L;refine⟨q1,q2,λ f hf=>?_⟩;let⟨bm,G,j,g,y1,y2,y3,y4,y5⟩:=q3 f hf;exact⟨bm,1,G,j,g,y1,y2,y3 P w base,M.mono 'o',y4,y5⟩
  refine⟨_,gP (λ s d h=>AJ 60 _ s d o oz rfl S.kind rfl rfl rfl CG h) hb,?_⟩;erw[dD,hi] at e;split at e
  .refine⟨J,fJ N.length ws,m,fl,m',r,RL.start t,e,fun β1 H1 x1 r1=>?_⟩;have q:=k β1 H1 x1 r1;cases fl with
   |nx Z=>exact fun Y _=>q
   |rt w=>exact q
   |rz c fw Z=>
    rcases fw with _ | ⟨f,w⟩
    .exact fun Y _=>vm q
    .exact fun Y y dx _ qq hd=>vm (q y dx qq hd)
   |bk Z=>exact q.elim
   |ct Z=>exact q.elim
  .cases e
theorem sound(k:FA K w mg p fns gl fz)(j:FZ K mg p fns)(n:Nat){x:Str}{f:Addr}{g:FuncData}{a:List Str}(h:FD K p fns gl fz i x f g a):cg P w K mg base (yv P w) (2*n+1) f g a (vq K ⟨P,w⟩ a.length (runN p n i)):=
 (uA k j n h).imp λ _ _ _ _ q=>vQ q
end
theorem AL{l:PySem.W.OpenLaw}{q:Program}{loose:List Str}{XP:(Str->Option Value)->Heap->Prop}{YP:World->Heap->Prop}{d:DefRec}{K:Params->ae}{p:Pg}{x:Str}
  (A:l.most=some 63) (j:d.params.defaults=[]) (G:∀(w:World) (h:Heap),YP w h->(K w.params).In h)
  (F:∀(w:World) (g:Str->Option Value) (t:Addr) (h:Heap),(K w.params).In h->h.Ns mainGlobals g->g d.name=some (.ref t)->
   ∃r:FuncData,(∀(s:Shared) (u:Value),BindsTo s r ⟨[u],[]⟩ [(x,u)])/\
    ∀base:Heap,(K w.params).In base->base.Ns mainGlobals g->cg l.prog w (K w.params) g base (yv l.prog w) 81 t r [x] (vq (K w.params) ⟨l.prog,w⟩ 1 (runN p 40 i)))
  (M:∀ns:List Int,ns.length<=63->∃m',runN p 40 i [.fz (ns.map .int)] []=.ok (.bl true) m') :
  PySem.W.WalkO q loose XP YP l.row.toRowW d [] (λ f vs=>PySem.call f vs):=by
 refine L2.Ce (n:=63) (k:=81) (x:=x) (CX:=λ w=>yv l.prog w) (sp:=λ w=>vq (K w.params) ⟨l.prog,w⟩ 1 (runN p 40 i)) A 'd' j ⟨rfl,by decide,by decide,rfl⟩ G F (λ w H a ns B L I=>?_) λ _ _ _ _ _ z=>O6 z;let⟨m',e⟩:=M ns B;have y:rO (K w.params) H a (ns.map V.int):=by
  rcases I with (h | ⟨o,h⟩) | h
  .rcases L a with z | ⟨o,xs,z⟩
   .rw[h] at z;cases z
   .rw[h] at z;cases z
  .exact .inl ⟨o,h⟩
  .exact .inr h
 refine⟨rfl,[],[],[.fz (ns.map .int)],.bl true,m',⟨rfl,UQ,λ {n o a} h=>by simp at h⟩,.cons (.fz y (aS.ints ns)) .nil,e,fun N O v _ _ q=>?_⟩;cases q;rfl
end D
end
section
namespace D
open PySem List
variable{C:Cx}{P:Nat->Bool}{b:Ss}{c:Str}{d:Fn}{e it:E}{es:Es}{f:List W->Mem->R W}{hw:Ea}{i n:Nat}{m m0 m1 m2:Mem}{o:O}{p:Pg}{s:Src}{w:W}{ws xs:List W}{α:Type}{Z Z1:Loc}
theorem se{J:Type}[BEq α][LawfulBEq α]{x:α}{b:J}{l:List (α×J)}(h:l.lookup x=some b):(x,b)∈l:=by
 induction l with
 |nil=>simp at h
 |cons p l a=>
  let⟨y,c⟩:=p;rw[Qs] at h;split at h
  .ext g;cases h;rw[eq_of_beq g];exact QM
  .exact QC _ (a h)
abbrev Cn(p:Pg)(n:Nat):D.Cx:=⟨λ f=>aU (D.runN p n f),p.fuel,p.cs,λ f=>D.dD p n f⟩
section
variable{get:Mem->Nat->Nx}{t:T}{test:Loc->Mem->R Bool}{body:Loc->Mem->List W->R (List W×Loc)}{ni:Loc->Mem->R F}{k i:Nat}{Z Z1 Z2:Loc}{m m1 m2:Mem}{acc uB:List W}{x w:W}
theorem yb(h:get m i=.fin):ck get t test body k i Z m acc=.ok (acc,Z) m:=by unfold ck;rw[h]
theorem AM(h:get m i=.it x)(j:aD t x Z=some Z1)(a:test Z1 m=.ok true m1)(g:body Z1 m1 acc=.ok (uB,Z2) m2):ck get t test body (k+1) i Z m acc=ck get t test body k (i+1) Z2 m2 uB:=by
 rw[ck,h];erw[j,a,R.bind,Qx,g]
theorem uC(h:get m i=.it x)(g:aD t x Z=some Z1)(a:test Z1 m=.ok false m1):ck get t test body (k+1) i Z m acc=ck get t test body k (i+1) Z1 m1 acc:=by
 rw[ck,h];erw[g,a,R.bind,QJ,QY]
theorem mE(h:get m i=.fin):dX get t ni k i Z m=.ok (.nx Z) m:=by unfold dX;rw[h]
theorem kX(h:get m i=.it x)(g:aD t x Z=some Z1)(a:ni Z1 m=.ok (.nx Z2) m2):dX get t ni (k+1) i Z m=dX get t ni k (i+1) Z2 m2:=by
 rw[dX,h];erw[g,R.bind,a]
theorem vR(h:get m i=.it x)(g:aD t x Z=some Z1)(a:ni Z1 m=.ok (.ct Z2) m2):dX get t ni (k+1) i Z m=dX get t ni k (i+1) Z2 m2:=by
 rw[dX,h];erw[g,R.bind,a]
theorem vS(h:get m i=.it x)(g:aD t x Z=some Z1)(a:ni Z1 m=.ok (.rt w) m2):dX get t ni (k+1) i Z m=.ok (.rt w) m2:=by
 rw[dX,h];erw[g,R.bind,a]
theorem sj(I:Nat->Loc->Mem->Prop)(j:∀i Z m,i<n->I i Z m->∃x Z1 Z2 m2,get m i=.it x/\aD t x Z=some Z1/\(ni Z1 m=.ok (.nx Z2) m2\/ni Z1 m=.ok (.ct Z2) m2)/\I (i+1) Z2 m2)(l:∀Z m,I n Z m->get m n=.fin) :
  ∀(k i:Nat) (Z:Loc) (m:Mem),i+k=n->I i Z m->∃ρ' g,dX get t ni k i Z m=.ok (.nx ρ') g/\I n ρ' g
 |0,i,Z,m,hi,h=>by
  have e:i=n:=by omega
  subst e;exact⟨Z,m,mE (l Z m h),h⟩
 |k+1,i,Z,m,hi,h=>by
  let⟨x,Z1,Z2,m2,r,q,a,v⟩:=j i Z m 'o' h;let⟨ρ',g,e,u⟩:=sj I j l k (i+1) Z2 m2 'o' v;refine⟨ρ',g,?_,u⟩;rcases a with a | a
  .rw[kX r q a,e]
  .rw[vR r q a,e]
theorem cz(I:Nat->Loc->Mem->List W->Prop)
  (j:∀i Z m acc,i<n->I i Z m acc->∃x Z1,get m i=.it x/\aD t x Z=some Z1/\((∃m1 uB Z2 m2,test Z1 m=.ok true m1/\body Z1 m1 acc=.ok (uB,Z2) m2/\I (i+1) Z2 m2 uB)\/∃m1,test Z1 m=.ok false m1/\I (i+1) Z1 m1 acc))
  (l:∀Z m acc,I n Z m acc->get m n=.fin) :
  ∀(k i:Nat) (Z:Loc) (m:Mem) (acc:List W),i+k=n->I i Z m acc->∃a ρ' g,ck get t test body k i Z m acc=.ok (a,ρ') g/\I n ρ' g a
 |0,i,Z,m,acc,hi,h=>by
  have e:i=n:=by omega
  subst e;exact⟨acc,Z,m,yb (l Z m acc h),h⟩
 |k+1,i,Z,m,acc,hi,h=>by
  obtain⟨x,Z1,z,y,⟨m1,uB,Z2,m2,u,A,r⟩ | ⟨m1,u,r⟩⟩:=j i Z m acc 'o' h
  .let⟨v,ρ',g,e,q⟩:=cz I j l k (i+1) Z2 m2 uB 'o' r;exact⟨v,ρ',g,by rw[AM z y u A,e],q⟩
  .let⟨v,ρ',g,e,q⟩:=cz I j l k (i+1) Z1 m1 acc 'o' r;exact⟨v,ρ',g,by rw[uC z y u,e],q⟩
end
theorem af{s:S}{r:Ss}(h:aM C s Z m=.ok (.nx Z1) m1):aF C (.cons s r) Z m=aF C r Z1 m1:=by erw[gH,h,R.bind]
theorem aO{s:S}{r:Ss}(h:aM C s Z m=.ok (.rt w) m1):aF C (.cons s r) Z m=.ok (.rt w) m1:=by erw[gH,h,R.bind]
theorem bW{s:S}{r:Ss}{a:Option (Str×W)}(h:aM C s Z m=.ok (.rz c a Z1) m1):aF C (.cons s r) Z m=.ok (.rz c a Z1) m1:=by erw[gH,h,R.bind]
theorem jw{f:Nat}(g:p.fns[f]?=some d)(a:ws.length=d.np):D.dD p (n+1) f ws m=aF (Cn p n) d.body (fJ d.nl ws) m:=by
 rw[D.dD,g];dsimp only;rw[Qn a];rfl
def iV(P:Nat->Bool):Nat->Nat->Option Nat
 |0,_=>none
 |k+1,i=>if P i then some i else iV P k (i+1)
theorem yc{Q:Nat->Bool}:∀{k i:Nat},(∀j,i<=j->j<i+k->P j=Q j)->iV P k i=iV Q k i
 |0,_,_=>rfl
 |k+1,i,h=>by
  unfold iV;rw[h i (Qf _) 'o',yc (k:=k) (i:=i+1) λ j g a=>h j 'o' 'o']
theorem su:∀{k i:Nat},iV P k i=none->∀j,i<=j->j<i+k->P j=false
 |0,_,_=>λ j g a=>by omega
 |k+1,i,h=>λ j g a=>by
  unfold iV at h;split at h
  .cases h
  .ext e
   by_cases y:j=i
   .subst y;simpa using e
   .exact su h j 'o' 'o'
theorem kY:∀{k i:Nat},(∀j,i<=j->j<i+k->P j=false)->iV P k i=none
 |0,_,_=>rfl
 |k+1,i,h=>by
  unfold iV;rw[h i (Qf _) 'o',Qu 'd'];exact kY λ j g a=>h j 'o' 'o'
def EN:F->Prop
 |.rt _=>True
 |.rz _ _ _=>True
 |_=>False
theorem oO{get:Mem->Nat->Nx}{t:T}{ni:Loc->Mem->R F}(P:Nat->Bool)(I:Nat->Loc->Mem->Prop)(O:Nat->F->Mem->Prop)(z:∀i f m,O i f m->EN f)
  (u:∀i Z m,i<n->I i Z m->∃x Z1,get m i=.it x/\aD t x Z=some Z1/\(P i=true->∃f m2,ni Z1 m=.ok f m2/\O i f m2)/\(P i=false->∃g m2,(ni Z1 m=.ok (.nx g) m2\/ni Z1 m=.ok (.ct g) m2)/\I (i+1) g m2)) (v:∀Z m,I n Z m->get m n=.fin) :
  ∀(k i:Nat) (Z:Loc) (m:Mem),i+k=n->I i Z m->match iV P k i with
   |none=>∃ρ' l,dX get t ni k i Z m=.ok (.nx ρ') l/\I n ρ' l
   |some j=>∃f l,dX get t ni k i Z m=.ok f l/\O j f l
 |0,i,Z,m,hi,h=>by
  have e:i=n:=by omega
  subst e;exact⟨Z,m,mE (v Z m h),h⟩
 |k+1,i,Z,m,hi,h=>by
  let⟨x,Z1,r,q,a,D⟩:=u i Z m 'o' h;unfold iV;cases y:P i with
  |true=>
   let⟨f,m2,e,o⟩:=a y;rw[Qn rfl];refine⟨f,m2,?_,o⟩;have:=z _ _ _ o;rw[dX,r];erw[q,R.bind,e];cases f<;>first | rfl | exact this.elim
  |false=>
   let⟨g,m2,a,B⟩:=D y;have A:=oO P I O z u v k (i+1) g m2 'o' B;have e:dX get t ni (k+1) i Z m=dX get t ni k (i+1) g m2:=by
    rcases a with a | a
    .exact kX r q a
    .exact vR r q a
   rw[Qu 'd',e];exact A
theorem cF{f:Nat}(g:p.fns[f]?=some d)(a:ws.length=d.np)(h:aF (Cn p n) d.body (fJ d.nl ws) m=.ok (.rt w) m1):D.runN p (n+1) f ws m=.ok w m1:=by
 rw[D.runN_succ,g];erw[a,Qx,h,R.bind,outF]
theorem jV{f:Nat}(g:p.fns[f]?=some d)(a:ws.length=d.np)(h:aF (Cn p n) d.body (fJ d.nl ws) m=.ok (.nx Z) m1):D.runN p (n+1) f ws m=.ok .non m1:=by
 rw[D.runN_succ,g];erw[a,Qx,h,R.bind,outF]
theorem HN(h:ao C e Z m=.ok w m1):aM C (.asg (.pt (.var i)) e) Z m=.ok (.nx (Z.set i (some w))) m1:=by erw[fH,h,R.bind,fT,aD]
theorem aH(h:ao C e Z m=.ok w m1)(a:Z.set i (some w)=Z1):aM C (.asg (.pt (.var i)) e) Z m=.ok (.nx Z1) m1:=by rw[HN h,a]
theorem uD{xs:List α}(h:xs.Nodup)(hi:i<xs.length):xs[i]∉xs.take i:=λ a=>by
 rw[<-T7 i xs] at h;exact(Si.mp h).2.2 _ a _ (QW (i:=0) (by rw[getElem?_drop,Nat.add_zero,Qt hi])) rfl
theorem bR(h:ao C e Z m=.ok w m1):aM C (.ret e) Z m=.ok (.rt w) m1:=by erw[rB,h,R.bind]
theorem bM(h:ao C e Z m=.ok w m1):aM C (.expr e) Z m=.ok (.nx Z) m1:=by erw[lW,h,R.bind]
theorem mF{o:E}{f:Str}{a:Mem}{x:W}(h:ao C e Z m=.ok w m1)(j:ao C o Z m1=.ok x m2)(g:oi C.cs x f w m2=.ok () a):aM C (.fas o f e) Z m=.ok (.nx Z) a:=by erw[rE,h,j,g,R.bind]
theorem cZ{t:E}{a:Ss}(h:br C t Z m=.ok true m1):aM C (.ife t a b) Z m=aF C a Z m1:=by erw[rC,h,R.bind,Qx]
theorem bN{t:E}{a:Ss}(h:br C t Z m=.ok false m1):aM C (.ife t a b) Z m=aF C b Z m1:=by erw[rC,h,R.bind,QJ,QY]
theorem ai:aF C .nil Z m=.ok (.nx Z) m:=rfl
theorem mG{t:T}{f:F}(h:dw C it Z m=.ok s m1)(a:dX s.get t (fun Z m=>aF C b Z m) (s.len m1) 0 Z m1=.ok f m2):aM C (.for_ t it b) Z m=.ok f m2:=by erw[pT,h,R.bind,a]
theorem fW{t:T}(l:dw C it Z m=.ok s m1)(j:s.len m1=n)(I:Nat->Loc->Mem->Prop)(u:I 0 Z m1)
  (h:∀i Z m,i<n->I i Z m->∃x Z1 g m2,s.get m i=.it x/\aD t x Z=some Z1/\(aF C b Z1 m=.ok (.nx g) m2\/aF C b Z1 m=.ok (.ct g) m2)/\I (i+1) g m2) (k:∀Z m,I n Z m->s.get m n=.fin) :
  ∃ρ' a,aM C (.for_ t it b) Z m=.ok (.nx ρ') a/\I n ρ' a:=by
 let⟨ρ',a,r,q⟩:=sj (get:=s.get) (t:=t) (ni:=fun Z m=>aF C b Z m) I h k n 0 Z m1 'o' u;exact⟨ρ',a,mG l (by rw[j];exact r),q⟩
theorem fL{t:T}(r:dw C it Z m=.ok s m1)(q:s.len m1=n)(P:Nat->Bool)(I:Nat->Loc->Mem->Prop)(O:Nat->F->Mem->Prop)(y:∀i f m,O i f m->EN f)(z:I 0 Z m1)
  (u:∀i Z m,i<n->I i Z m->∃x Z1,s.get m i=.it x/\aD t x Z=some Z1/\(P i=true->∃f m2,aF C b Z1 m=.ok f m2/\O i f m2)/\(P i=false->∃l m2,(aF C b Z1 m=.ok (.nx l) m2\/aF C b Z1 m=.ok (.ct l) m2)/\I (i+1) l m2)) (v:∀Z m,I n Z m->s.get m n=.fin) :
  match iV P n 0 with
   |none=>∃ρ' a,aM C (.for_ t it b) Z m=.ok (.nx ρ') a/\I n ρ' a
   |some j=>∃f a,aM C (.for_ t it b) Z m=.ok f a/\O j f a:=by
 have h:=oO (get:=s.get) (t:=t) (ni:=fun Z m=>aF C b Z m) P I O y u v n 0 Z m1 'o' z;cases e:iV P n 0 with
 |none=>
  rw[e] at h;let⟨ρ',a,k,g⟩:=h;exact⟨ρ',a,mG r (by rw[q];exact k),g⟩
 |some j=>
  rw[e] at h;let⟨f,a,k,g⟩:=h;exact⟨f,a,mG r (by rw[q];exact k),g⟩
theorem kZ{f:Str}(h:ao C e Z m=.ok w m1):aM C (.rais c (some f) e) Z m=.ok (.rz c (some (f,w)) Z) m1:=by erw[ud,h,R.bind,R8]
theorem AN(h:bh (Cn p n) es Z m=.ok ws m1)(a:D.dD p n i ws m1=.ok (.nx Z1) m2):aM (Cn p n) (.xc .drop none i es) Z m=.ok (.nx Z) m2:=by erw[rF,h,a,R.bind,Bs,outF,oj]
theorem AO{a:Option (Str×W)}(h:bh (Cn p n) es Z m=.ok ws m1)(g:D.dD p n i ws m1=.ok (.rz c a Z1) m2):aM (Cn p n) (.xc hw none i es) Z m=.ok (.rz c a Z) m2:=by erw[rF,h,g,R.bind,Bs]
theorem HP(h:bh (Cn p n) es Z m=.ok ws m1)(a:D.dD p n i (.ref m1.length::ws) (m1++[.ins c []])=.ok (.nx Z1) m2):aM (Cn p n) (.xc hw (some c) i es) Z m=oj (Cn p n) hw Z (.ref m1.length) m2:=by erw[rG,h,a,R.bind,Bs,outF]
theorem HQ{d:Str}{a:Option (Str×W)}(h:bh (Cn p n) es Z m=.ok ws m1)(g:D.dD p n i (.ref m1.length::ws) (m1++[.ins c []])=.ok (.rz d a Z1) m2):aM (Cn p n) (.xc hw (some c) i es) Z m=.ok (.rz d a Z) m2:=by erw[rG,h,g,R.bind,Bs]
theorem Lk{h:Ss}{g:List Str}{i:Option Nat}{fl:F}(e:aF C b Z m=.ok fl m1)(j:∀c a Z,fl≠.rz c a Z):aM C (.tr b g i h) Z m=.ok fl m1:=by
 erw[Cw,e,R.bind]
theorem Ll{h:Ss}{g:List Str}{i:Option Nat}{a:Option (Str×W)}{fl:F}(e:aF C b Z m=.ok (.rz c a Z1) m1)(j:g.contains c=true)(k:aF C h (uc i @(.ref m1.length) Z1) (m1++[GB c a])=.ok fl m2):aM C (.tr b g i h) Z m=gone i fl m2:=by
 erw[Cw,e,R.bind,j,Qx,k]
theorem dS{t:T}{js:List Nat}{ifs:Es}{g:G}{ρ':Loc}(h:dw C it Z m=.ok s m1)(j:ck s.get t (fun Z m=>bD C ifs Z m) (fun Z m a=>gZ C g Z m a) (s.len m1) 0 (fY js Z) m1 []=.ok (ws,ρ') m2):ao C (.comp (.gen t js it ifs g)) Z m=.ok (.ref m2.length) (m2++[.lst ws]):=by
 erw[gG,ic,h,R.bind,j,new]
theorem kL(a:ao C e Z m=.ok (.int n) m1)(h:n<=1000000):dw C (.rng e) Z m=.ok (.rng 0 n) m1:=by
 erw[jk,a,R.bind];rw[Qn 'o',RC]
theorem aV{lo:Int}(h:i<n):Src.get (.rng lo n) m i=.it (.int (lo+i)):=by erw[Src.get,h,Qx]
theorem aR{lo:Int}(h:¬i<n):Src.get (.rng lo n) m i=.fin:=by erw[Src.get,h,QY]
theorem aW(h:i<xs.length):Src.get (.tup xs) m i=.it xs[i]:=by erw[Src.get,Qt h]
theorem aN(h:¬i<xs.length):Src.get (.tup xs) m i=.fin:=by erw[Src.get,Sv (T5 h)]
theorem fM(h:s.get m i=.it w):Src.get (.enm s) m i=.it (.tup [.int i,w]):=by erw[Src.get,h]
theorem dZ(h:s.get m i=.fin):Src.get (.enm s) m i=.fin:=by erw[Src.get,h]
theorem qj(h:m[n]?=@(.lst xs))(i:Nat):Src.get (.lst n) m i=Src.get (.tup xs) m i:=by erw[Src.get,getL,h]
theorem iy:∀ns:List Int,aC (ns.map W.int)=true
 | []=>rfl
 |n::r=>by simp[aC,aQ,iy r]
theorem bE:∀ns:List Str,aC (ns.map W.str)=true
 | []=>rfl
 |n::r=>by simp[aC,aQ,bE r]
theorem mH:∀{xs:List W},aC xs=true↔∀x∈xs,aQ x=true
 | []=>by simp[aC]
 |x::r=>by simp[aC,mH (xs:=r)]
theorem ko{f:α->W}(h:∀a,aQ (f a)=true)(xs:List α):aC (xs.map f)=true:=mH.mpr λ x g=>by
 let⟨a,_,rfl⟩:=QB.mp g;exact h a
mutual
theorem mJ(g:Nat->Option W):∀{w:W},aQ w=true->kP g w=some w
 |.non,_=>rfl
 |.bl _,_=>rfl
 |.int _,_=>rfl
 |.str _,_=>rfl
 |.tup xs,h=>by erw[kP,eO g (by simpa only[aQ] using h:aC xs=true)];rfl
 |.fz xs,h=>by erw[kP,eO g (by simpa only[aQ] using h:aC xs=true)];rfl
 |.obj c ks vs,h=>by erw[kP,eO g (by simpa only[aQ] using h:aC vs=true)];rfl
 |.ref _,h=>by simp[aQ] at h
theorem eO(g:Nat->Option W):∀{w:List W},aC w=true->eX g w=some w
 | [],_=>rfl
 |x::r,h=>by
  erw[aC,Qe] at h;erw[eX,mJ g h.1,eO g h.2]
end
theorem AQ(k:Nat):aQ w=true->eY k w=true:=
 W.rec (motive_1:=λ w=>aQ w=true->eY k w=true) (motive_2:=λ w=>aC w=true->bq k w=true) (λ _=>rfl) (λ _ _=>rfl) (λ _ _=>rfl) (λ _ _=>rfl) (λ _ i e=>i e) (λ _ i e=>i e) (λ _ _ _ i e=>i e) (λ _ e=>nomatch (show false=true from e)) (λ _=>rfl) (λ _ _ a b e=>Ql.mpr ⟨a (Ql.mp e).1,b (Ql.mp e).2⟩) w
theorem aJ(k:Nat){w:List W}(e:aC w=true):bq k w=true:=by
 induction w with
 |nil=>rfl
 |cons x r a=>exact Ql.mpr ⟨AQ k (Ql.mp e).1,a (Ql.mp e).2⟩
theorem AR{k l:Nat}(g:k<=l):eY k w=true->eY l w=true:=
 W.rec (motive_1:=λ w=>eY k w=true->eY l w=true) (motive_2:=λ w=>bq k w=true->bq l w=true) (λ _=>rfl) (λ _ _=>rfl) (λ _ _=>rfl) (λ _ _=>rfl) (λ _ i e=>i e) (λ _ i e=>i e) (λ _ _ _ i e=>i e) (λ _ e=>QS (Qm (Se e) g)) (λ _=>rfl) (λ _ _ a b e=>Ql.mpr ⟨a (Ql.mp e).1,b (Ql.mp e).2⟩) w
theorem iJ{k l:Nat}(g:k<=l){w:List W}(e:bq k w=true):bq l w=true:=by
 induction w with
 |nil=>rfl
 |cons x r a=>exact Ql.mpr ⟨AR g (Ql.mp e).1,a (Ql.mp e).2⟩
theorem oQ{k l:Nat}(a:k<=l)(h:gE k o=true):gE l o=true:=by
 cases o with
 |lst xs=>exact iJ a h
 |ins c fs=>exact iJ a h
 |dic fs=>exact iJ a h
 |exc c f ws=>exact iJ a h
 |set g=>rfl
def Cm(m:Mem):Prop:=xA m.length m=true
theorem Cm.nil:Cm []:=rfl
theorem mK{k:Nat}:xA k m=true↔∀o∈m,gE k o=true:=by simp[xA,So]
theorem Cm.set{p:Nat}(h:Cm m)(ho:gE m.length o=true):Cm (m.set p o):=by
 unfold Cm at h ⊢;rw[RH,mK] at *;intro x a;rcases RQ a with a | rfl
 .exact h x a
 .exact ho
theorem Cm.app{l:Mem}(h:Cm m)(g:∀o∈l,gE (m.length+l.length) o=true):Cm (m++l):=by
 unfold Cm at h ⊢;rw[mK] at *;intro x a;rw[QU];rcases Qz.mp a with a | a
 .exact oQ 'o' (h x a)
 .exact g x a
theorem Cm.push(h:Cm m)(ho:gE m.length o=true):Cm (m++[o]):=h.app λ x a=>by
 rw[QV] at a;subst a;exact oQ 's' ho
theorem mL{l:Mem}{w1:W}(h:ao C e Z m=.ok w (m0++l))(a:m0.length=m.length)(j:Cm m0)(hw:kP (nh (m0++l) m0.length 8) w=some w1):ao C (.frz e) Z m=.ok w1 m0:=by
 have g:(m0++l).take m.length=m0:=by rw[<-a,take_left'];rfl
 have k:m.length<=(m0++l).length/\xA m.length ((m0++l).take m.length)=true:=⟨by rw[QU];omega,by rw[g,<-a];exact j⟩;erw[iU,h,zC];rw[Qn k,<-a,hw];erw[a,g]
theorem vU{l:Mem}{j:Nat}(h:ao C e Z m=.ok (.ref j) (m0++l))(q:m0.length=m.length)(k:Cm m0)(r:m0.length<=j)(a:(m0++l)[j]?=@(.lst xs))(g:aC xs=true):ao C (.frz e) Z m=.ok (.fz xs) m0:=by
 refine mL h q k ?_;erw[kP,nh,a,eO _ g,R8];rw[Qu 'o']
theorem bg(h:ao C e Z m=.ok (.ref m0.length) (m0++[.lst xs]))(j:m0.length=m.length)(g:Cm m0)(a:aC xs=true):ao C (.frz e) Z m=.ok (.fz xs) m0:=
 vU h j g (Qf _) 's' a
theorem Dz(h:ao C e Z m=.ok w m0)(j:m0.length=m.length)(g:Cm m0)(a:aQ w=true):ao C (.frz e) Z m=.ok w m0:=
 mL (l:=[]) (by rw[Rm];exact h) j g (mJ _ a)
theorem bf(h:aC ws=false):aU f ws m=f ws m:=by simp[aU,h]
theorem dP(h:aC ws=true)(e:f ws []=.ok w m1)(hw:aQ w=true):aU f ws m=.ok w m:=by simp[aU,h,e,hw]
theorem oR(h:aC ws=true)(e:f ws []=.ok w m1)(hw:aQ w=false):aU f ws m=.ok (qG m.length w) (m++m1.map (xZ m.length)):=by simp[aU,h,e,hw]
theorem set_same{p:Nat}(h:m[p]?=some o):m.set p o=m:=by
 apply ext_getElem?;intro j
 by_cases e:p=j
 .subst e;rw[QG (Qc.mp h).1,h]
 .rw[QA e]
theorem k6(l:List α):l.filter (λ _=>true)=l:=List.filter_eq_self.mpr λ _ _=>rfl
theorem k7{get:Mem->Nat->Nx}{t:T}{ifs:Es}{B:W->Loc}{p:W->Bool}{g:W->W}(r:∀j (h:j<xs.length),get m j=.it xs[j])(L:get m xs.length=.fin)
  (J:∀x∈xs,aD t x Z=@(B x)) (A:∀x∈xs,∀y∈xs,aD t y (B x)=@(B y)) (D:∀x∈xs,bD C ifs (B x) m=.ok (p x) m) (F:∀x∈xs,p x=true->ao C e (B x) m=.ok (g x) m) (N:xs.length<=lim) :
  ∃ρ',ck get t (fun Z m=>bD C ifs Z m) (fun Z m a=>gZ C (.elt e) Z m a) xs.length 0 Z m []=.ok ((xs.filter p).map g,ρ') m:=by
 let⟨a,ρ',M,K,Q,I,H⟩:=cz (get:=get) (t:=t) (test:=fun Z m=>bD C ifs Z m) (body:=fun Z m a=>gZ C (.elt e) Z m a) (n:=xs.length)
  (λ j Z1 m1 a=>(∀x∈xs,aD t x Z1=@(B x))/\m1=m/\a=((xs.take j).filter p).map g) (λ j Z1 m1 a z=>by
   rintro⟨G,rfl,rfl⟩;have k:=QI z;have l:xs.take (j+1)=xs.take j++[xs[j]]:=by rw[UP,Qt z];rfl
   refine⟨xs[j],B xs[j],r j z,G _ k,?_⟩;have u:=D _ k;cases q:p xs[j] with
   |true=>
    rw[q] at u;refine .inl ⟨m1,((xs.take (j+1)).filter p).map g,B xs[j],m1,u,?_,A _ k,rfl,rfl⟩;have v:(((xs.take j).filter p).map g).length<lim:=by
     rw[Qq];have:=length_filter_le p (xs.take j);rw[Rf] at this;omega
    erw[ic,F _ k q,R.bind];rw[Qn v,l,filter_append,QK];simp[q]
   |false=>
    rw[q] at u;refine .inr ⟨m1,u,A _ k,rfl,?_⟩;rw[l,filter_append];simp[q]) (fun Z1 m1 a h=>by rw[h.2.1];exact L) xs.length 0 Z m [] 'o' ⟨J,rfl,by simp⟩
 subst I H;exact⟨ρ',by rw[K,take_length]⟩
theorem comp_map{g:W->W}(h:∀x∈xs,ao C e (Z.set i (some x)) m=.ok (g x) m)(q:xs.length<=lim) :
  ∃ρ',ck (Src.get (.tup xs)) (.var i) (fun Z m=>bD C .nil Z m) (fun Z m a=>gZ C (.elt e) Z m a) xs.length 0 Z m []=.ok (xs.map g,ρ') m:=by
 let⟨ρ',k⟩:=k7 (C:=C) (get:=Src.get (.tup xs)) (t:=.var i) (ifs:=.nil) (e:=e) (Z:=Z) (m:=m) (xs:=xs) (B:=λ x=>Z.set i (some x)) (p:=λ _=>true) (g:=g) (λ j r=>aW r) (aN 'o') (λ x _=>by erw[aD]) (λ x _ y _=>by erw[aD,Tc]) (λ x _=>by erw[cy]) (λ x l _=>h x l) q;rw[k6] at k;exact⟨ρ',k⟩
theorem AS{g:Nat->W}(h:∀j,j<n->ao C e (Z.set i @(.int j)) m=.ok (g j) m)(u:n<=lim) :
  ∃ρ',ck (Src.get (.rng 0 n)) (.var i) (fun Z m=>bD C .nil Z m) (fun Z m l=>gZ C (.elt e) Z m l) n 0 Z m []=.ok ((List.range n).map g,ρ') m:=by
 have a:((List.range n).map λ j=>W.int (j:Nat)).length=n:=by simp
 let⟨ρ',q⟩:=k7 (C:=C) (get:=Src.get (.rng 0 n)) (t:=.var i) (ifs:=.nil) (e:=e) (Z:=Z) (m:=m) (xs:=(List.range n).map λ j=>W.int (j:Nat)) (B:=λ x=>Z.set i (some x)) (p:=λ _=>true) (g:=λ w=>match w with | .int j=>g j.toNat | _=>.non)
  (λ j k=>by rw[aV (~~~k)];simp) (aR 's') (λ x _=>by erw[aD]) (λ x _ y _=>by erw[aD,Tc]) (λ x _=>by erw[cy]) (λ x r _=>by
   let⟨j,k,rfl⟩:=QB.mp r;have:=h j (Q7.mp k);simpa using this) (by rw[a];exact u)
 rw[a,k6] at q;refine⟨ρ',q.trans ?_⟩;simp[Sg]
theorem jx(h:aP m w=some xs):∃s,srcOf m w=some s/\(∀i,s.get m i=Src.get (.tup xs) m i)/\s.len m=xs.length:=by
 cases w with
 |tup a=>erw[aP] at h;cases h;exact⟨.tup xs,rfl,λ _=>rfl,rfl⟩
 |fz a=>erw[aP,getL] at h;cases h;exact⟨.tup xs,rfl,λ _=>rfl,rfl⟩
 |ref n=>
  erw[aP,getL] at h;split at h
  .ext a e;cases h;exact⟨.lst n,by simp[srcOf,getL,e],λ i=>qj e i,by simp[Src.len,getL,e]⟩
  .cases h
 |_=>simp[aP,getL] at h
theorem aK(h:getL m w=some xs):aP m w=some xs:=by
 cases w with
 |tup a=>cases h
 |_=>exact h
theorem yd{r:W}(g:f ws m=.ok r m)(j:aC ws=true->f ws []=.ok r [])(a:aQ r=true):aU f ws m=.ok r m:=by
 cases h:aC ws with
 |true=>exact dP h (j h) a
 |false=>rw[bf h,g]
theorem ye(h:aQ w=true):aP [] w=aP m w:=by
 cases w with
 |ref n=>simp[aQ] at h
 |_=>rfl
theorem bz(h:aP m w=some xs):aY .len [w] m=.ok (.int xs.length) m:=by
 cases w with
 |str z=>simp[aP,getL] at h
 |_=>erw[aY,h]
theorem k8{xs:List α}(h:i<xs.length):L2.uY xs (i:Int)=some xs[i]:=by
 have g:(0:Int)<=i:=by omega
 have a:(i:Int)<xs.length:=by omega
 erw[L2.uY,L2.yu,g,a,Qx,Option.bind_some,RC,Qt h]
theorem bH(h:aP m w=some xs)(hi:i<xs.length):aT w (.int i) m=.ok xs[i] m:=by
 cases w with
 |str z=>simp[aP,getL] at h
 |_=>erw[aT,h,k8 hi]
theorem mO(h:aP m w=some xs):∃s,kC w m=.ok s m/\(∀i,s.get m i=Src.get (.tup xs) m i)/\s.len m=xs.length:=by
 let⟨s,j,g,a⟩:=jx h;refine⟨s,?_,g,a⟩;have:nE m w=some s:=by
  cases w with
  |str z=>simp[aP,getL] at h
  |_=>exact j
 erw[kC,this]
theorem iz{l:Mem}(h:aP m w=some xs):aP (m++l) w=some xs:=by
 cases w with
 |ref n=>
  erw[aP,getL] at h ⊢;split at h
  .ext a e;rw[Qh (Qc.mp e).1,e];exact h
  .cases h
 |_=>exact h
theorem k9{b:Bool}(a:br C e Z m=(ao C e Z m).bind λ w m=>D.truthy m w)(h:ao C e Z m=.ok (.bl b) m1):br C e Z m=.ok b m1:=by rw[a,h];rfl
theorem bO(f:Nat)(es:Es):ao (Cn p n) (.call f es) Z m=(bh (Cn p n) es Z m).bind λ ws m=>aU (D.runN p n f) ws m:=rfl
theorem mP(o:E)(f:Str)(es:Es):ao (Cn p n) (.mth o f es) Z m=(ao (Cn p n) o Z m).bind λ x m=>match vg p.cs x f m with
  |some i=>(bh (Cn p n) es Z m).bind λ ws m=>aU (D.runN p n i) (x::ws) m
  |none=>.no:=rfl
theorem mQ(a:E)(f:Str):ao (Cn p n) (.fld a f) Z m=(ao (Cn p n) a Z m).bind λ x m=>vf p.cs x f m:=rfl
end D
end
section
namespace D
open PySem PySem.Spec PyProof.Rows L2 List
variable{C:Addr}{h:Heap}{i:Nat}{mg:Str->Option Value}{o:Option (Option Value)}{α:Type}
abbrev Tb:Type:=Str×Stmt
def Tb.x(t:Tb):Str:=match t.2 with
 |.FunctionDef n _ _ _ _ _ _ _ _ _=>n
 |_=>""
def Tb.ps(t:Tb):List Str:=(iF t.2).args.map (·.arg)
def Tb.nm(t:Tb):List (Str×NameKind):=(aI t.2).names
def Tb.N(t:Tb):List Str:=
 let a:=t.ps++(t.nm.filter λ p=>(p.2==.local||p.2==.cell)&&!t.ps.contains p.1).map (·.1)
 a++((aI t.2).more.filterMap λ p=>if p.1=("fast":Str) then (match p.2 with
  |.str x=>some x
  |_=>none) else none).filter λ x=>!a.contains x
def Lm:ScopeKind->Bool
 |.function=>true
 |_=>false
def Tb.sc(t:Tb):Bool:=Lm (aI t.2).kind&&!(aI t.2).isCoroutine&&!(aI t.2).isGenerator&&decide t.N.Nodup&&t.N.take t.ps.length==t.ps&&t.ps.all (λ x=>t.nm.lookup x==some .local||t.nm.lookup x==some .cell)&&t.nm.all λ y=>y.2 != .free
section
variable(K:ae)(p:Pg)(fns:List (Str×(Nat×Nat)))(gl:List (Str×W))(fz:List Pos)(T:List Tb)
def Tb.a(t:Tb):Addr:=match (if t.1=("":Str) then PySem.W.nsIn K mainGlobals t.x else PySem.W.findIn K (.ref (aj K t.1)) t.x) with
 |some (some (.ref f))=>f
 |_=>0
def Tb.get(t:Tb)(f:FuncData->α)(d:α):α:=match K.lookup (t.a K) with
 |some o=>match o.data with
  |.func g=>f g
  |_=>d
 |none=>d
def Tb.fd(t:Tb):FuncData:=PySem.W.fnOf t.x (t.get K (·.qualname) "") (iF t.2) (cK t.2) (aI t.2) .none .none .none (t.get K (·.pyModule) .none) none (t.get K (·.code) .none) .none
def AU(o:Option (Option Value))(f:Addr):Bool:=match o with
 |some (some (.ref g))=>g==f
 |_=>false
def HS(o:Option (Option Value)):Bool:=match o with
 |some none=>true
 |_=>false
def isA(o:Option (Option Value)):Bool:=match o with
 |some (some (.builtin b))=>b=="object.__setattr__"
 |_=>false
def Ov(o:Option (Option Value))(w:W):Bool:=match o with
 |some (some (.int i _))=>(match w with
  |.int j=>i==j
  |_=>false)
 |some (some (.str i _))=>(match w with
  |.str j=>i==j
  |_=>false)
 |_=>false
def Ln(C:Addr):Bool:=PySem.W.plainGet K C Str.empty&&PySem.W.hasDictIn K C&&PySem.W.plainOver K C&&isA (PySem.W.findIn K (.ref C) "__setattr__")
def IC(o:Option (Option Value))(s:String):Bool:=match o with
 |some (some (.builtin x))=>x==s
 |_=>false
def HU(C:Addr):Bool:=Ln K C&&IC (PySem.W.findIn K (.ref C) "__class__") "object.__class__"&&IC (PySem.W.specialIn K (.builtin "object.__class__") "__get__") "getset_descriptor.__get__"&&PySem.W.takesIn K (.builtin "object.__class__")==some true&&PySem.W.mroIn K C (.type "object")==some true
def HV:Value->Tok
 |.int _ t=>t
 |.str _ t=>t
 |_=>0
def Pc(w:W)(t:Tok):Value:=match w with
 |.int i=>.int i t
 |.str x=>.str x t
 |_=>.none
def vV:W->V
 |.int i=>.int i
 |.str x=>.str x
 |_=>.non
def NH:W->Bool
 |.int _=>true
 |.str _=>true
 |_=>false
def NI(x:Str):Array DictEntry×Nat:=match K.lookup (aj K x) with
 |some o=>match o.data with
  |.dict a n=>(a,n)
  |_=>(#[],0)
 |none=>(#[],0)
def sy(P:Params):List (Str×W)->List DictEntry->List DictEntry
 |kv::r,e::es=>⟨PyData.keyHash P kv.1,.str kv.1 (HV e.key),Pc kv.2 (HV e.val)⟩::sy P r es
 |_,_=>[]
def Lo(P:Params)(y:Str×List (Str×W)):Obj:=⟨.type "dict",none,.dict (sy P y.2 (NI K y.1).1.toList).toArray (NI K y.1).2,#[]⟩
def Lp(i:Nat)(x:Str)(q:Tb->Bool):Bool:=match T[i]? with
 |some t=>t.x==x&&q t
 |none=>false
def HW(C:Addr):Bool:=match K.lookup C with
 |some o=>match o.data with
  |.cls cd=>o.cls==.type "type"&&cd.mro.head?==some (.ref C)&&decide (o.slots.toList.length=6)&&o.slots.toList[4]?==some @(.builtin "ValueError.__new__")&&!cd.hasDel&&cd.hasDict&&PySem.W.tailIn K VE cd.mro.tail&&PySem.W.nsOkIn K cd.ns&&PySem.W.keepIn K (.ref C)&&isA (PySem.W.findIn K (.ref C) "__setattr__")
  |_=>false
 |none=>false
def vW(C:Addr):Option (Option Value):=match PySem.W.clsIn K C with
 |some cd=>PySem.W.nsIn K cd.ns "__init__"
 |none=>none
def DA(C:Addr):List Value:=match PySem.W.clsIn K C with
 |some cd=>cd.mro.tail
 |none=>[]
def AV(t:Tb)(f:Str):Bool:=match cK t.2 with
 | [.Assign [.Attribute (.Name s _) g _] (.Name v _) _]=>t.ps==[s,v]&&t.N==[s,v]&&g==f&&!special s&&!special v
 |_=>false
def Ow(y:Str×Option Str):Bool:=HW K (aj K y.1)&&AU (PySem.W.nsIn K mainGlobals y.1) (aj K y.1)&&IC (PySem.W.findIn K (.ref (aj K y.1)) "__getattribute__") "BaseException.__getattribute__"&&HS (PySem.W.findIn K (.ref (aj K y.1)) "__getattr__")&&IC (PySem.W.findIn K (.ref (aj K y.1)) "__class__") "object.__class__"&&match y.2 with
 |none=>vW K (aj K y.1)==some none
 |some f=>T.any λ t=>AU (vW K (aj K y.1)) (t.a K)&&PySem.W.typeIn K (.ref (t.a K))==some (.type "function")&&HS (PySem.W.findIn K (.ref (aj K y.1)) f)&&AV t f
def Lq:Bool:=p.z.fn.all (λ y=>fns.lookup y.1==some y.2)&&p.z.ini.all (λ y=>p.cs.ini.lookup y.1==some y.2)&&p.z.cls.all (Ow K T) &&
 (p.z.cls.all λ y=>((p.z.sub.lookup y.1).getD []).all λ c=>(p.z.cls.lookup c).isSome&&(Value.ref (aj K c)::DA K (aj K c)).contains (.ref (aj K y.1))) &&
 p.z.sub.all λ y=>(if y.1="ValueError" then HS (PySem.W.nsIn K mainGlobals y.1) else AU (PySem.W.nsIn K mainGlobals y.1) (aj K y.1))&&p.z.cls.all λ d=>PySem.W.kitOne K (.ref (aj K d.1)) (qS K y.1)==@(y.2.contains d.1)
def ID:Bool:=
 Lq K p fns T &&
 (mj.all λ x=>HS (PySem.W.nsIn K mainGlobals x))&&(gl.all λ y=>Ov (PySem.W.nsIn K mainGlobals y.1) y.2
 ) &&
 (fns.all λ y=>Lp T y.2.1 y.1 λ t=>t.ps.length==y.2.2&&AU (PySem.W.nsIn K mainGlobals y.1) (t.a K)) &&
 (p.cs.mths.all λ y=>Ln K (aj K y.1.1)&&Lp T y.2 y.1.2 λ t=>AU (PySem.W.findIn K (.ref (aj K y.1.1)) y.1.2) (t.a K)&&PySem.W.isFn K (.ref (t.a K))) &&
 (p.cs.ini.all λ y=>PySem.W.makesIn K (aj K y.1)&&PySem.W.keepIn K (.ref (aj K y.1))&&AU (PySem.W.nsIn K mainGlobals y.1) (aj K y.1)&&Lp T y.2 "__init__" λ t=>AU (PySem.W.findIn K (.ref (aj K y.1)) "__init__") (t.a K)&&PySem.W.isFn K (.ref (t.a K))) &&
 (p.cs.flds.all λ y=>Ln K (aj K y.1)&&HS (PySem.W.findIn K (.ref (aj K y.1)) y.2)) &&
 (p.cs.dic.all λ y=>AU (PySem.W.nsIn K mainGlobals y.1) (aj K y.1)&&y.2.all (λ b=>NH b.2)&&y.2.length==(NI K y.1).1.toList.length&&!(aj K y.1==sysModules)) &&
 (p.cs.isc.all λ x=>AU (PySem.W.nsIn K mainGlobals x) (aj K x)&&HU K (aj K x)) &&
 T.all λ t=>PySem.W.keepIn K (.ref (t.a K))&&PySem.W.codeIn K (t.fd K).code (t.fd K).qualname
structure Stat:Prop where
 c:T.map (λ t=>(sW (cB p ⟨t.N,t.nm,fns,gl,p.cs,fz⟩) (cK t.2)).map (Fn.mk t.ps.length t.N.length))=p.fns.map some
 s:T.all Tb.sc=true
 b:T.map (λ t q pm cd (f:Nat->Value)=>bindArgs (PySem.W.fnOf t.x q (iF t.2) (cK t.2) (aI t.2) .none .none .none pm none cd .none) ⟨(List.range t.ps.length).map f,[]⟩)=T.map λ t q pm cd f=>pure (t.ps.zip ((List.range t.ps.length).map f))
end
variable{K:ae}{p:Pg}{fns:List (Str×(Nat×Nat))}{gl:List (Str×W)}{fz:List Pos}{T:List Tb}
theorem uF{J:Type}{f g:α->J}{l:List α}(h:l.map f=l.map g){x:α}(a:l[i]?=some x):f x=g x:=by
 have e:=RU (λ l=>l[i]?) h;simpa[a] using e
theorem fN{f:Addr}(h:AU o f=true):o=some @(.ref f):=by
 unfold AU at h;split at h
 .rw[eq_of_beq h]
 .cases h
theorem mR(h:HS o=true):o=some none:=by
 unfold HS at h;split at h
 .rfl
 .cases h
theorem AW(h:isA o=true):o=some @(.builtin "object.__setattr__"):=by
 unfold isA at h;split at h
 .rw[eq_of_beq h]
 .cases h
theorem uG(h:Ln K C=true):yt K C:=by
 erw[Ln,Qe] at h;exact⟨h.1.1.1,h.1.1.2,h.1.2,AW h.2⟩
theorem qk{s:String}(h:IC o s=true):o=some @(.builtin s):=by
 unfold IC at h;split at h
 .rw[eq_of_beq h]
 .cases h
theorem DB(h:HU K C=true):GS K C:=by
 erw[HU,Qe] at h;exact⟨uG h.1.1.1.1,qk h.1.1.1.2,qk h.1.1.2,eq_of_beq h.1.2,eq_of_beq h.2⟩
theorem ql{x:Str}{q:Tb->Bool}(h:Lp T i x q=true):∃t,T[i]?=some t/\t.x=x/\q t=true:=by
 unfold Lp at h;split at h
 .ext t e;rw[Qe] at h;exact⟨t,e,eq_of_beq h.1,h.2⟩
 .cases h
theorem AX(us:List Value):(List.range us.length).map (λ i=>us.getD i .none)=us:=by
 apply Uz
 .simp
 .intro i b a;simp[List.getD,a]
theorem ER(S:Stat p fns gl fz T){t:Tb}(a:T[i]?=some t){us:List Value}(c:us.length=t.ps.length):bindArgs (t.fd K) ⟨us,[]⟩=pure (t.ps.zip us):=by
 have z:=congrFun (congrFun (congrFun (congrFun (uF S.b a) (t.get K (·.qualname) "")) (t.get K (·.pyModule) .none)) (t.get K (·.code) .none)) (λ i=>us.getD i .none);rw[<-c,AX] at z;exact z
theorem ES(S:Stat p fns gl fz T)(j:T.map (λ t=>(K.lookup (t.a K)).map Obj.data)=T.map λ t=>some (.func (t.fd K)))(g:T.all (λ t=>PySem.W.keepIn K (.ref (t.a K))&&PySem.W.codeIn K (t.fd K).code (t.fd K).qualname)=true)
 {t:Tb} (b:T[i]?=some t):(∃q,D6 K t.x q t.2 (t.a K) (t.fd K))/\gC t.N t.ps (aI t.2)/\Binds K (t.fd K) t.ps []:=by
 have c:=QW b;have k:=Ri.mp g t c;rw[Qe] at k;have e:=uF j b;rw[P9] at e;let⟨o,m,l⟩:=e;let⟨u,r,v,d⟩:=o;cases l;have F:=Gg (st:=t.2) m k.2 k.1;have s:=Ri.mp S.s t c;erw[Tb.sc,Qe,Q0,QE,So,Tj,Q6,bne_iff_ne] at s;refine⟨⟨_,F⟩,⟨?_,s.1.1.1.1.1.2,s.1.1.1.1.2,s.1.1.1.2,s.1.1.2,s.1.2,s.2⟩,Binds.all λ n f=>?_⟩
 .have z:=s.1.1.1.1.1.1;unfold Lm at z;split at z
  .assumption
  .cases z
 .exact ER S b f
theorem vX(S:Stat p fns gl fz T)(m:T.map (λ t=>(K.lookup (t.a K)).map Obj.data)=T.map λ t=>some (.func (t.fd K)))(k:T.all (λ t=>PySem.W.keepIn K (.ref (t.a K))&&PySem.W.codeIn K (t.fd K).code (t.fd K).qualname)=true)
 {t:Tb} (e:T[i]?=some t):FD K p fns gl fz i t.x (t.a K) (t.fd K) t.ps:=by
 let⟨⟨q,F⟩,j,s⟩:=ES S m k e;have c:(sW (cB p ⟨t.N,t.nm,fns,gl,p.cs,fz⟩) (cK t.2)).map (Fn.mk t.ps.length t.N.length)=p.fns[i]?:=by
  have z:=RU (λ l=>l[i]?) S.c;erw[S1,e,R8] at z;cases f:p.fns[i]? with
  |none=>rw[f] at z;cases z
  |some d=>rw[f] at z;exact QN z
 have g:i<p.fns.length:=by
  have z:=RU List.length S.c;erw[Qq] at z;have:=(Qc.mp e).1;omega
 rw[Qt g,P9] at c;let⟨b,r,n⟩:=c;exact⟨q,t.2,t.N,b,F,j,r,by rw[Qt g,<-n],s⟩
theorem sA{P:Params}:∀(a:List (Str×W)) (es:List DictEntry),PySem.W.KeysLit P (sy P a es)
 | [],_=>by unfold sy;rw[S5];trivial
 |_::_,[]=>by unfold sy;rw[S5];trivial
 |kv::r,e::es=>by
  unfold sy;rw[S5];exact⟨⟨_,_,rfl,rfl⟩,sA r es⟩
theorem sC{P:Params}{x:Str}:∀(a:List (Str×W)) (es:List DictEntry),a.length=es.length->a.all (λ b=>NH b.2)=true->fQ ((a.map λ b=>(b.1,vV b.2)).lookup x) (((sy P a es).find? λ e=>Value.isStrOf x e.key).map (·.val))
 | [],[],_,_=>trivial
 | [],_::_,h,_=>by simp at h
 |_::_,[],h,_=>by simp at h
 |(k,w)::r,e::es,h,hc=>by
  rw[UO,Qe] at hc;have d:=sC (P:=P) (x:=x) r es (~~~h) hc.2;unfold sy;rw[QF,Qs,SN];have j:Value.isStrOf x (Value.str k (HV e.key))=(k==x):=rfl;erw[j]
  by_cases c:k=x
  .subst c;erw[BEq.rfl,R8];cases w<;>first | exact⟨_,rfl⟩ | cases hc.1
  .have g:(x==k)=false:=by simpa using λ e=>c e.symm
   have f:(k==x)=false:=by simpa using c
   rw[g,f];exact d
theorem ET{J:List Addr}{H:Hp}:∀(a:List (Str×W)),a.all (λ b=>NH b.2)=true->gm K J H a (a.map λ b=>(b.1,vV b.2))
 | [],_=>.nil
 |(k,w)::r,hc=>by
  rw[UO,Qe] at hc;refine .cons ?_ (ET r hc.2);cases w<;>first | exact .int _ | exact .str _ | cases hc.1
theorem Lr{w:World}(n:p.cs.dic.map (λ y=>K.lookup (aj K y.1))=p.cs.dic.map λ y=>some (Lo K w.params y))(X:K.In h)(G:h.Ns mainGlobals mg)(S:Stat p fns gl fz T)(m:T.map (λ t=>(K.lookup (t.a K)).map Obj.data)=T.map λ t=>some (.func (t.fd K)))(v:ID K p fns gl T=true):FA K w mg p fns gl fz:=by
 erw[ID,Qe] at v;let⟨⟨⟨⟨⟨⟨⟨⟨l,L⟩,I⟩,F⟩,E⟩,D⟩,B⟩,A⟩,k⟩:=v;replace l:=l.2;have k:T.all (λ t=>PySem.W.keepIn K (.ref (t.a K))&&PySem.W.codeIn K (t.fd K).code (t.fd K).qualname)=true:=k;rw[So] at l L I F E D B A;have P:∀{i:Nat} {t:Tb},T[i]?=some t->PySem.W.keepIn K (.ref (t.a K))=true:=λ Q=>(Ql.mp (Ri.mp k _ (QW Q))).1;refine⟨λ x b=>PySem.W.mg_none_of X G (mR (l x b)),λ {x w} b=>?_,λ {x i np} b=>?_,λ {c x i} b=>?_,λ {c i} b=>?_,λ {c x} b=>?_,λ {x f} b=>?_,λ {x} b=>?_⟩
 .have z:=L _ (lookup_mem b);unfold Ov at z;split at z
  .ext i t e;split at z
   .ext j q;cases q;cases eq_of_beq z;exact⟨_,.int _,RG X G e,⟨_,rfl⟩,λ _ _=>.int _⟩
   .cases z
  .ext i t e;split at z
   .ext j q;cases q;cases eq_of_beq z;exact⟨_,.str _,RG X G e,⟨_,rfl⟩,λ _ _=>.str _⟩
   .cases z
  .cases z
 .let⟨t,g,rfl,d⟩:=ql (I _ (lookup_mem b));rw[Qe] at d;exact⟨t.a K,_,t.ps,eq_of_beq d.1,vX S m k g,RG X G (fN d.2)⟩
 .have z:=F _ (se b);rw[Qe] at z;let⟨t,g,rfl,d⟩:=ql z.2;rw[Qe] at d;exact⟨t.a K,_,t.ps,vX S m k g,uG z.1,fN d.1,d.2,P g⟩
 .have z:=E _ (lookup_mem b);erw[Qe] at z;let⟨t,g,U,d⟩:=ql z.2;rw[Qe] at d;exact⟨t.a K,_,t.ps,U▸vX S m k g,⟨z.1.1.1,fN d.1,d.2,z.1.1.2⟩,RG X G (fN z.1.2)⟩
 .have z:=D _ (Sb.mp b);rw[Qe] at z;exact⟨uG z.1,mR z.2⟩
 .have u:=lookup_mem b;have z:=B _ u;erw[Qe,Q6,Q0] at z;let⟨⟨⟨O,r⟩,N⟩,M⟩:=z;let⟨i,R⟩:=Uq u;have e:=uF n R;refine⟨aj K x,f.map λ s=>(s.1,vV s.2),RG X G (fN O),⟨⟨_,_,e,?_,λ y=>?_⟩,M⟩,fun J H=>ET f r⟩
  .exact sA _ _
  .unfold findBy;rw[find?_toArray];exact sC f _ N r
 .have z:=A _ (Sb.mp b);rw[Qe] at z;exact⟨RG X G (fN z.1),DB z.2⟩
theorem DC{l:List α}{a:α}(h:l.head?=some a):l=a::l.tail:=by
 cases l with
 |nil=>cases h
 |cons b r=>cases h;rfl
theorem vY{i:Option Value}(h:HW K C=true)(hi:vW K C=some i):XC K C (DA K C) i:=by
 unfold HW at h;split at h
 .ext o A;let⟨oc,V,da,⟨v⟩⟩:=o;dsimp only at h;split at h
  .ext Y;let⟨z,E,f,y,w,hd,u,a,F,c,U⟩:=Y;erw[Qe,Q6,QE,Q0] at h;let⟨⟨⟨⟨⟨⟨⟨⟨⟨R,Q⟩,P⟩,D⟩,O⟩,N⟩,M⟩,d⟩,L⟩,J⟩:=h;subst R O N;have I:PySem.W.clsIn K C=some ⟨z,E,f,y,w,true,u,a,F,c,false⟩:=by unfold PySem.W.clsIn;rw[A]
   unfold vW at hi;unfold DA;rw[I] at hi ⊢;dsimp only at hi ⊢;obtain⟨m,l,k,j,g,rfl⟩:∃m l k j g,v=[m,l,k,j,@(.builtin "ValueError.__new__"),g]:=by
    rcases v with _ | ⟨a0,_ | ⟨a1,_ | ⟨a2,_ | ⟨a3,_ | ⟨a4,_ | ⟨Z,_ | ⟨a6,r⟩⟩⟩⟩⟩⟩⟩<;>simp at P;erw[getElem?_cons_succ,getElem?_cons_zero,Option.some.injEq] at D;exact⟨a0,a1,a2,a3,Z,by rw[D]⟩
   unfold PySem.W.nsOkIn at d;split at d
   .ext c' d' s G yr B;have H:StrKeys s:=λ e b=>by
     have q:=Array.all_eq_true_iff_forall_mem.mp d e b;split at q
     .ext n t S;exact⟨n,t,S⟩
     .cases q
    refine⟨⟨z,w,y,E,u,a,F,c,V,m,l,k,j,g,"ValueError","ValueError.__new__",_,_,λ x=>nsFind s x,?_,Sn,by decide +kernel,?_,λ h X=>⟨⟨_,s,G,X _ _ B,rfl,H,λ _=>rfl⟩,PySem.W.tail_of_in X M⟩⟩,AW J,L⟩
    .rw[A,DC Q];rfl
    .unfold PySem.W.nsIn at hi;rw[B] at hi;dsimp only at hi;unfold nsFind findBy;dsimp only;rw[<-Array.find?_toList];split at hi
     .ext e b;rw[b];exact QN hi
     .ext b;split at hi
      .cases hi
      .rw[b];exact QN hi
   .cases d
  .cases h
 .cases h
theorem Ls(X:K.In h)(G:h.Ns mainGlobals mg)(S:Stat p fns gl fz T)(B:T.map (λ t=>(K.lookup (t.a K)).map Obj.data)=T.map λ t=>some (.func (t.fd K)))(l:ID K p fns gl T=true):FZ K mg p fns:=by
 erw[ID,Qe] at l;let⟨⟨⟨⟨⟨⟨⟨⟨D,c2⟩,c3⟩,c4⟩,c5⟩,c6⟩,c8⟩,c9⟩,O⟩:=l;replace D:=D.1;have O:T.all (λ t=>PySem.W.keepIn K (.ref (t.a K))&&PySem.W.codeIn K (t.fd K).code (t.fd K).qualname)=true:=O;erw[Lq,Qe] at D;let⟨⟨⟨⟨V,U⟩,R⟩,Q⟩,E⟩:=D;rw[So] at V U R Q E;have N:∀{y:Str×Option Str},y∈p.z.cls->∃i,XC K (aj K y.1) (DA K (aj K y.1)) i/\XG K (aj K y.1)/\PySem.W.nsIn K mainGlobals y.1=some @(.ref (aj K y.1))/\(y.2=none->i=none)/\∀f,y.2=some f->∃t,t∈T/\i=some (.ref (t.a K))/\PySem.W.typeIn K (.ref (t.a K))=some (.type "function")/\PySem.W.findIn K (.ref (aj K y.1)) f=some none/\AV t f=true:=λ {y} hy=>by
  have q:=R _ hy;unfold Ow at q;erw[Qe] at q;let⟨⟨⟨⟨⟨A,u⟩,r⟩,J⟩,I⟩,b⟩:=q;have m:XG K (aj K y.1):=⟨qk r,mR J,qk I⟩;split at b
  .ext e;exact⟨none,vY A (eq_of_beq b),m,fN u,λ _=>rfl,λ f B=>by rw[e] at B;cases B⟩
  .ext f e;let⟨t,L,n⟩:=List.any_eq_true.mp b;erw[Qe,Q6] at n;refine⟨some (.ref (t.a K)),vY A (fN n.1.1.1),m,fN u,λ z=>(by rw[e] at z;cases z),λ g hg=>?_⟩;rw[e] at hg;cases hg;exact⟨t,L,rfl,n.1.1.2,mR n.1.2,n.2⟩
 refine⟨λ {x v} d=>?_,λ {x i} d=>?_,λ {x M} d=>?_,λ {x M cs} d hs c l=>?_,λ {t cs} hs=>⟨?_,λ {c M} l=>?_⟩,λ {c M} hm=>?_⟩
 .exact eq_of_beq (V _ (lookup_mem d))
 .exact eq_of_beq (U _ (lookup_mem d))
 .let⟨i,k,m,A,u,r⟩:=N (lookup_mem d);refine⟨RG X G A,λ e=>⟨_,u e▸k⟩,λ f e=>?_⟩;let⟨t,L,rfl,J,I,b⟩:=r f e;let⟨j,hj⟩:=Uq L;let⟨⟨qn,F⟩,H,bd⟩:=ES S B O hj;unfold AV at b;split at b
  .ext s p1 g p2 v p3 p4 e1;erw[Qe,Q6,Q0] at b;let⟨⟨⟨⟨Y,y2⟩,y3⟩,y4⟩,y5⟩:=b;subst y3;rw[Y,y2] at H;let⟨a1,a2,_⟩:=bQ y4;let⟨b1,b2,_⟩:=bQ y5;have Z:∀x∈[s,v],DU (aI t.2) x:=λ x d=>(H.par x d).elim .inl λ z=>.inr (.inl z);refine⟨_,t.a K,t.fd K,[s,v],k,J,λ P w base=>?_,by rw[<-Y];exact bd,rfl⟩;exact CK F H e1 k I (Z s (.head _)) (Z v (.tail _ (.head _))) a1 a2 b1 b2 λ env=>jt rfl
  .cases b
 .have q:=Q _ (lookup_mem d);dsimp only at q;rw[hs,Option.getD_some] at q;have q:=Ri.mp q c (Sb.mp l);rw[Qe] at q;let⟨fo',e⟩:=RS.mp q.1;let⟨i,k,_⟩:=N (lookup_mem e);exact⟨_,i,k,q.2⟩
 .have q:=(Ql.mp (E _ (lookup_mem hs))).1;dsimp only at q;unfold qS;split at q
  .ext e;rw[Qn e,e];exact .inr ⟨PySem.W.mg_none_of X G (mR (e▸q)),by decide +kernel⟩
  .ext e;rw[Qu e];exact .inl (RG X G (fN q))
 .exact eq_of_beq (Ri.mp (Ql.mp (E _ (lookup_mem hs))).2 _ (lookup_mem l))
 .let⟨i,k,m,_,u,r⟩:=N hm;exact⟨_,i,k,m,λ f e=>let ⟨_,_,_,_,q,_⟩:=r f e;q⟩
theorem Lu{l:PySem.W.OpenLaw}{w:World}{k:Addr}{x:Str}{t:Tb}(X:K.In h)(G:h.Ns mainGlobals mg)(u:mg "law"=@(.ref k))(S:Stat p fns gl fz T)(hi:fns.lookup ("law":Str)=some (i,1))(d:T[i]?=some t)(c:t.ps=[x])
  (e:T.map (λ t=>(K.lookup (t.a K)).map Obj.data)=T.map λ t=>some (.func (t.fd K))) (g:ID K p fns gl T=true) (f:p.cs.dic.map (λ y=>K.lookup (aj K y.1))=p.cs.dic.map λ y=>some (Lo K w.params y)) :
  ∃j:FuncData,(∀(s:Shared) (v:Value),BindsTo s j ⟨[v],[]⟩ [(x,v)])/\∀base:Heap,K.In base->base.Ns mainGlobals mg->cg l.prog w K mg base (yv l.prog w) 81 k j [x] (vq K ⟨l.prog,w⟩ 1 (runN p 40 i)):=by
 have b:=g;erw[ID,Qe] at b;let⟨⟨⟨⟨⟨⟨⟨⟨L,J⟩,r⟩,I⟩,H⟩,F⟩,E⟩,D⟩,q⟩:=b;let⟨A,n,B,m⟩:=ql (Ri.mp r _ (lookup_mem hi));cases d.symm.trans n;rw[Qe] at m;cases u.symm.trans (RG X G (fN m.2));have z:=vX S e q d;rw[c] at z;refine⟨t.fd K,λ s v=>.of_eq ?_,λ base _ _=>sound (Lr f X G S e g)
  (Ls X G S e g)
  40 z⟩
 have z:=ER (K:=K) S d (us:=[v]) (by rw[c];rfl);rw[c] at z;exact z
end D
end
section
namespace D
open PySem List
variable{m:Mem}{n:Nat}
abbrev d9(A B:Int):O:=.lst [.int A,.int B]
def jG(m:Mem)(p:Nat):Prop:=∃A B,m[p]?=@(d9 A B)
def PS(p:Nat)(m a:Mem):Prop:=∃A B,a=m.set p (d9 A B)
section
variable{m m' Ox:Mem}{p q:Nat}
theorem jG.refl(h:jG m p):PS p m m:=let ⟨A,B,e⟩:=h;⟨A,B,(set_same e).symm⟩
theorem PS.trans(h:PS p m m')(h':PS p m' Ox):PS p m Ox:=by
 let⟨A,B,rfl⟩:=h;let⟨b,a,rfl⟩:=h';exact⟨b,a,by rw[Tc]⟩
theorem PS.len(h:PS p m m'):m'.length=m.length:=by let⟨A,B,rfl⟩:=h;simp
theorem PS.d9(h:PS p m m')(a:jG m p):jG m' p:=by
 let⟨A,B,rfl⟩:=h;let⟨c,b,e⟩:=a;exact⟨A,B,QG (Qc.mp e).1⟩
theorem PS.cm(h:PS p m m')(a:Cm m):Cm m':=by let⟨A,B,rfl⟩:=h;exact a.set rfl
theorem PS.ne(h:PS p m m')(a:p≠q):m'[q]?=m[q]?:=by let⟨A,B,rfl⟩:=h;exact QA a
theorem jG.lt(h:jG m p):p<m.length:=let ⟨_,_,e⟩:=h;(Qc.mp e).1
theorem jG.app{l:Mem}(h:jG m p):jG (m++l) p:=let ⟨A,B,e⟩:=h;⟨A,B,by rw[Qh (Qc.mp e).1];exact e⟩
end
def Draws(f:List W->Mem->R W):Prop:=∀{m:Mem} {p:Nat} {a:Int},jG m p->0<a->a<1073741824->∃d b,f [.ref p,.int a] m=.ok (.int d) b/\PS p m b/\0<=d/\d<a
theorem mS{C:Cx}{f:Nat}{get:Mem->Nat->Nx}{i:Nat}{e:E}{Z:Loc}{p:Nat}{P:W->Prop}(s:jG m p)(v:∀m j,j<n->∃x,get m j=.it x)(z:∀m,get m n=.fin)(F:n<=lim)
  (A:∀x m1,PS p m m1->∃w m2,ao C e (Z.set i (some x)) m1=.ok w m2/\PS p m1 m2/\P w) :
  ∃ws ρ' c,ck get (.var i) (fun Z m=>bD C .nil Z m) (fun Z m a=>gZ C (.elt e) Z m a) n 0 Z m []=.ok (ws,ρ') c/\PS p m c/\ws.length=n/\∀w∈ws,P w:=by
 let⟨a,ρ',c,k,l,d,h,g⟩:=cz (get:=get) (t:=.var i) (test:=fun Z m=>bD C .nil Z m) (body:=fun Z m a=>gZ C (.elt e) Z m a) (n:=n)
  (λ j q m1 a=>(∀o,q.set i o=Z.set i o)/\PS p m m1/\a.length=j/\∀w∈a,P w) (λ j q m1 a u=>by
   rintro⟨l,d,h,g⟩;let⟨x,r⟩:=v m1 j u;let⟨w,m2,k,D,B⟩:=A x m1 d;refine⟨x,Z.set i (some x),r,by erw[aD,l],.inl ⟨m1,a++[w],Z.set i (some x),m2,by erw[cy],?_,λ o=>by simp,d.trans D,by simp[h],λ y b=>?_⟩⟩
   .have:a.length<lim:=by omega
    erw[ic,k,R.bind,this,Qx]
   .rcases Qz.mp b with b | b
    .exact g y b
    .rw[QV] at b;subst b;exact B) (fun Z m a _=>z m) n 0 Z m [] 'o' ⟨λ _=>rfl,s.refl,rfl,by simp⟩
 exact⟨a,ρ',c,k,d,h,g⟩
theorem uH(x:Str)(h:1<=x.cps.size):Txt.slice x (some 1) none=⟨(x.cps.toList.drop 1).toArray⟩:=by
 show PySem.StrLaws.sliceText x (some 1) none=_;rw[PySem.StrLaws.sliceText_from ⟨by omega,by simp;omega⟩];simp;exact S3 's'
theorem oS{b:Type}[DecidableEq b]:∀{l k:List b},l.Nodup->(∀x∈l,x∈k)->l.length<=k.length
 | [],_,_,_=>RB _
 |x::l,k,hn,h=>by
  have d:=h x QM;have a:=SH.mp hn;have:=oS (l:=l) (k:=k.erase x) a.2 λ y c=>(mem_erase_of_ne (λ z=>by subst z;exact a.1 c)).mpr (h y (QC _ c));rw[length_erase_of_mem d] at this;have:0<k.length:=length_pos_of_mem d;simp;omega
theorem jy{z:Str}(h:z.cps.all (· < 0x110000)=true):toD (n+1) m (.str z)=some (.str z):=by erw[toD,h,Qx]
theorem eS:∀{ws:List Str},(∀z∈ws,z.cps.all (· < 0x110000)=true)->dJ (toD (n+1) m) (ws.map .str)=@(ws.map PyData.str)
 | [],_=>rfl
 |z::r,h=>by
  erw[QF,dJ,jy (h z QM),eS λ y a=>h y (QC _ a)]
theorem vZ(a b:Str):PyData.eqv (.str a) (.str b)=decide (a=b):=by
 erw[PyData.eqv]
 by_cases h:a=b<;>simp[h]
theorem sD{z:Str}{ws:List Str}(a:z.cps.all (· < 0x110000)=true)(hw:∀z∈ws,z.cps.all (· < 0x110000)=true):ku m (.str z) (ws.map .str)=.ok (decide (z∈ws)) m:=by
 erw[ku,jy a,eS hw];congr 1;rw[Uk]
 induction ws with
 |nil=>simp
 |cons y r b=>
  have:=b λ z a=>hw z (QC _ a);erw[Sz,Function.comp,vZ,RI] at this ⊢;rw[this]
  by_cases h:z=y
  .subst h;simp
  .have c:¬y=z:=λ e=>h e.symm;simp[h,c]
theorem gq{k:Nat}:∀ns:List Int,dJ (toD (k+1) m) (ns.map .int)=@(ns.map PyData.int)
 | []=>rfl
 |a::r=>by erw[QF,dJ,gq r];rfl
theorem jz{b J:Type}{f:W->Option J}{g:b->W}{h:b->J}:∀{xs:List b},(∀a∈xs,f (g a)=@(h a))->dJ f (xs.map g)=@(xs.map h)
 | [],_=>rfl
 |a::r,c=>by erw[QF,dJ,c a QM,jz λ x d=>c x (QC _ d)]
theorem wc{x y:W}{d:PyData}(a:toD 60 m x=some d)(b:toD 60 m y=some d):vd m x y=.ok true m:=by
 erw[vd,a,b,PySem.SeqAt.eqv_refl d (cL _ a).1]
end D
end
section
namespace My
open PySem L2 D List
def DE:Ss:=%[.ife (.or (.not (.call 1 %[|@3])) (.cmp .In @3 @1)) %[|.ret @2] .nil,|.expr (.meth @1 "add" %[|@3])]
def b0:Ss:=%[.asg (.pt @1) .nB,.for_ (.tup %[@2,|@3]) (.enm @0) DE,|.ret (.cst .non)]
def b1:Ss:=%[|.ret (.and (.chain .LtE .LtE @(1) (.blt .len %[|@0]) @(8)) (.blt .all %[|.frz (.comp (.gen @1 [1] @0 .nil (.elt (.chain .LtE .LtE (.cst (.str "a")) @1 (.cst (.str "z"))))))]))]
def b2:Ss:=%[.xc .drop .none 7 %[@1,@2,@3,@4,|@5],.fas @0 "key_list" (.frz (.blt .list %[|@1])),.fas @0 "state_list" (.frz (.blt .list %[|@2])),.fas @0 "lamp_list" (.frz (.blt .list %[|@3])),.fas @0 "row_list" (.frz (.comp (.gen @6 [6] @4 .nil (.elt (.blt .tuple %[|@6]))))),|.fas @0 "light_list" (.frz (.blt .list %[|@5]))]
def b3:Ss:=%[|.ret (.frz (.blt .list %[|.fld @0 "state_list"]))]
def b4:Ss:=%[|.ret (.frz (.blt .list %[|.fld @0 "lamp_list"]))]
def b5:Ss:=%[|.ret (.idx (.fld @0 "light_list") @1)]
def b6:Ss:=%[|.ret (.bin .LShift @(1) (.blt .len %[|@0]))]
def b7:Ss:=%[.asg (.pt @5) (.call 0 %[|.frz (.bin .Add (.bin .Add @0 @1) @2)]),.ife (.cmp .IsNot @5 (.cst .non)) %[|.rais "NoTable" (.some "fault") (.tup %[.cst (.str "words"),|@5])] .nil,.xc .drop .none 8 %[@0,@1,|@2],.xc .drop .none 9 %[.cst (.str "row"),@3,.blt .len %[|@1],.call 6 %[|@0],|.blt .len %[|@1]],.xc .drop .none 9 %[.cst (.str "lights"),@4,.blt .len %[|@1],.blt .len %[|@2],|@(2)],|.xc .drop .none 10 %[|@3]]
def b8:Ss:=%[.ife (.cmp .Gt (.blt .len %[|@0]) @(2)) %[|.rais "NoTable" (.some "fault") (.tup %[.cst (.str "many"),|@(0)])] .nil,.ife (.not (.chain .LtE .LtE @(2) (.blt .len %[|@1]) @(4))) %[|.rais "NoTable" (.some "fault") (.tup %[.cst (.str "many"),|@(1)])] .nil,|.ife (.cmp .Gt (.blt .len %[|@2]) @(2)) %[|.rais "NoTable" (.some "fault") (.tup %[.cst (.str "many"),|@(2)])] .nil]
def DF:Ss:=%[|.ife (.or (.cmp .GtE @5 (.blt .len %[|@1])) (.or (.cmp .NotEq (.blt .len %[|.idx @1 @5]) @3) (.not (.blt .all %[|.frz (.comp (.gen @6 [6] (.idx @1 @5) .nil (.elt (.chain .LtE .Lt @(0) @6 @4))))])))) %[|.rais "NoTable" (.some "fault") (.tup %[@0,|@5])] .nil]
def b9:Ss:=%[.for_ @5 (.rng @2) DF,|.ife (.cmp .Gt (.blt .len %[|@1]) @2) %[|.rais "NoTable" (.some "fault") (.tup %[@0,|@2])] .nil]
def we:Ss:=%[|.ife (.blt .any %[|.frz (.comp (.gen (.tup %[@3,|@4]) [3,4] (.enm @2) .nil (.elt (.cmp .NotEq (.idx (.idx @0 @4) @3) @4))))]) %[|.rais "NoTable" (.some "fault") (.tup %[.cst (.str "unsettled"),|@1])] .nil]
def L5:Ss:=%[|.for_ (.tup %[@1,|@2]) (.enm @0) we]
def L6:Ss:=%[.asg (.pt @2) (.ife (.cmp .Lt @1 (.blt .len %[|@0])) (.idx @0 @1) @(0)),|.ret (.lst %[.blt .max %[@(0),|.bin .Sub (.blt .abs %[|@2]) (.bin .Pow @(10) @(18))],|.bin .Add (.bin .Add (.bin .Mod (.blt .abs %[|@2]) @(2147483587)) (.bin .Mult @(31) @1)) @(5)])]
def NJ:Ss:=%[.ife (.cmp .Gt (.idx @0 @(0)) @(0)) %[.asg (.tup %[.sub @0 @(0),|.pt @2]) (.blt .divmod %[.idx @0 @(0),|@1]),|.ret @2] .nil,.asg (.sub @0 @(1)) (.bin .Mod (.bin .Add (.bin .Mult (.idx @0 @(1)) @(48271)) @(3571)) @(2147483647)),|.ret (.bin .Mod (.bin .FloorDiv (.bin .Mod (.bin .Mult (.idx @0 @(1)) (.idx @0 @(1))) @(2147483629)) @(13)) @1)]
def sE:Ss:=%[|.ife (.cmp .In @3 @1) %[|.asg (.pt @3) (.bin .Add (.idx @2 (.bin .Mod (.bin .Add (.meth @2 "index" %[|.idx @3 @(0)]) @(1)) @(26))) (.slc @3 (.some @(1)) .none))] .nil]
def L7:Ss:=%[.asg (.pt @2) (.cst (.str "abcdefghijklmnopqrstuvwxyz")),.asg (.pt @3) (.meth (.cst (.str "")) "join" %[|.frz (.comp (.gen @5 [5] (.rng (.bin .Add @(1) (.call 12 %[@0,|@(8)]))) .nil (.elt (.idx @2 (.call 12 %[@0,|@(26)])))))]),.for_ @4 (.rng @(26)) sE,.expr (.meth @1 "append" %[|@3]),|.ret @3]
def L8:Ss:=%[|.ret (.frz (.comp (.gen @3 [3] (.rng @1) .nil (.elt (.call 13 %[@0,|@2])))))]
def wg:Ss:=%[|.expr (.meth (.idx @4 @3) "append" %[|.ife (.cmp .In @3 @6) @3 (.idx @6 (.call 12 %[@0,|.blt .len %[|@6]]))])]
def AY:Ss:=%[.asg (.pt @6) (.frz (.comp (.gen @3 [3] (.rng @1) %[|.cmp .Eq (.call 12 %[@0,|@(2)]) @(1)] (.elt @3)))),.ife (.cmp .Eq @6 (.frz (.lst .nil))) %[|.asg (.pt @6) (.frz (.lst %[|.call 12 %[@0,|@1]]))] .nil,|.for_ @3 (.rng @1) wg]
def Ma:Ss:=%[.asg (.pt @4) (.comp (.gen @3 [3] (.rng @1) .nil (.elt (.lst .nil)))),.for_ @5 (.rng @2) AY,|.ret @4]
def Mb:Ss:=%[.asg (.pt @1) (.lst .nil),.asg (.pt @2) (.frz (.call 14 %[@0,.call 12 %[@0,|@(3)],|@1])),.asg (.pt @3) (.frz (.call 14 %[@0,.bin .Add @(2) (.call 12 %[@0,|@(3)]),|@1])),.asg (.pt @4) (.frz (.call 14 %[@0,.call 12 %[@0,|@(3)],|@1])),.asg (.pt @5) (.frz (.call 15 %[@0,.blt .len %[|@3],|.bin .LShift @(1) (.blt .len %[|@2])])),|.ret (.frz (.lst %[@2,@3,@4,@5,|.frz (.comp (.gen @6 [6] @3 .nil (.elt (.blt .tuple %[|.frz (.comp (.gen @7 [7] @4 .nil (.elt (.call 12 %[@0,|@(2)]))))]))))]))]
def Mc:Ss:=%[|.ret (.lst %[.blt .list %[|.idx @0 @(0)],.blt .list %[|.idx @0 @(1)],.blt .list %[|.idx @0 @(2)],.comp (.gen @1 [1] (.idx @0 @(3)) .nil (.elt (.blt .list %[|@1]))),|.blt .list %[|.idx @0 @(4)]])]
def Me:Ss:=%[|.ret (.and (.chain .LtE .LtE @(1) (.blt .len %[|@0]) @(8)) (.blt .all %[|.frz (.comp (.gen @1 [1] @0 .nil (.elt (.cmp .In @1 (.cst (.str "abcdefghijklmnopqrstuvwxyz"))))))]))]
def wj:Ss:=%[|.ife (.or (.cmp .GtE @4 (.blt .len %[|@1])) (.or (.cmp .NotEq (.blt .len %[|.idx @1 @4]) @2) (.blt .any %[|.frz (.comp (.gen @5 [5] (.idx @1 @4) .nil (.elt (.not (.chain .LtE .Lt @(0) @5 @3)))))]))) %[|.ret @4] .nil]
def Mf:Ss:=%[.for_ @4 (.rng @0) wj,|.ret (.ife (.cmp .Gt (.blt .len %[|@1]) @0) @0 (.cst .non))]
def oU:Ss:=%[|.ife (.or (.not (.call 18 %[|@8])) (.cmp .In @8 (.frz (.slc @6 .none (.some @7))))) %[|.ret (.tup %[.cst (.str "words"),|@7])] .nil]
def jA:Ss:=%[|.ife (.not (.chain .LtE .LtE @9 (.blt .len %[|.idx @0 @7]) @10)) %[|.ret (.tup %[.cst (.str "many"),|@7])] .nil]
def mT:Ss:=%[.asg (.pt @14) (.call 19 %[.blt .len %[|@2],@11,@12,|@13]),|.ife (.cmp .IsNot @14 (.cst .non)) %[|.ret (.tup %[@8,|@14])] .nil]
def wk:Ss:=%[|.ife (.blt .any %[|.frz (.comp (.gen (.tup %[@16,|@17]) [16,17] (.enm @15) .nil (.elt (.cmp .NotEq (.idx (.idx @4 @17) @16) @17))))]) %[|.ret (.tup %[.cst (.str "unsettled"),|@14])] .nil]
def Mg:Ss:=%[.asg (.tup %[.pt @1,.pt @2,.pt @3,.pt @4,|.pt @5]) @0,.asg (.pt @6) (.frz (.bin .Add (.frz (.bin .Add @1 @2)) @3)),.for_ (.tup %[@7,|@8]) (.enm @6) oU,.for_ (.tup %[@7,@9,|@10]) (.frz (.lst %[.tup %[@(0),@(0),|@(2)],.tup %[@(1),@(2),|@(4)],|.tup %[@(2),@(0),|@(2)]])) jA,.for_ (.tup %[@8,@11,@12,|@13]) (.frz (.lst %[.tup %[.cst (.str "row"),@4,.bin .LShift @(1) (.blt .len %[|@1]),|.blt .len %[|@2]],|.tup %[.cst (.str "lights"),@5,.blt .len %[|@3],|@(2)]])) mT,.for_ (.tup %[@14,|@15]) (.enm @4) wk,|.ret (.cst .non)]
def HX:Ss:=%[.asg (.pt @1) (.cst .non),.tr %[|.xc .drop (.some "Table") 2 %[.idx @0 @(0),.idx @0 @(1),.idx @0 @(2),.idx @0 @(3),|.idx @0 @(4)]] ["NoTable","RelayError"] (.some 2) %[.asg (.pt @1) (.cst (.str "another")),.asg (.pt @3) (.fus (.isx [("NoTable",false),("RelayError",false)]) @2),.asg (.pt @4) (.fus (.isx [("NoTable",false),("RelayError",false)]) @2),|.ife (.and (.fus (.isx [("NoTable",true),("RelayError",false)]) @2) (.and (.fus (.isx [("NoTable",true),("RelayError",true)]) @2) (.and (.not @3) (.not @4)))) %[|.asg (.pt @1) (.fus (.xfl "fault" ["NoTable"]) @2)] .nil],|.ret @1]
def wm:Ss:=%[|.expr (.meth @5 "extend" %[|.comp (.gen @7 [7] (.rng (.blt .len %[|.idx @0 @6])) .nil (.elt (.tup %[@6,|@7])))])]
def Mh:Ss:=%[.asg (.pt @5) (.lst .nil),.for_ @6 (.rng @(3)) wm,.asg (.tup %[.pt @6,|.pt @7]) (.idx @5 (.bin .Mod @2 (.blt .len %[|@5]))),.asg (.pt @8) (.idx (.idx @0 @6) @7),.asg (.pt @9) (.idx @5 (.bin .Mod @3 (.blt .len %[|@5]))),.asg (.pt @10) (.ife (.cmp .NotEq @8 (.cst (.str ""))) (.bin .Mod @4 (.blt .len %[|@8])) @(0)),.asg (.pt @11) (.idx (.cst (.str "AZ09_ -.;")) (.bin .Mod @3 @(9))),|.asg (.sub (.idx @0 @6) @7) (.idx (.frz (.lst %[.bin .Add (.bin .Add (.slc @8 .none (.some @10)) @11) (.slc @8 (.some (.bin .Add @10 @(1))) .none),.cst (.str ""),.slc (.bin .Add @8 (.cst (.str "abcdefghi"))) .none (.some @(9)),|.idx (.idx @0 (.idx @9 @(0))) (.idx @9 @(1))])) @1)]
def wu:Ss:=%[|.expr (.meth @4 "insert" %[.bin .Mod @2 (.bin .Add (.blt .len %[|@4]) @(1)),|.bin .Add (.idx (.cst (.str "abcdefghijklm")) (.bin .Mod (.bin .Add @3 @5) @(13))) (.cst (.str "zz"))])]
def HY:Ss:=%[.asg (.pt @4) (.idx @0 (.bin .Mod @1 @(3))),.ife (.cmp .Eq @1 @(3)) %[.asg (.sub @0 @(1)) (.slc (.idx @0 @(1)) .none (.some (.bin .Mod @2 @(2)))),|.asg (.pt @4) (.lst .nil)] .nil,|.for_ @5 (.rng (.bin .Sub (.idx (.frz (.lst %[@(3),@(5),@(3),|@(0)])) @1) (.blt .len %[|@4]))) wu]
def DG:Ss:=%[.asg (.pt @5) (.idx @0 @(3)),.asg (.pt @6) (.ife (.cmp .NotEq @5 (.frz (.lst .nil))) (.bin .Mod @2 (.blt .len %[|@5])) @(0)),.ife (.and (.cmp .Eq @1 @(0)) (.cmp .NotEq @5 (.frz (.lst .nil)))) %[|.expr (.meth @5 "pop" %[|@6])] .nil,.ife (.cmp .Eq @1 @(1)) %[|.expr (.meth @5 "insert" %[@6,|.ife (.cmp .NotEq @5 (.frz (.lst .nil))) (.blt .list %[|.idx @5 @(0)]) (.lst %[|@(0)])])] .nil,|.ife (.and (.cmp .Gt @1 @(1)) (.and (.cmp .NotEq @5 (.frz (.lst .nil))) (.cmp .NotEq (.idx @5 @6) (.frz (.lst .nil))))) %[.asg (.pt @7) (.bin .Mod @3 (.blt .len %[|.idx @5 @6])),.ife (.cmp .Eq @1 @(2)) %[|.expr (.meth (.idx @5 @6) "pop" %[|@7])] .nil,.ife (.cmp .Eq @1 @(3)) %[|.expr (.meth (.idx @5 @6) "insert" %[@7,|@(0)])] .nil,|.ife (.cmp .Gt @1 @(3)) %[|.asg (.sub (.idx @5 @6) @7) (.idx (.frz (.lst %[.neg @(1),.blt .len %[|.idx @0 @(1)],.bin .Pow @(10) @(30),|.bin .Mod @4 (.blt .max %[@(1),|.blt .len %[|.idx @0 @(1)]])])) (.blt .min %[@(3),|.bin .Sub @1 @(4)]))] .nil] .nil]
def EU:Ss:=%[.asg (.pt @4) (.idx @0 @(4)),.asg (.pt @5) (.ife (.cmp .NotEq @4 (.frz (.lst .nil))) (.bin .Mod @2 (.blt .len %[|@4])) @(0)),.ife (.and (.cmp .Eq @1 @(0)) (.cmp .NotEq @4 (.frz (.lst .nil)))) %[|.expr (.meth @4 "pop" %[|@5])] .nil,.ife (.cmp .Eq @1 @(1)) %[|.expr (.meth @4 "insert" %[@5,|.ife (.cmp .NotEq @4 (.frz (.lst .nil))) (.idx @4 @(0)) (.tup .nil)])] .nil,|.ife (.and (.cmp .Gt @1 @(1)) (.cmp .NotEq @4 (.frz (.lst .nil)))) %[.asg (.pt @6) (.idx @4 @5),.asg (.pt @7) (.bin .Mod @3 (.bin .Add (.blt .len %[|@6]) @(1))),.asg (.pt @8) (.idx (.frz (.lst %[.tup .nil,.tup %[|@(1)],.tup %[|@(2)],|.tup %[|.neg @(1)]])) (.bin .Sub @1 @(2))),|.asg (.sub @4 @5) (.bin .Add (.bin .Add (.slc @6 .none (.some @7)) @8) (.slc @6 (.some (.bin .Add @7 (.blt .int %[|.cmp .NotEq @1 @(3)]))) .none))] .nil]
def EV:Ss:=%[.asg (.tup %[.pt @2,.pt @3,.pt @4,|.pt @5]) @1,.ife (.and (.cmp .Lt @2 @(4)) (.cmp .NotEq (.frz (.bin .Add (.frz (.bin .Add (.idx @0 @(0)) (.idx @0 @(1)))) (.idx @0 @(2)))) (.frz (.lst .nil)))) %[|.expr (.call 22 %[@0,@2,@3,@4,|@5])] .nil,.ife (.chain .LtE .Lt @(4) @2 @(8)) %[|.expr (.call 23 %[@0,.bin .Sub @2 @(4),@3,|@4])] .nil,.ife (.chain .LtE .Lt @(8) @2 @(17)) %[|.expr (.call 24 %[@0,.bin .Sub @2 @(8),@3,@4,|@5])] .nil,|.ife (.cmp .GtE @2 @(17)) %[|.expr (.call 25 %[@0,.bin .Sub @2 @(17),@3,|@4])] .nil]
def wA:Ss:=%[|.expr (.meth @3 "append" %[|.tup %[.call 12 %[@2,|@(23)],.call 12 %[@2,|@(120)],.call 12 %[@2,|@(120)],|.call 12 %[@2,|@(120)]]])]
def wB:Ss:=%[|.expr (.call 26 %[@6,|@7])]
def wC:Ss:=%[.asg (.pt @2) (.call 11 %[@0,|@1]),.asg (.pt @3) (.lst .nil),.for_ @4 (.rng (.bin .Add @(1) (.call 12 %[@2,|@(3)]))) wA,.asg (.pt @5) (.frz (.call 16 %[|@2])),.asg (.pt @6) (.call 17 %[|@5]),.for_ @7 @3 wB,.asg (.pt @8) (.call 17 %[|@6]),.ife (.or (.cmp .NotEq (.call 21 %[|@8]) (.call 20 %[|@6])) (.cmp .NotEq @8 @6)) %[|.ret (.cst (.bl false))] .nil,|.ife (.or (.cmp .IsNot (.call 21 %[|@5]) (.cst .non)) (.cmp .NotEq (.call 21 %[|@8]) (.call 20 %[|@6]))) %[|.ret (.cst (.bl false))] .nil]
def Mi:Ss:=%[.for_ @1 (.rng (.blt .max %[@(1),|.blt .min %[.blt .len %[|@0],|@(3)]])) wC,|.ret (.cst (.bl true))]
def Pe:Ss:=%[|.fas @0 "fault" @1]
def fe(x:Str)(i n:Nat):Str×(Nat×Nat):=(x,(i,n))
def fns:List (Str×(Nat×Nat)):=[fe "first_wrong_word" 0 1,fe "is_word" 1 1,fe "count_letters" 6 1,fe "check_table" 7 5,fe "check_many" 8 3,fe "check_each" 9 5,fe "check_settled" 10 1,fe "_law_pot" 11 2,fe "_law_draw" 12 2,fe "_law_word" 13 2,fe "_law_words" 14 3,fe "_law_rows" 15 3,fe "_law_table" 16 1,fe "_law_copy" 17 1,fe "_law_is_word" 18 1,fe "_law_misfit" 19 4,fe "_law_fault" 20 1,fe "_law_outcome" 21 1,fe "_law_spoil_word" 22 5,fe "_law_spoil_many" 23 4,fe "_law_spoil_goals" 24 5,fe "_law_spoil_lights" 25 4,fe "_law_slip" 26 2,fe "law" 27 1]
def gl:List (Str×W):=[("MOST_SIGNS",(.int 8)),("MOST_KEYS",(.int 2)),("MOST_LAMPS",(.int 2)),("LEAST_STATES",(.int 2)),("MOST_STATES",(.int 4))]
def fz:List Pos:=[⟨47,48,47,85⟩,⟨55,24,55,34⟩,⟨56,26,56,38⟩,⟨57,25,57,36⟩,⟨58,24,58,52⟩,⟨59,26,59,38⟩,⟨65,15,65,36⟩,⟨68,15,68,35⟩,⟨81,29,81,50⟩,⟨97,63,97,106⟩,⟨103,15,103,59⟩,⟨117,29,117,126⟩,⟨120,43,120,55⟩,⟨124,11,124,80⟩,⟨128,20,128,95⟩,⟨129,24,129,26⟩,⟨130,24,130,61⟩,⟨136,16,136,82⟩,⟨137,18,137,88⟩,⟨138,17,138,83⟩,⟨139,21,139,84⟩,⟨140,11,140,157⟩,⟨140,64,140,156⟩,⟨140,71,140,128⟩,⟨144,44,144,114⟩,⟨147,82,147,154⟩,⟨152,22,152,45⟩,⟨152,22,152,58⟩,⟨154,65,154,89⟩,⟨156,41,156,74⟩,⟨159,60,159,169⟩,⟨164,15,164,108⟩,⟨187,32,187,182⟩,⟨193,24,193,36⟩,⟨197,64,197,66⟩,⟨198,46,198,48⟩,⟨201,84,201,86⟩,⟨202,45,202,47⟩,⟨202,80,202,82⟩,⟨209,50,209,119⟩,⟨212,58,212,60⟩,⟨213,43,213,45⟩,⟨216,69,216,71⟩,⟨217,42,217,44⟩,⟨220,19,220,42⟩,⟨224,27,224,54⟩,⟨224,27,224,69⟩,⟨224,73,224,75⟩,⟨238,20,238,45⟩]
def cs:Cs:=⟨[("Table","key_list"),("Table","state_list"),("Table","lamp_list"),("Table","row_list"),("Table","light_list")],[(("Table","states"),3),(("Table","lamps"),4),(("Table","lights"),5)],[("Table",2)],[],[]⟩
def zz:Cz:=⟨[fe "check_table" 7 5,fe "check_many" 8 3,fe "check_each" 9 5,fe "check_settled" 10 1],[("Table",2)],[("NoTable",some "fault"),("RelayError",none)],[("RelayError",["NoTable","RelayError"]),("NoNet",[]),("NoText",[]),("NoNames",[]),("NoName",[]),("NoPiece",[]),("NoPosition",[]),("NoState",[]),("NotResting",[]),("Raced",[]),("NotSure",[]),("NoTable",["NoTable"]),("ValueError",["NoTable","RelayError"])]⟩
def fuel:Nat:=1000
def pg:Pg:=⟨[⟨1,4,b0⟩,⟨1,2,b1⟩,⟨6,7,b2⟩,⟨1,1,b3⟩,⟨1,1,b4⟩,⟨2,2,b5⟩,⟨1,1,b6⟩,⟨5,6,b7⟩,⟨3,3,b8⟩,⟨5,7,b9⟩,⟨1,5,L5⟩,⟨2,3,L6⟩,⟨2,3,NJ⟩,⟨2,6,L7⟩,⟨3,4,L8⟩,⟨3,7,Ma⟩,⟨1,8,Mb⟩,⟨1,2,Mc⟩,⟨1,2,Me⟩,⟨4,6,Mf⟩,⟨1,18,Mg⟩,⟨1,5,HX⟩,⟨5,12,Mh⟩,⟨4,6,HY⟩,⟨5,8,DG⟩,⟨4,9,EU⟩,⟨2,6,EV⟩,⟨1,9,Mi⟩,⟨2,2,Pe⟩],cs,fuel,zz⟩
def tf(i:Nat):Tb:=("",top i)
def tm(c:Str)(i j:Nat):Tb:=(c,inClass (top i) j)
def NK:List Tb:=[tf 18,tf 19,tm "Table" 23 0,tm "Table" 23 2,tm "Table" 23 3,tm "Table" 23 6,tf 24,tf 25,tf 26,tf 27,tf 28,tf 30,tf 31,tf 32,tf 33,tf 34,tf 35,tf 36,tf 37,tf 38,tf 39,tf 40,tf 41,tf 42,tf 43,tf 44,tf 45,tf 46,tm "NoTable" 5 0]
theorem stat:Stat pg fns gl fz NK:=⟨by kernel_rfl,by kernel_rfl,by kernel_rfl⟩
end My
end
section
namespace My
open PySem D List
theorem nj{b:Type}{a:b}{l:List b}:(a::l)[0]?=some a:=rfl
theorem nk{b:Type}{a:b}{l:List b}{i:Nat}:(a::l)[i+1]?=l[i]?:=rfl
theorem nq{b:Type}{x a:b}{l:List b}:(x::l).set 0 a=a::l:=rfl
theorem nu{b:Type}{x a:b}{l:List b}{n:Nat}:(x::l).set (n+1) a=x::l.set n a:=rfl
variable{B' b c d i l' many mn n p tp width y:Nat}{C:Cx}{L:List (List Int)}{M l0 m m1:Mem}{P l1 l2:List (Nat×O)}{Q:List (Nat×List Int)}{bound:Int}{ds:List PyData}{ks ls ss ws:List Str}{EW rws xs ys:List W}{ns:List Int}{o:O}{o3 o4 o5 o6 o7 o8:Option W}{jB s w:W}{z:Str}{α:Type}{Z:D.Loc}
structure Wd(z:Str):Prop where
 lo:1<=z.cps.size
 hi:z.cps.size<=8
 az:∀c∈z.cps.toList,97<=c/\c<=122
theorem uI(z:Str):z.length=z.cps.size:=rfl
theorem Wd.asc(h:Wd z):L2.asc z=true:=by
 unfold L2.asc;rw[Sj];intro i a;have:=h.az z.cps[i] 's';simp;omega
theorem nI(h:aP m w=some xs)(g:xs.length<=1000):aU (D.runN pg (n+1) 6) [w] m=.ok (.int (2^xs.length:Nat)) m:=by
 have a:∀M,aP M w=some xs->D.runN pg (n+1) 6 [w] M=.ok (.int (2^xs.length:Nat)) M:=λ M h=>by
  refine cF (d:=⟨1,1,b6⟩) rfl rfl ?_;show aF _ b6 [some w] M=_;have f:(0:Int)<=xs.length/\(xs.length:Int)<=1000000/\(1:Int).natAbs<2^64:=⟨by omega,by omega,by decide⟩;rw[b6,aO (bR (w:=.int (2^xs.length:Nat)) (m1:=M) ?_)];erw[EWs,bz h,binop];rw[Qn f];simp
 exact yd (a m h) (λ e=>a [] (by rw[ye (m:=m) (by simpa[aC] using e)];exact h)) rfl
theorem jW{q:α->Bool}:∀xs:List α,bools (xs.map λ x=>W.bl (q x))=@(xs.map q)
 | []=>rfl
 |x::r=>by simp[bools,jW r]
section
variable{C:Cx}{t:T}{e it:E}{Z:D.Loc}{m:Mem}{xs:List W}{s:Src}{B:W->D.Loc}{js:List Nat}{q:W->Bool}
theorem EX(r:Cm m)(F:dw C it Z m=.ok s m)(v:∀j (h:j<xs.length),s.get m j=.it xs[j])(A:s.get m xs.length=.fin)(l:s.len m=xs.length)(u:xs.length<=lim)
  (H:∀x∈xs,aD t x (fY js Z)=@(B x)) (G:∀x∈xs,∀y∈xs,aD t y (B x)=@(B y)) (h:∀x∈xs,ao C e (B x) m=.ok (.bl (q x)) m) :
  ao C (.frz (.comp (.gen t js it .nil (.elt e)))) Z m=.ok (.fz (xs.map λ x=>.bl (q x))) m:=by
 let⟨f,a⟩:=k7 (C:=C) (get:=s.get) (t:=t) (ifs:=.nil) (e:=e) (Z:=fY js Z) (m:=m) (xs:=xs) (B:=B) (p:=λ _=>true) (g:=λ x=>.bl (q x)) v A H G (λ x _=>by erw[cy]) (λ x k _=>h x k) u;rw[k6,<-l] at a;exact bg (dS (js:=js) (ifs:=.nil) (g:=.elt e) F a) rfl r (ko (λ _=>rfl) _)
theorem all_gen(f:Cm m)(r:dw C it Z m=.ok s m)(k:∀j (h:j<xs.length),s.get m j=.it xs[j])(l:s.get m xs.length=.fin)(a:s.len m=xs.length)(g:xs.length<=lim)
  (v:∀x∈xs,aD t x (fY js Z)=@(B x)) (u:∀x∈xs,∀y∈xs,aD t y (B x)=@(B y)) (h:∀x∈xs,ao C e (B x) m=.ok (.bl (q x)) m) :
  ao C (.blt .all %[|.frz (.comp (.gen t js it .nil (.elt e)))]) Z m=.ok (.bl (xs.all q)) m:=by
 rw[bZ,au,EX f r k l a g v u h];erw[ay,aG,aY,getL,jW];rw[all_map];rfl
theorem any_gen(f:Cm m)(r:dw C it Z m=.ok s m)(k:∀j (h:j<xs.length),s.get m j=.it xs[j])(l:s.get m xs.length=.fin)(a:s.len m=xs.length)(g:xs.length<=lim)
  (v:∀x∈xs,aD t x (fY js Z)=@(B x)) (u:∀x∈xs,∀y∈xs,aD t y (B x)=@(B y)) (h:∀x∈xs,ao C e (B x) m=.ok (.bl (q x)) m) :
  ao C (.blt .any %[|.frz (.comp (.gen t js it .nil (.elt e)))]) Z m=.ok (.bl (xs.any q)) m:=by
 rw[bZ,au,EX f r k l a g v u h];erw[ay,aG,aY,getL,jW];rw[Uk];rfl
end
structure Rows(m:Mem)(w:W)(rws:List W)(R:List (List Int)):Prop where
 at_:getL m w=some rws
 len:rws.length=R.length
 row:∀(i:Nat) (h:i<rws.length) (h':i<R.length),aP m rws[i]=@(R[i].map .int)
theorem Rows.app{l:Mem}{R:List (List Int)}(h:Rows m w rws R):Rows (m++l) w rws R:=by
 refine⟨?_,h.len,λ i e a=>iz (h.row i e a)⟩;have:=iz (l:=l) (aK h.at_);cases w with
 |tup ys=>have:=h.at_;cases this
 |_=>exact this
def Goes(r:R F)(m:Mem):Option W->Prop
 |none=>∃Z,r=.ok (.nx Z) m
 |some w=>∃Z,r=.ok (.rz "NoTable" (some ("fault",w)) Z) m
def DH(bound x:Int):Bool:=decide (0<=x)&&decide (x<bound)
def eF(R:List (List Int))(width:Nat)(bound:Int)(s:Nat):Bool:=match R[s]? with
 |none=>true
 |some r=>r.length != width||!r.all (DH bound)
def bI(R:List (List Int))(many width:Nat)(bound:Int):Option Nat:=match iV (eF R width bound) many 0 with
 |some s=>some s
 |none=>if many<R.length then some many else none
abbrev gR(word:Str)(s:Nat):W:=.tup [.str word,.int s]
def yf:W->Int
 |.int i=>i
 |_=>0
theorem all_ints{q:Int->Bool}:((ns.map W.int).all λ w=>q (yf w))=ns.all q:=by rw[all_map];rfl
theorem HZ{a b:Int}:vd m (.int a) (.int b)=.ok (decide (a=b)) m:=by
 simp[vd,toD,PyData.eqv]
 by_cases h:a=b<;>simp[h]
theorem Oz{a:Nat}:vd m (.int a) (.int b)=.ok (decide (a=b)) m:=by rw[HZ,QZ.mpr (show (a:Int)=b↔a=b by omega)]
theorem iW{word:Str}{R:List (List Int)}(hm:Cm m)(h:Rows m jB rws R)(hb:many<=1000)(hw:∀r∈R,r.length<=lim) :
  Goes (D.dD pg (n+1) 9 [.str word,jB,.int many,.int width,.int bound] m) m ((bI R many width bound).map (gR word)):=by
 let L (o5 o6:Option W):D.Loc:=[@(.str word),some jB,@(.int many),@(.int width),@(.int bound),o5,o6]
 have J:=aK h.at_;have A:∀o5 o6,ao (Cn pg n) (.blt .len %[|@1]) (L o5 o6) m=.ok (.int R.length) m:=λ o5 o6=>by erw[L,EWs,bz J,h.len]
 have g:∀i o6,br (Cn pg n) (.or (.cmp .GtE @5 (.blt .len %[|@1])) (.or (.cmp .NotEq (.blt .len %[|.idx @1 @5]) @3) (.not (.blt .all %[|.frz (.comp (.gen @6 [6] (.idx @1 @5) .nil (.elt (.chain .LtE .Lt @(0) @6 @4))))])))) (L (some (.int (i:Nat))) o6) m=.ok (eF R width bound i) m:=λ i o6=>by
  unfold eF
  by_cases k:i<R.length
  .have l:i<rws.length:=by rw[h.len];exact k
   have K:=h.row i l k;let⟨s,s1,I,s3⟩:=mO K;have S:ao (Cn pg n) (.idx @1 @5) (L @(.int i) o6) m=.ok rws[i] m:=by erw[L,EWs,bH J l]
   have N:=all_gen (C:=Cn pg n) (m:=m) (t:=.var 6) (e:=.chain .LtE .Lt @(0) @6 @4) (it:=.idx @1 @5) (js:=[6]) (Z:=L @(.int i) o6) (xs:=R[i].map .int) (s:=s) (B:=λ x=>L @(.int i) (some x)) (q:=λ w=>DH bound (yf w)) hm (by rw[kg,S];exact s1) (λ j hj=>by rw[I,aW hj]) (by rw[I];exact aN 'o') s3
    (by rw[Qq];exact hw _ (QI k)) (λ x _=>by simp[L,fY,aD]) (λ x _ y _=>by simp[L,aD]) (λ x hx=>by
     let⟨z,hz,rfl⟩:=QB.mp hx;erw[L,EWs,aE,DH,yf]
     by_cases X:0<=z<;>by_cases V:z<bound<;>simp[X,V])
   rw[all_ints] at N;have t2:ao (Cn pg n) (.blt .len %[|.idx @1 @5]) (L @(.int i) o6) m=.ok (.int R[i].length) m:=by rw[bZ,au,S];erw[ay,aG,bz K,Qq]
   have Y:ao (Cn pg n) @3 (L @(.int i) o6) m=.ok (.int width) m:=rfl;have v:ao (Cn pg n) @5 (L @(.int i) o6) m=.ok (.int i) m:=rfl;have H:¬(R.length:Int)<=i:=by omega
   rw[Qt k];erw[fS,aX,dI,cJ,Y,v,ay,A,t2,N,aE,H,Oz,Uo,QJ,QY,D.truthy]
   by_cases z:R[i].length=width
   .simp[z]
   .simp[z]
  .rw[Sv 'o'];have H:(R.length:Int)<=i:=by omega
   have v:ao (Cn pg n) @5 (L @(.int i) o6) m=.ok (.int i) m:=rfl;erw[fS,aX,v,ay,A,aE,H,UA,Qx]
 have T:∀(e:E) (i:Nat) o5 o6,ao (Cn pg n) e (L o5 o6) m=.ok (.int i) m->aM (Cn pg n) (.rais "NoTable" (.some "fault") (.tup %[@0,|e])) (L o5 o6) m=.ok (.rz "NoTable" (some ("fault",gR word i)) (L o5 o6)) m:=λ e i o5 o6 he=>kZ (by
  have v0:ao (Cn pg n) @0 (L o5 o6) m=.ok (.str word) m:=rfl;erw[dY,au,aG,v0,he,ay];rw[Qn 'm'])
 have u:=fL (C:=Cn pg n) (t:=.var 5) (it:=.rng @2) (b:=DF) (Z:=L none none) (m:=m) (m1:=m) (s:=.rng 0 many) (n:=many) (kL (by erw[L,EWs]) 'o') rfl (eF R width bound)
  (λ i Z a=>a=m/\∃o5 o6,Z=L o5 o6) (λ i f a=>a=m/\∃Z,f=.rz "NoTable" (some ("fault",gR word i)) Z) (λ i f a ⟨_,Z,e⟩=>by rw[e];trivial) ⟨rfl,_,_,rfl⟩ (λ i Z a k=>by
   rintro⟨rfl,o5,o6,rfl⟩;refine⟨.int i,L @(.int i) o6,by rw[aV k];simp,by simp[L,aD],λ F=>?_,λ F=>?_⟩
   .have c:=g i o6;rw[F] at c;refine⟨_,_,?_,rfl,L @(.int i) o6,rfl⟩;rw[DF,bW];rw[cZ c,bW (T @5 i _ _ rfl)]
   .have c:=g i o6;rw[F] at c;refine⟨L @(.int i) o6,a,.inl ?_,rfl,_,_,rfl⟩;rw[DF,af (Z1:=L @(.int i) o6) (by rw[bN c,ai]),ai]) (fun Z m _=>aR 'o')
 rw[jw (d:=⟨5,7,b9⟩) rfl rfl];show Goes (aF _ b9 (L none none) m) m _;rw[b9];unfold bI;cases e:iV (eF R width bound) many 0 with
 |some i=>
  rw[e] at u;let⟨f,a,G,rfl,Z,rfl⟩:=u;exact⟨Z,bW G⟩
 |none=>
  rw[e] at u;let⟨U,a,G,rfl,o5,o6,rfl⟩:=u;rw[af G];have c:br (Cn pg n) (.cmp .Gt (.blt .len %[|@1]) @2) (L o5 o6) a=.ok (decide (many<R.length)) a:=by
   have v2:ao (Cn pg n) @2 (L o5 o6) a=.ok (.int many) a:=rfl;erw[aX,A,v2,ay,aE];simp
  by_cases z:many<R.length
  .rw[QS z] at c;erw[z,Qx];exact⟨_,bW (by rw[cZ c,bW (T @2 many _ _ rfl)])⟩
  .rw[QH z] at c;erw[z,QY];exact⟨_,by rw[af (Z1:=L o5 o6) (by rw[bN c,ai]),ai]⟩
theorem H8{l:List α}{a:Nat}{p q e f:α}(h:a≠b):((((l.set a p).set b q).set a e).set b f)=(l.set a e).set b f:=by
 rw[set_comm q e (Ne.symm h),Tc,Tc]
def mU(R:List (List Int))(s:Nat):Bool:=(List.range (R.getD s []).length).any λ x=>((R.getD ((R.getD s []).getD x 0).toNat []).getD x 0) != (R.getD s []).getD x 0
def H9(R:List (List Int))(w:Nat):Prop:=∀r∈R,r.length=w/\∀x∈r,0<=x/\x<(R.length:Int)
theorem kq{R:List (List Int)}(h:bI R many width bound=none):R.length=many/\∀r∈R,r.length=width/\∀x∈r,0<=x/\x<bound:=by
 unfold bI at h;split at h
 .cases h
 .ext e;split at h
  .cases h
  .ext k;have g:=su e;have j:R.length=many:=by
    rcases Tt R.length many with z | z
    .have:=g R.length (RB _) 'o';unfold eF at this;rw[Sv (Qf _)] at this;cases this
    .omega
   refine⟨j,λ r a=>?_⟩;let⟨i,f,rfl⟩:=Rj.mp a;have:=g i (RB _) 'o';unfold eF at this;rw[Qt f] at this;erw[Tf,bne_eq_false_iff_eq,Bool.not_eq_false',So,DH,Qe,QE] at this;exact this
theorem oV{R:List (List Int)}(e:R.length=many)(a:∀r∈R,r.length=width/\∀x∈r,0<=x/\x<bound):bI R many width bound=none:=by
 unfold bI;rw[kY]
 .simp[e]
 .intro j _ h;unfold eF;rw[Qt 'o'];let⟨g,f⟩:=a _ (QI (show j<R.length by omega));erw[g,bne_self_eq_false,UG,Bool.not_eq_false',So,DH,Qe,QE];exact f
theorem sF{a r w:Nat}{R:List (List Int)}{wd:Nat}(hm:Cm m)(h:Rows m jB rws R)(H:H9 R wd)(hl:wd<=lim)(hi:i<rws.length)(ha:a<Z.length)(hb:b<Z.length)(F:a≠b)(har:a≠r)(T:a≠w)(PV:b≠r)(S:b≠w)
  (h1:Z[r]?=@(some rws[i])) (h2:Z[w]?=@(some jB)) :
  ao C (.blt .any %[|.frz (.comp (.gen (.tup %[.var a,|.var b]) [a,b] (.enm (.var r)) .nil (.elt (.cmp .NotEq (.idx (.idx (.var w) (.var b)) (.var a)) (.var b)))))]) Z m=.ok (.bl (mU R i)) m:=by
 have f:i<R.length:=by rw[<-h.len];exact hi
 let⟨u,u1,I,u3⟩:=jx (h.row i hi f);have A:R[i].length<=lim:=by rw[(H _ (QI f)).1];exact hl
 have e:=any_gen (C:=C) (t:=.tup %[.var a,|.var b]) (e:=.cmp .NotEq (.idx (.idx (.var w) (.var b)) (.var a)) (.var b)) (it:=.enm (.var r)) (js:=[a,b]) (Z:=Z) (m:=m) (s:=.enm u)
  (xs:=(List.range R[i].length).map λ (x:Nat)=>W.tup [.int (x:Int),.int (R[i].getD x 0)]) (B:=λ x=>match x with | .tup [p,q]=>((fY [a,b] Z).set a (some p)).set b (some q) | _=>[])
  (q:=λ x=>match x with | .tup [.int j,.int v]=>((R.getD v.toNat []).getD j.toNat 0) != v | _=>false) hm (by erw[ki,bu,h1,ay,u1])
  (λ j g=>by
   have E:j<R[i].length:=by simpa using g
   rw[fM (w:=.int R[i][j]) (by rw[I,aW (~~~E)];simp)];simp[List.getD,E])
  (by rw[dZ (by rw[I];exact aN 's')]) (by erw[Src.len,u3];simp) (~~~A)
  (λ x l=>by let⟨j,_,rfl⟩:=QB.mp l;simp[aD,cC])
  (λ x l y hy=>by let⟨j,_,rfl⟩:=QB.mp l;let⟨j',_,rfl⟩:=QB.mp hy;erw[aD,cC,H8 F])
  (λ x l=>by
   let⟨j,g,rfl⟩:=QB.mp l;have g:=Q7.mp g;have e0:R[i].getD j 0=R[i][j]:=by simp[List.getD,g]
   let⟨V,U⟩:=(H _ (QI f)).2 R[i][j] (QI g);let⟨k,N⟩:=Int.eq_ofNat_of_zero_le V;rw[e0,N];rw[N] at U;have G:k<R.length:=by omega
   have K:k<rws.length:=by rw[h.len];exact G
   have J:j<R[k].length:=by rw[(H _ (QI G)).1,<-(H _ (QI f)).1];exact g
   have g2:=h.row k K G;have va:(((fY [a,b] Z).set a @(W.int j)).set b @(W.int k))[a]?=some @(.int j):=by
    rw[QA (Ne.symm F),QG (by simp[fY];exact ha)]
   have Y:(((fY [a,b] Z).set a @(W.int j)).set b @(W.int k))[b]?=some @(.int k):=by
    rw[QG (by simp[fY];exact hb)]
   have X:(((fY [a,b] Z).set a @(W.int j)).set b @(W.int k))[w]?=some (some jB):=by
    rw[QA S,QA T];erw[fY];rw[QA S,QA T,h2]
   have e4:=bH (i:=j) g2 (~~~J);erw[fV,bU,bu,va,Y,X,ay,bH (aK h.at_) K,e4,aE,Rk,HZ];have e5:R.getD (k:Int).toNat []=R[k]:=by simp[List.getD,G]
   have e6:R[k].getD (j:Int).toNat 0=R[k][j]:=by simp[List.getD,J]
   rw[e5,e6]
   by_cases z:R[k][j]=(k:Int)<;>simp[z])
 rw[e,Uk];unfold mU;have e7:R.getD i []=R[i]:=by simp[List.getD,f]
 rw[e7];rfl
theorem jX{R:List (List Int)}{wd:Nat}(H:Cm m)(h:Rows m w rws R)(K:H9 R wd)(I:wd<=lim):Goes (D.dD pg (n+1) 10 [w] m) m ((iV (mU R) R.length 0).map (gR "unsettled")):=by
 let⟨s,F,A,E⟩:=jx (aK h.at_);have k:=fL (C:=Cn pg n) (t:=.tup %[@1,|@2]) (it:=.enm @0) (b:=we) (Z:=[some w,none,none,none,none]) (m:=m) (m1:=m) (s:=.enm s) (n:=R.length) (by erw[jj,kg,lT,lU,qY,qZ,q8,q9,rj,rm,rq,jk,lV,ki,rA,bu,bB,cH,ji,gk,fk,jN,fV,bY,bT,dY,cY,bU,fy,gF,bZ,gO,bG,eE,dG,j9,dM,kc,dN,gG,iU,EWs,F]) (by erw[Src.len,E,h.len]) (mU R)
  (λ i Z g=>g=m/\∃u l,Z=[some w,u,l,none,none]) (λ i f g=>g=m/\∃Z,f=.rz "NoTable" (some ("fault",gR "unsettled" i)) Z) (λ i f g ⟨_,Z,e⟩=>by rw[e];trivial) ⟨rfl,_,_,rfl⟩ (λ i Z g J=>by
   rintro⟨rfl,u,l,rfl⟩;have j:i<rws.length:=by rw[h.len];exact J
   have c:=sF (C:=Cn pg n) (a:=3) (b:=4) (r:=2) (w:=0) (Z:=[some w,@(.int i),some rws[i],none,none]) H h K I j 's' 's' 'd' 'd' 'd' 'd' 'd' rfl rfl;refine⟨.tup [.int i,rws[i]],[some w,@(.int i),some rws[i],none,none],?_,by simp[aD,cC],λ v=>?_,λ v=>?_⟩
   .rw[fM (w:=rws[i])];rw[A,aW j]
   .rw[v] at c;refine⟨_,_,?_,rfl,[some w,@(.int i),some rws[i],none,none],rfl⟩;have G:ao (Cn pg n) (.tup %[.cst (.str "unsettled"),|@1]) [some w,@(.int i),some rws[i],none,none] g=.ok (gR "unsettled" i) g:=by
     erw[EWs];rw[Qn 'm']
    rw[we,bW];rw[cZ (k9 (cJ _ _) c),bW (kZ G)]
   .rw[v] at c;refine⟨[some w,@(.int i),some rws[i],none,none],g,.inl ?_,rfl,_,_,rfl⟩;rw[we,af (Z1:=[some w,@(.int i),some rws[i],none,none]) (by rw[bN (k9 (cJ _ _) c),ai]),ai])
  (fun Z g q=>by let⟨rfl,_⟩:=q;rw[dZ (by rw[A];exact aN (by have:=h.len;omega))])
 rw[jw (d:=⟨1,5,L5⟩) rfl rfl];show Goes (aF _ L5 [some w,none,none,none,none] m) m _;rw[L5];cases e:iV (mU R) R.length 0 with
 |some i=>
  rw[e] at k;let⟨f,g,x,rfl,Z,rfl⟩:=k;exact⟨Z,bW x⟩
 |none=>
  rw[e] at k;let⟨B,g,x,rfl,u,l,rfl⟩:=k;exact⟨_,by rw[af x,ai]⟩
structure Bx(z:Str):Prop where
 a:L2.asc z=true
 l:z.length<=1000
theorem Bx.small(h:Bx z):z.cps.all (· < 0x110000)=true:=by
 have:=h.a;unfold L2.asc at this;rw[Sj] at this ⊢;intro i e;have:=this i e;simp at this ⊢;omega
theorem Bx.lt(h:Bx z):∀c∈z.cps.toList,c<128:=by
 have:=h.a;unfold L2.asc at this;rw[Sj] at this;intro c f;let⟨i,e,rfl⟩:=Rj.mp f;have:=this i (~~~e);simpa using this
def sG(c:Nat):Bool:=decide (97<=c)&&decide (c<=122)
def yg(z:Str):Bool:=decide (1<=z.length)&&decide (z.length<=8)&&z.cps.toList.all sG
def AZ:W->Nat
 |.str z=>z.cps.toList.headD 0
 |_=>0
theorem wD{q:Nat->Bool}:((signs z).all λ w=>q (AZ w))=z.cps.toList.all q:=by
 unfold signs;rw[all_map];rfl
theorem Pf:aE .LtE (.str "a") (.str ⟨#[c]⟩) m=.ok (decide (97<=c)) m:=by
 have e:decide ([c] < [97])=decide (c<97):=QZ.mpr (by simp[cons_lt_cons_iff]);show R.ok (!decide ([c] < [97])) m=_;rw[e]
 by_cases h:c<97
 .have:¬97<=c:=by omega
  simp[h,this]
 .have:97<=c:=by omega
  simp[h,this]
theorem leZ:aE .LtE (.str ⟨#[c]⟩) (.str "z") m=.ok (decide (c<=122)) m:=by
 have e:decide ([122] < [c])=decide (122<c):=QZ.mpr (by simp[cons_lt_cons_iff]);show R.ok (!decide ([122] < [c])) m=_;rw[e]
 by_cases h:122<c
 .have:¬c<=122:=by omega
  simp[h,this]
 .have:c<=122:=by omega
  simp[h,this]
theorem len_str(h:z.length<=lim):aY .len [.str z] M=.ok (.int z.length) M:=by
 erw[aY];rw[Qn h]
theorem wF(h:Bx z)(e:Z[0]?=@(some (.str z))):ao (Cn pg n) (.chain .LtE .LtE @(1) (.blt .len %[|@0]) @(8)) Z M=.ok (.bl (decide (1<=z.length)&&decide (z.length<=8))) M:=by
 have a:z.length<=lim:=Qk h.l 'm';erw[bY,bB,bZ,au,aG,bu,e,ay,len_str a,aE];have g:decide ((1:Int)<=z.length)=decide (1<=z.length):=QZ.mpr 'o';have f:decide ((z.length:Int)<=8)=decide (z.length<=8):=QZ.mpr 'o';rw[g,f];cases decide (1<=z.length)<;>simp
theorem DI(h:Bx z):aU (D.runN pg (n+1) 1) [.str z] M=.ok (.bl (yg z)) M:=by
 refine dP (m1:=[]) rfl (cF (d:=⟨1,2,b1⟩) rfl rfl ?_) rfl;show aF _ b1 [@(.str z),none] []=_;have r:dw (Cn pg n) @0 [@(.str z),none] []=.ok (.tup (signs z)) []:=by simp[jj,kg,lT,lU,qY,qZ,q8,q9,rj,rm,rq,jk,lV,ki,rA,bu,bB,cH,ji,gk,fk,jN,fV,bY,bT,dY,cY,bU,fy,gF,bZ,gO,bG,eE,dG,j9,dM,kc,dN,gG,iU,R.bind,kC,nE,h.a]
 have f:=all_gen (C:=Cn pg n) (t:=.var 1) (e:=.chain .LtE .LtE (.cst (.str "a")) @1 (.cst (.str "z"))) (it:=.var 0) (js:=[1]) (Z:=[@(.str z),none]) (m:=[]) (xs:=signs z) (s:=.tup (signs z)) (B:=λ x=>[@(.str z),some x]) (q:=λ w=>sG (AZ w)) Cm.nil r (λ j k=>aW k) (aN 'o') rfl (by have:=h.l;simp[signs,lim,Str.length] at this ⊢;omega)
  (λ x _=>by simp[fY,aD]) (λ x _ y _=>by simp[aD]) (λ x g=>by
   let⟨c,v,rfl⟩:=QB.mp g;erw[EWs,Pf,leZ,sG,AZ]
   by_cases u:97<=c<;>simp[u])
 rw[wD] at f;rw[b1,aO (bR (w:=.bl (yg z)) (m1:=[]) ?_)];rw[fk,wF h rfl];erw[ay,f,yg];cases (decide (1<=z.length)&&decide (z.length<=8))<;>simp
theorem Lv:∀c:Fin 128,(!(Builtin.Str.occurrences "abcdefghijklmnopqrstuvwxyz" ⟨#[c.val]⟩ 0 26 1).isEmpty)=sG c.val:=by decide +kernel
abbrev ab:W:=.str "abcdefghijklmnopqrstuvwxyz"
theorem sH(h:Bx z):aU (D.runN pg (n+1) 18) [.str z] M=.ok (.bl (yg z)) M:=by
 refine dP (m1:=[]) rfl (cF (d:=⟨1,2,Me⟩) rfl rfl ?_) rfl;show aF _ Me [@(.str z),none] []=_;have u:dw (Cn pg n) @0 [@(.str z),none] []=.ok (.tup (signs z)) []:=by simp[jj,kg,lT,lU,qY,qZ,q8,q9,rj,rm,rq,jk,lV,ki,rA,bu,bB,cH,ji,gk,fk,jN,fV,bY,bT,dY,cY,bU,fy,gF,bZ,gO,bG,eE,dG,j9,dM,kc,dN,gG,iU,R.bind,kC,nE,h.a]
 have f:=all_gen (C:=Cn pg n) (t:=.var 1) (e:=.cmp .In @1 (.cst ab)) (it:=.var 0) (js:=[1]) (Z:=[@(.str z),none]) (m:=[]) (xs:=signs z) (s:=.tup (signs z)) (B:=λ x=>[@(.str z),some x]) (q:=λ w=>sG (AZ w)) Cm.nil u (λ j k=>aW k) (aN 'o') rfl (by have:=h.l;simp[signs,lim,Str.length] at this ⊢;omega)
  (λ x _=>by simp[fY,aD]) (λ x _ y _=>by simp[aD]) (λ x g=>by
   let⟨c,r,rfl⟩:=QB.mp g;have e:=Lv ⟨c,h.lt c r⟩;have v:aE .In (.str ⟨#[c]⟩) ab []=.ok (sG c) []:=by
    erw[aE,qX];rw[show ("abcdefghijklmnopqrstuvwxyz":Str).length=26 from by decide +kernel,e]
   erw[EWs,v,AZ,headD])
 rw[wD] at f;rw[Me,aO (bR (w:=.bl (yg z)) (m1:=[]) ?_)];rw[fk,wF h rfl];erw[ay,f,yg];cases (decide (1<=z.length)&&decide (z.length<=8))<;>simp
def optN:Option Nat->W
 |some s=>.int s
 |none=>.non
def iA(ws:List Str)(i:Nat):Bool:=!yg (ws.getD i "")||decide (ws.getD i ""∈ws.take i)
theorem sI:lP (.inr z) (ws.map Sum.inr)=decide (z∈ws):=by
 by_cases h:z∈ws
 .rw[QS h];erw[lP,Uk,any_eq_true,Function.comp];exact⟨z,h,by simp⟩
 .rw[QH h];erw[lP,Uk,Sg];rw[UH];intro x a;erw[QE,Sum.inr.injEq];rintro rfl;exact h a
theorem jY(hw:∀z∈ws,Bx z)(H:ws.length<=1000):aU (D.runN pg (n+1+1) 0) [.fz (ws.map .str)] M=.ok (optN (iV (iA ws) ws.length 0)) M:=by
 have B:dw (Cn pg (n+1)) (.enm @0) [@(.fz (ws.map .str)),@(.ref 0),none,none] [.set []]=.ok (.enm (.tup (ws.map .str))) [.set []]:=by simp[jj,kg,lT,lU,qY,qZ,q8,q9,rj,rm,rq,jk,lV,ki,rA,bu,bB,cH,ji,gk,fk,jN,fV,bY,bT,dY,cY,bU,fy,gF,bZ,gO,bG,eE,dG,j9,dM,kc,dN,gG,iU,bu,bB,cH,gk,fk,jN,fV,bY,bT,dY,cY,bU,fy,bO,bZ,gO,bG,eE,dG,mQ,dM,mP,dN,aG,au,g9,ia,ay,srcOf]
 have j:=fL (t:=.tup %[@2,|@3]) (b:=DE) (n:=ws.length) B (by simp[Src.len]) (iA ws)
  (λ i Z m=>m=[.set ((ws.take i).map Sum.inr)]/\∃l o3,Z=[@(.fz (ws.map .str)),@(.ref 0),l,o3]) (λ i f m=>f=.rt (.int i)) (λ i f m e=>by rw[e];trivial) ⟨rfl,_,_,rfl⟩ (λ i Z m h=>by
   rintro⟨rfl,l,o3,rfl⟩;have v:=hw ws[i] (QI h);have r:ws.getD i ""=ws[i]:=by simp[List.getD,h]
   have c:br (Cn pg (n+1)) (.or (.not (.call 1 %[|@3])) (.cmp .In @3 @1)) [@(.fz (ws.map .str)),@(.ref 0),@(.int i),@(.str ws[i])] [.set ((ws.take i).map Sum.inr)]=.ok (iA ws i) [.set ((ws.take i).map Sum.inr)]:=by
    unfold iA;rw[r];erw[EVs,eZ,fc,fh,fj,fm,fq,fu,fB,cD,cJ,fC,cM,cN,cP,eG,fD,fE,cQ,fF,cR,dH,fS,dI,aX,bK,eK,nj,nk,nq,nu,DI v,D.truthy,aE,qX,zw,sI];cases yg ws[i]<;>simp
   refine⟨.tup [.int i,.str ws[i]],[@(.fz (ws.map .str)),@(.ref 0),@(.int i),@(.str ws[i])],?_,by simp[aD,cC],λ a=>?_,λ a=>?_⟩
   .rw[fM (w:=.str ws[i])];rw[aW (~~~h)];simp
   .rw[a] at c;refine⟨.rt (.int i),[.set ((ws.take i).map Sum.inr)],?_,rfl⟩;rw[DE,aO];rw[cZ c,aO (bR (w:=.int i) (m1:=[.set ((ws.take i).map Sum.inr)]) (by erw[EWs]))]
   .rw[a] at c;have A:ws[i]∉ws.take i:=by
     unfold iA at a;rw[r,Tf] at a;exact of_decide_eq_false a.2
    have E:ao (Cn pg (n+1)) (.meth @1 "add" %[|@3]) [@(.fz (ws.map .str)),@(.ref 0),@(.int i),@(.str ws[i])] [.set ((ws.take i).map Sum.inr)]=.ok .non [.set ((ws.take (i+1)).map Sum.inr)]:=by
     have G:kB "add"=.set:=by decide
     have F:((ws.take i).map Sum.inr:List L2.Key).length<4000:=by rw[Qq,Rf];omega
     have x:ws.take (i+1)=ws.take i++[ws[i]]:=by rw[UP,Qt h];rfl
     erw[EWs,kdOf,G,Qx,bx,iG,zB,zw,sI,QH A,F,QJ,QY];rw[x,QK];rfl
    refine⟨[@(.fz (ws.map .str)),@(.ref 0),@(.int i),@(.str ws[i])],_,.inl ?_,rfl,_,_,rfl⟩;rw[DE,af (Z1:=[@(.fz (ws.map .str)),@(.ref 0),@(.int i),@(.str ws[i])]) (by rw[bN c,ai]),af (bM E),ai])
  (fun Z m _=>by rw[dZ];exact aN 's')
 have q:aM (Cn pg (n+1)) (.asg (.pt @1) .nB) [@(.fz (ws.map .str)),none,none,none] []=.ok (.nx [@(.fz (ws.map .str)),@(.ref 0),none,none]) [.set []]:=aH (w:=.ref 0) (m1:=[.set []]) (by simp[bu,bB,cH,gk,fk,jN,fV,bY,bT,dY,cY,bU,fy,bO,bZ,gO,bG,eE,dG,mQ,dM,mP,dN,aG,au,g9,ia,ay,new]) rfl;cases e:iV (iA ws) ws.length 0 with
 |some i=>
  rw[e] at j;let⟨f,g,k,rfl⟩:=j;refine dP (m1:=g) (by simp[aC,aQ,bE]) (cF (d:=⟨1,4,b0⟩) rfl rfl ?_) rfl;show aF _ b0 [@(.fz (ws.map .str)),none,none,none] []=_;rw[b0,af q,aO k];rfl
 |none=>
  rw[e] at j;let⟨u,g,k,_⟩:=j;refine dP (m1:=g) (by simp[aC,aQ,bE]) (cF (d:=⟨1,4,b0⟩) rfl rfl ?_) rfl;show aF _ b0 [@(.fz (ws.map .str)),none,none,none] []=_;rw[b0,af q,af k,aO (bR (w:=.non) (m1:=g) (by simp[bu,bB,cH,gk,fk,jN,fV,bY,bT,dY,cY,bU,fy,bO,bZ,gO,bG,eE,dG,mQ,dM,mP,dN,aG,au,g9,ia,ay]))];rfl
structure Parts(m:Mem)(k s l r t:W)(ks ss ls:List Str)(rws EW:List W)(R L:List (List Int)):Prop where
 k:getL m k=@(ks.map .str)
 s:getL m s=@(ss.map .str)
 l:getL m l=@(ls.map .str)
 r:Rows m r rws R
 t:Rows m t EW L
structure Bd(ks ss ls:List Str)(R L:List (List Int)):Prop where
 wd:∀z∈ks++ss++ls,Bx z
 k:ks.length<=100
 s:ss.length<=100
 l:ls.length<=100
 r:R.length<=100
 rw:∀r∈R,r.length<=100
 t:L.length<=100
 tw:∀r∈L,r.length<=100
def gr(k s l:Nat):Option Nat:=if 2<k then some 0 else if ¬(2<=s/\s<=4) then some 1 else if 2<l then some 2 else none
def cV(ks ss ls:List Str)(R L:List (List Int)):Option W:=match iV (iA (ks++ss++ls)) (ks++ss++ls).length 0 with
 |some i=>some (gR "words" i)
 |none=>match gr ks.length ss.length ls.length with
  |some i=>some (gR "many" i)
  |none=>match bI R ss.length (2^ks.length) ss.length with
   |some i=>some (gR "row" i)
   |none=>match bI L ss.length ls.length 2 with
    |some i=>some (gR "lights" i)
    |none=>(iV (mU R) R.length 0).map (gR "unsettled")
theorem fO{l:Mem}(h:getL m w=some xs):getL (m++l) w=some xs:=by
 have:=iz (l:=l) (aK h);cases w with
 |tup ys=>cases h
 |_=>exact this
theorem Parts.app{k l r t:W}{R:List (List Int)}(h:Parts m k s l r t ks ss ls rws EW R L):Parts (m++l0) k s l r t ks ss ls rws EW R L:=
 ⟨fO h.k,fO h.s,fO h.l,h.r.app,h.t.app⟩
theorem oW{x y:W}(e:getL M x=some xs)(a:getL M y=some ys)(f:xs.length+ys.length<=lim):binop .Add x y M=.ok (.ref M.length) (M++[.lst (xs++ys)]):=by
 have:Cr M x y=.ok (.ref M.length) (M++[.lst (xs++ys)]):=by erw[Cr,e,a];rw[Qn f];rfl
 cases x<;>cases y<;>first | exact this | cases e | cases a
theorem NL{k l r t:W}{R:List (List Int)}(a:Cm M)(p:Parts M k s l r t ks ss ls rws EW R L)(o:Bd ks ss ls R L) :
  ao (Cn pg n) (.frz (.bin .Add (.bin .Add @0 @1) @2)) [some k,some s,some l,some r,some t,none] M=.ok (.fz ((ks++ss++ls).map .str)) M:=by
 have g:(ks.map W.str).length+(ss.map W.str).length<=lim:=by have:=o.k;have:=o.s;simp[lim];omega
 have f:(ks.map W.str++ss.map W.str).length+(ls.map W.str).length<=lim:=by have:=o.k;have:=o.s;have:=o.l;simp[lim];omega
 have e:ao (Cn pg n) (.bin .Add (.bin .Add @0 @1) @2) [some k,some s,some l,some r,some t,none] M=.ok (.ref (M.length+1)) (M++[.lst (ks.map .str++ss.map .str),.lst (ks.map .str++ss.map .str++ls.map .str)]):=by
  erw[EWs,oW p.k p.s g];rw[oW (M:=M++[O.lst (ks.map W.str++ss.map W.str)]) (x:=.ref M.length) (xs:=ks.map W.str++ss.map W.str) (by simp[getL]) (fO p.l) f];simp
 have:=vU (C:=Cn pg n) e rfl a 'o' (xs:=ks.map .str++ss.map .str++ls.map .str) 's' (by rw[<-QK,<-QK];exact bE _);rw[this,QK,QK]
theorem nJ{k l:W}{ks ss ls:List W}(E:aP m k=some ks)(A:aP m s=some ss)(B:aP m l=some ls):Goes (D.dD pg (n+1) 8 [k,s,l] m) m ((gr ks.length ss.length ls.length).map (gR "many")):=by
 rw[jw (d:=⟨3,3,b8⟩) rfl rfl];show Goes (aF _ b8 [some k,some s,some l] m) m _;have I:decide ((2:Int)<ks.length)=decide (2<ks.length):=QZ.mpr 'o';have H:decide ((2:Int)<=ss.length)=decide (2<=ss.length):=QZ.mpr 'o';have G:decide ((ss.length:Int)<=4)=decide (ss.length<=4):=QZ.mpr 'o';have F:decide ((2:Int)<ls.length)=decide (2<ls.length):=QZ.mpr 'o';have t:∀j:Nat,aM (Cn pg n) (.rais "NoTable" (.some "fault") (.tup %[.cst (.str "many"),|.cst (.int j)])) [some k,some s,some l] m=.ok (.rz "NoTable" (some ("fault",gR "many" j)) [some k,some s,some l]) m:=λ j=>kZ (by
  erw[dY,au,aG,bB,ay];rw[Qn 'm'])
 have x:aM (Cn pg n) (.rais "NoTable" (.some "fault") (.tup %[.cst (.str "many"),|@(0)])) [some k,some s,some l] m=.ok (.rz "NoTable" (some ("fault",gR "many" 0)) [some k,some s,some l]) m:=t 0;have v:aM (Cn pg n) (.rais "NoTable" (.some "fault") (.tup %[.cst (.str "many"),|@(1)])) [some k,some s,some l] m=.ok (.rz "NoTable" (some ("fault",gR "many" 1)) [some k,some s,some l]) m:=t 1;have u:aM (Cn pg n) (.rais "NoTable" (.some "fault") (.tup %[.cst (.str "many"),|@(2)])) [some k,some s,some l] m=.ok (.rz "NoTable" (some ("fault",gR "many" 2)) [some k,some s,some l]) m:=t 2;have h:br (Cn pg n) (.cmp .Gt (.blt .len %[|@0]) @(2)) [some k,some s,some l] m=.ok (decide (2<ks.length)) m:=by erw[EVs,eZ,fc,fh,fj,fm,fq,fu,fB,cD,cJ,fC,cM,cN,cP,eG,fD,fE,cQ,fF,cR,dH,fS,dI,aX,bK,eK,nj,nk,nq,nu,bz E,aE,I]
 have g:br (Cn pg n) (.not (.chain .LtE .LtE @(2) (.blt .len %[|@1]) @(4))) [some k,some s,some l] m=.ok (!(decide (2<=ss.length)&&decide (ss.length<=4))) m:=by
  erw[EVs,eZ,fc,fh,fj,fm,fq,fu,fB,cD,cJ,fC,cM,cN,cP,eG,fD,fE,cQ,fF,cR,dH,fS,dI,aX,bK,eK,nj,nk,nq,nu,bz A,aE,H,G];cases decide (2<=ss.length)<;>simp[ay]
 have f:br (Cn pg n) (.cmp .Gt (.blt .len %[|@2]) @(2)) [some k,some s,some l] m=.ok (decide (2<ls.length)) m:=by erw[EVs,eZ,fc,fh,fj,fm,fq,fu,fB,cD,cJ,fC,cM,cN,cP,eG,fD,fE,cQ,fF,cR,dH,fS,dI,aX,bK,eK,nj,nk,nq,nu,bz B,aE,F]
 rw[b8];unfold gr
 by_cases r:2<ks.length
 .rw[QS r] at h;rw[Qn r];exact⟨_,bW (by rw[cZ h,bW x])⟩
 .rw[QH r] at h;rw[Qu r,af (Z1:=[some k,some s,some l]) (m1:=m) (by rw[bN h,ai])]
  by_cases e:2<=ss.length/\ss.length<=4
  .rw[QS e.1,QS e.2] at g;rw[Qu (λ z=>z e),af (Z1:=[some k,some s,some l]) (m1:=m) (by rw[bN g,ai])]
   by_cases q:2<ls.length
   .rw[QS q] at f;rw[Qn q];exact⟨_,bW (by rw[cZ f,bW u])⟩
   .rw[QH q] at f;rw[Qu q];exact⟨[some k,some s,some l],by rw[af (Z1:=[some k,some s,some l]) (m1:=m) (by rw[bN f,ai]),ai]⟩
  .have:(!(decide (2<=ss.length)&&decide (ss.length<=4)))=true:=by
    by_cases a:2<=ss.length
    .have:¬ss.length<=4:=λ b=>e ⟨a,b⟩;simp[this]
    .simp[a]
   rw[this] at g;rw[Qn e];exact⟨_,bW (by rw[cZ g,bW v])⟩
theorem lg{p:Pg}{es:Es}{ws:List W}{r:Ss}{o o2:Option W}(h:bh (Cn p n) es Z m=.ok ws m)(a:Goes (D.dD p n i ws m) m o)(g:o=none->Goes (aF (Cn p n) r Z m) m o2)(f:∀w,o=some w->o2=some w):Goes (aF (Cn p n) (.cons (.xc .drop none i es) r) Z m) m o2:=by
 cases o with
 |none=>
  let⟨j,e⟩:=a;rw[af (AN h e)];exact g rfl
 |some w=>
  let⟨j,e⟩:=a;rw[f w rfl];exact⟨Z,bW (AO h e)⟩
theorem mV{k s l:Nat}(h:gr k s l=none):k<=2/\2<=s/\s<=4/\l<=2:=by
 unfold gr at h;split at h
 .cases h
 .split at h
  .cases h
  .split at h
   .cases h
   .ext a b c;have b:=Classical.not_not.mp b;exact⟨by omega,b.1,b.2,by omega⟩
theorem mW(h:n<=2):2^n<=4:=by
 rcases (by omega:n=0\/n=1\/n=2) with rfl | rfl | rfl<;>decide
theorem qm{R:List (List Int)}(h:∀r∈R,r.length<=100):∀r∈R,r.length<=lim:=λ r a=>Qk (h r a) 'm'
theorem mX{k l r t:W}{R:List (List Int)}(g:Cm M)(p:Parts M k s l r t ks ss ls rws EW R L)(o:Bd ks ss ls R L):Goes (D.dD pg (n+1+1+1) 7 [k,s,l,r,t] M) M (cV ks ss ls R L):=by
 have j:ao (Cn pg (n+1+1)) (.call 0 %[|.frz (.bin .Add (.bin .Add @0 @1) @2)]) [some k,some s,some l,some r,some t,none] M=.ok (optN (iV (iA (ks++ss++ls)) (ks++ss++ls).length 0)) M:=by
  rw[bO,au,NL g p o];erw[ay,aG];exact jY o.wd (by have:=o.k;have:=o.s;have:=o.l;simp;omega)
 rw[jw (d:=⟨5,6,b7⟩) rfl rfl];show Goes (aF _ b7 [some k,some s,some l,some r,some t,none] M) M _;rw[b7];unfold cV;cases hf:iV (iA (ks++ss++ls)) (ks++ss++ls).length 0 with
 |some i=>
  rw[hf] at j;have q:br (Cn pg (n+1+1)) (.cmp .IsNot @5 (.cst .non)) [some k,some s,some l,some r,some t,@(.int i)] M=.ok true M:=by erw[EVs,eZ,fc,fh,fj,fm,fq,fu,fB,cD,cJ,fC,cM,cN,cP,eG,fD,fE,cQ,fF,cR,dH,fS,dI,aX,bK,eK,nj,nk,nq,nu,aE,lQ,UB]
  have B:ao (Cn pg (n+1+1)) (.tup %[.cst (.str "words"),|@5]) [some k,some s,some l,some r,some t,@(.int i)] M=.ok (gR "words" i) M:=by
   erw[EWs];rw[Qn 'm']
  exact⟨_,by rw[af (Z1:=[some k,some s,some l,some r,some t,@(.int i)]) (aH j rfl),bW];rw[cZ q,bW (kZ B)]⟩
 |none=>
  rw[hf] at j;have q:br (Cn pg (n+1+1)) (.cmp .IsNot @5 (.cst .non)) [some k,some s,some l,some r,some t,some .non] M=.ok false M:=by erw[EVs,eZ,fc,fh,fj,fm,fq,fu,fB,cD,cJ,fC,cM,cN,cP,eG,fD,fE,cQ,fF,cR,dH,fS,dI,aX,bK,eK,nj,nk,nq,nu,aE,lQ,T3]
  rw[af (Z1:=[some k,some s,some l,some r,some t,some .non]) (aH j rfl),af (Z1:=[some k,some s,some l,some r,some t,some .non]) (by rw[bN q,ai])];have v:=nJ (n:=n+1) (aK p.k) (aK p.s) (aK p.l);erw[Qq] at v;refine lg (ws:=[k,s,l]) (by erw[EWs]) v (λ e=>?_) (λ w h=>?_)
  .have e:gr ks.length ss.length ls.length=none:=by simpa using e
   let⟨A,N,K,l2⟩:=mV e;rw[e];dsimp only;have x:=nI (n:=n+1) (aK p.k) (by simp;omega);erw[Qq] at x;have J:=iW (n:=n+1) (word:="row") (many:=ss.length) (width:=2^ks.length) (bound:=ss.length) g p.r 'o' (qm o.rw);have I:=iW (n:=n+1) (word:="lights") (many:=ss.length) (width:=ls.length) (bound:=2) g p.t 'o' (qm o.tw);refine lg (ws:=[.str "row",r,.int ss.length,.int (2^ks.length:Nat),.int ss.length]) (by erw[EWs,bz (aK p.s),Qq,x]) J (λ h=>?_) (λ w h=>?_)
   .have h:bI R ss.length (2^ks.length) ss.length=none:=by simpa using h
    rw[h];dsimp only;refine lg (ws:=[.str "lights",t,.int ss.length,.int ls.length,.int 2]) (by erw[EWs,bz (aK p.s),bz (aK p.l),Qq]) I (λ f=>?_) (λ w f=>?_)
    .have f:bI L ss.length ls.length 2=none:=by simpa using f
     rw[f];dsimp only;let⟨G,F⟩:=kq h;have H:=jX (n:=n+1) (wd:=2^ks.length) g p.r (λ r E=>by rw[G];exact F r E) (by have:=mW A;simp[lim];omega);refine lg (ws:=[r]) (by erw[EWs]) H (λ u=>?_) (λ w u=>u);rw[u];exact⟨_,ai⟩
    .rw[P9] at f;let⟨a,f,rfl⟩:=f;rw[f]
   .rw[P9] at h;let⟨a,h,rfl⟩:=h;rw[h]
  .rw[P9] at h;let⟨a,h,rfl⟩:=h;rw[h]
theorem iB{c:Str}{j:List (Str×W)}(g:m[p]?=@(.ins c j))(h:getL m w=some xs):getL (m.set p o) w=some xs:=by
 cases w with
 |ref a=>
  erw[getL] at h ⊢;split at h
  .ext ys e;have f:p≠a:=by rintro rfl;rw[g] at e;cases e
   rw[QA f,e];exact h
  .cases h
 |_=>exact h
theorem A5{c:Str}{e:List (Str×W)}(a:m[p]?=@(.ins c e))(h:aP m w=some xs):aP (m.set p o) w=some xs:=by
 cases w with
 |tup ys=>exact h
 |_=>exact aK (iB (m:=m) a (by exact h))
theorem Rows.ins{c:Str}{g:List (Str×W)}{R:List (List Int)}(a:m[p]?=@(.ins c g))(h:Rows m w rws R):Rows (m.set p o) w rws R:=
 ⟨iB a h.at_,h.len,λ i f e=>A5 a (h.row i f e)⟩
theorem Parts.ins{c:Str}{e:List (Str×W)}{k l r t:W}{R:List (List Int)}(a:m[p]?=@(.ins c e))(h:Parts m k s l r t ks ss ls rws EW R L):Parts (m.set p o) k s l r t ks ss ls rws EW R L:=
 ⟨iB a h.k,iB a h.s,iB a h.l,h.r.ins a,h.t.ins a⟩
abbrev tupI(r:List Int):W:=.tup (r.map .int)
abbrev dQ(z:List Str):W:=.fz (z.map .str)
abbrev F1(ks:List Str):List (Str×W):=[("key_list",dQ ks)]
abbrev F2(ks ss:List Str):List (Str×W):=[("key_list",dQ ks),("state_list",dQ ss)]
abbrev F3(ks ss ls:List Str):List (Str×W):=[("key_list",dQ ks),("state_list",dQ ss),("lamp_list",dQ ls)]
abbrev F4(ks ss ls:List Str)(R:List (List Int)):List (Str×W):=[("key_list",dQ ks),("state_list",dQ ss),("lamp_list",dQ ls),("row_list",.fz (R.map tupI))]
abbrev F5(ks ss ls:List Str)(R L:List (List Int)):List (Str×W):=[("key_list",dQ ks),("state_list",dQ ss),("lamp_list",dQ ls),("row_list",.fz (R.map tupI)),("light_list",.fz (L.map tupI))]
theorem iX(R:List (List Int)):aC (R.map tupI)=true:=ko (λ r=>by simp[aQ,iy]) R
theorem qp{c:Str}{a:List (Str×W)}(e:Cm m)(h:aC (a.map (·.2))=true):Cm (m.set p (.ins c a)):=e.set (aJ _ h)
theorem jC{e:E}(g:ao C e Z m=.ok w m)(h:getL m w=some xs)(f:Cm m)(a:aC xs=true):ao C (.frz (.blt .list %[|e])) Z m=.ok (.fz xs) m:=by
 refine bg (m0:=m) ?_ rfl f a;rw[bZ,au,g];erw[ay,aG,aY,aK h,new]
theorem mY{f:Str}{a fs':List (Str×W)}{v:W}(e:m[p]?=@(.ins "Table" a))(j:cs.flds.contains (("Table":Str),f)=true)(g:a.length<1000)(h:D.eL f v a=fs'):oi cs (.ref p) f v m=.ok () (m.set p (.ins "Table" fs')):=by
 erw[oi,e];rw[Qn ⟨j,g⟩,h]
theorem nK{k l r t:W}{R:List (List Int)}(h:Cm m)(f:m[p]?=@(.ins "Table" []))(q:Parts m k s l r t ks ss ls rws (L.map tupI) R L)(o:Bd ks ss ls R L) :
  match cV ks ss ls R L with
   |some w=>∃Z,D.dD pg (n+1+1+1+1) 2 [.ref p,k,s,l,r,t] m=.ok (.rz "NoTable" (some ("fault",w)) Z) m
   |none=>∃Z,D.dD pg (n+1+1+1+1) 2 [.ref p,k,s,l,r,t] m=.ok (.nx Z) (m.set p (.ins "Table" (F5 ks ss ls R L))):=by
 have G:p<m.length:=(Qc.mp f).1;have g:∀o:O,(m.set p o)[p]?=some o:=λ o=>by rw[QG G]
 have A:=mX (n:=n) h q o;have K:bh (Cn pg (n+1+1+1)) %[@1,@2,@3,@4,|@5] [@(.ref p),some k,some s,some l,some r,some t,none] m=.ok [k,s,l,r,t] m:=by erw[EWs]
 rw[jw (d:=⟨6,7,b2⟩) rfl rfl];show match cV ks ss ls R L with
   |some w=>∃Z,aF _ b2 [@(.ref p),some k,some s,some l,some r,some t,none] m=.ok (.rz "NoTable" (some ("fault",w)) Z) m
   |none=>∃Z,aF _ b2 [@(.ref p),some k,some s,some l,some r,some t,none] m=.ok (.nx Z) (m.set p (.ins "Table" (F5 ks ss ls R L)))
 rw[b2];cases hf:cV ks ss ls R L with
 |some w=>
  rw[hf] at A;let⟨Z,e⟩:=A;exact⟨_,bW (AO K e)⟩
 |none=>
  rw[hf] at A;let⟨Z,e⟩:=A;rw[af (AN K e)];have X:Parts (m.set p (.ins "Table" (F1 ks))) k s l r t ks ss ls rws (L.map tupI) R L:=q.ins f;have V:Parts (m.set p (.ins "Table" (F2 ks ss))) k s l r t ks ss ls rws (L.map tupI) R L:=q.ins f;have E:Parts (m.set p (.ins "Table" (F3 ks ss ls))) k s l r t ks ss ls rws (L.map tupI) R L:=q.ins f;have U:Parts (m.set p (.ins "Table" (F4 ks ss ls R))) k s l r t ks ss ls rws (L.map tupI) R L:=q.ins f;have m1:Cm (m.set p (.ins "Table" (F1 ks))):=qp h (by simp[aC,aQ,bE]);have m2:Cm (m.set p (.ins "Table" (F2 ks ss))):=qp h (by simp[aC,aQ,bE]);have m3:Cm (m.set p (.ins "Table" (F3 ks ss ls))):=qp h (by simp[aC,aQ,bE]);have Y:Cm (m.set p (.ins "Table" (F4 ks ss ls R))):=qp h (by simp[aC,aQ,bE,iX]);have F:rws.length<=lim:=by rw[q.r.len];exact Qk o.r 'm'
  have e4:ao (Cn pg (n+1+1+1)) (.frz (.comp (.gen @6 [6] @4 .nil (.elt (.blt .tuple %[|@6]))))) [@(.ref p),some k,some s,some l,some r,some t,none] (m.set p (.ins "Table" (F3 ks ss ls)))=.ok (.fz (R.map tupI)) (m.set p (.ins "Table" (F3 ks ss ls))):=by
   let⟨H,T,I,S⟩:=mO (aK E.r.at_);have hI:dw (Cn pg (n+1+1+1)) @4 [@(.ref p),some k,some s,some l,some r,some t,none] (m.set p (.ins "Table" (F3 ks ss ls)))=.ok H (m.set p (.ins "Table" (F3 ks ss ls))):=by rw[jj,bu];exact T
   let⟨N,J⟩:=k7 (C:=Cn pg (n+1+1+1)) (get:=H.get) (t:=.var 6) (ifs:=.nil) (e:=.blt .tuple %[|@6]) (Z:=fY [6] [@(.ref p),some k,some s,some l,some r,some t,none]) (m:=m.set p (.ins "Table" (F3 ks ss ls))) (xs:=rws) (B:=λ x=>[@(.ref p),some k,some s,some l,some r,some t,some x]) (p:=λ _=>true) (g:=λ w=>match aP (m.set p (.ins "Table" (F3 ks ss ls))) w with | some xs=>.tup xs | none=>.non)
    (λ j u=>by rw[I,aW u]) (by rw[I];exact aN 'o') (λ x _=>by simp[fY,aD]) (λ x _ y _=>by simp[aD]) (λ x _=>by erw[cy]) (λ x hx _=>by
     let⟨j,u,rfl⟩:=Rj.mp hx;have a:j<R.length:=by rw[<-q.r.len];exact u
     erw[EWs,aY,E.r.row j u a]) F
   have he:rws.map (λ w=>match aP (m.set p (.ins "Table" (F3 ks ss ls))) w with | some xs=>W.tup xs | none=>.non)=R.map tupI:=by
    apply Uz
    .simp[q.r.len]
    .intro j h1 h2;have u:j<rws.length:=by simpa using h1
     have a:j<R.length:=by simpa using h2
     simp[E.r.row j u a]
   rw[k6,he,<-S] at J;exact bg (dS (js:=[6]) (ifs:=.nil) (g:=.elt (.blt .tuple %[|@6])) hI J) rfl m3 (iX R)
  have v:∀M,ao (Cn pg (n+1+1+1)) @0 [@(.ref p),some k,some s,some l,some r,some t,none] M=.ok (.ref p) M:=λ M=>by erw[EWs]
  refine⟨[@(.ref p),some k,some s,some l,some r,some t,none],?_⟩;rw[af (mF (jC (w:=k) (by erw[EWs]) q.k h (bE _)) (v _) (mY (fs':=F1 ks) f rfl 'd' rfl))];rw[af (mF (jC (w:=s) (by erw[EWs]) X.s m1 (bE _)) (v _) (mY (fs':=F2 ks ss) (g _) rfl 's' rfl)),Tc];rw[af (mF (jC (w:=l) (by erw[EWs]) V.l m2 (bE _)) (v _) (mY (fs':=F3 ks ss ls) (g _) rfl 's' rfl)),Tc];rw[af (mF e4 (v _) (mY (fs':=F4 ks ss ls R) (g _) rfl 's' rfl)),Tc];rw[af (mF (jC (w:=t) (by erw[EWs]) U.t.at_ Y (iX L)) (v _) (mY (fs':=F5 ks ss ls R L) (g _) rfl 's' rfl)),Tc,ai]
theorem sJ{R:List (List Int)}(h:cV ks ss ls R L=some w):aQ w=true:=by
 unfold cV at h;split at h
 .cases h;rfl
 .split at h
  .cases h;rfl
  .split at h
   .cases h;rfl
   .split at h
    .cases h;rfl
    .let⟨i,_,rfl⟩:=P9.mp h;rfl
theorem outcome{tw k l r t:W}{R:List (List Int)}(B:Cm M)(V:aP M tw=some [k,s,l,r,t])(q:Parts M k s l r t ks ss ls rws (L.map tupI) R L)(o:Bd ks ss ls R L) :
  ∃l0,D.runN pg (n+1+1+1+1+1) 21 [tw] M=.ok ((cV ks ss ls R L).getD .non) (M++l0)/\Cm (M++l0):=by
 let a:D.Loc:=[some tw,some .non,none,none,none]
 have F:Cm (M++[O.ins "Table" []]):=B.push (o:=.ins "Table" []) rfl;have u:(M++[O.ins "Table" []])[M.length]?=some (.ins "Table" []):=by simp
 have d:=nK (n:=n) F u q.app o;have g:∀(i:Nat) (v:i<5),aT tw (.int i) M=.ok ([k,s,l,r,t][i]'(~~~v)) M:=λ i v=>bH V (~~~v);have U:aT tw (.int 0) M=.ok k M:=g 0 'd';have T:aT tw (.int 1) M=.ok s M:=g 1 'd';have S:aT tw (.int 2) M=.ok l M:=g 2 'd';have N:aT tw (.int 3) M=.ok r M:=g 3 'd';have K:aT tw (.int 4) M=.ok t M:=g 4 'd';have E:bh (Cn pg (n+1+1+1+1)) %[.idx @0 @(0),.idx @0 @(1),.idx @0 @(2),.idx @0 @(3),|.idx @0 @(4)] a M=.ok [k,s,l,r,t] M:=by erw[a,EWs,U,T,S,N,K]
 cases hf:cV ks ss ls R L with
 |none=>
  rw[hf] at d;let⟨Z,e⟩:=d;have Y:(M++[O.ins "Table" []]).set M.length (.ins "Table" (F5 ks ss ls R L))=M++[.ins "Table" (F5 ks ss ls R L)]:=by simp
  rw[Y] at e;refine⟨[.ins "Table" (F5 ks ss ls R L)],?_,B.push (o:=.ins "Table" (F5 ks ss ls R L)) (aJ _ (by simp[aC,aQ,bE,iX]))⟩;refine cF (d:=⟨1,5,HX⟩) rfl rfl ?_;show aF _ HX [some tw,none,none,none,none] M=_;have x:=HP (hw:=.drop) E e;rw[HX,af (Z1:=a) (aH (w:=.non) (m1:=M) (by erw[EVs]) rfl)];rw[af (Z1:=a) (m1:=M++[.ins "Table" (F5 ks ss ls R L)]) (Lk (by rw[af x,ai]) (λ _ _ _ h=>by cases h))];rw[aO (bR (w:=.non) (m1:=M++[.ins "Table" (F5 ks ss ls R L)]) (by erw[a,EWs]))];rfl
 |some w=>
  rw[hf] at d;let⟨Z,e⟩:=d;have J:=sJ hf
  let f:=M++[O.ins "Table" []]
  let M2:=f++[O.exc "NoTable" "fault" [w]]
  have Mj:Cm M2:=F.push (o:=.exc "NoTable" "fault" [w]) (aJ _ (by simp[aC,J]));refine⟨[.ins "Table" [],.exc "NoTable" "fault" [w]],?_,by simpa[f,M2] using Mj⟩;refine cF (d:=⟨1,5,HX⟩) rfl rfl ?_;show aF _ HX [some tw,none,none,none,none] M=_;have x:=HQ (hw:=.drop) E e;have j:M2[f.length]?=some (.exc "NoTable" "fault" [w]):=by simp[M2]
  have A:dW (.isx [("NoTable",false),("RelayError",false)]) (.ref f.length) M2=.ok (.bl false) M2:=by erw[dW,n9,j];rfl
  have I:dW (.isx [("NoTable",true),("RelayError",false)]) (.ref f.length) M2=.ok (.bl true) M2:=by erw[dW,n9,j];rfl
  have H:dW (.isx [("NoTable",true),("RelayError",true)]) (.ref f.length) M2=.ok (.bl true) M2:=by erw[dW,n9,j];rfl
  have G:dW (.xfl "fault" ["NoTable"]) (.ref f.length) M2=.ok w M2:=by erw[dW,zA,j];rfl
  rw[HX,af (Z1:=a) (aH (w:=.non) (m1:=M) (by erw[EVs]) rfl)];have X:aM (Cn pg (n+1+1+1+1)) (.tr %[|.xc .drop (.some "Table") 2 %[.idx @0 @(0),.idx @0 @(1),.idx @0 @(2),.idx @0 @(3),|.idx @0 @(4)]] ["NoTable","RelayError"] (.some 2) %[.asg (.pt @1) (.cst (.str "another")),.asg (.pt @3) (.fus (.isx [("NoTable",false),("RelayError",false)]) @2),.asg (.pt @4) (.fus (.isx [("NoTable",false),("RelayError",false)]) @2),|.ife (.and (.fus (.isx [("NoTable",true),("RelayError",false)]) @2) (.and (.fus (.isx [("NoTable",true),("RelayError",true)]) @2) (.and (.not @3) (.not @4)))) %[|.asg (.pt @1) (.fus (.xfl "fault" ["NoTable"]) @2)] .nil]) a M=.ok (.nx [some tw,some w,none,@(.bl false),@(.bl false)]) M2:=by
   rw[Ll (m1:=f) (m2:=M2) (fl:=.nx [some tw,some w,@(.ref f.length),@(.bl false),@(.bl false)]) (bW x) rfl ?_]
   .rfl
   .show aF _ _ [some tw,some .non,@(.ref f.length),none,none] M2=_;rw[af (Z1:=[some tw,@(.str "another"),@(.ref f.length),none,none]) (aH (m1:=M2) (by erw[EVs]) rfl)];rw[af (Z1:=[some tw,@(.str "another"),@(.ref f.length),@(.bl false),none]) (aH (w:=.bl false) (m1:=M2) (by erw[EWs,A]) rfl)];rw[af (Z1:=[some tw,@(.str "another"),@(.ref f.length),@(.bl false),@(.bl false)]) (aH (w:=.bl false) (m1:=M2) (by erw[EWs,A]) rfl)];rw[af (Z1:=[some tw,some w,@(.ref f.length),@(.bl false),@(.bl false)]) (m1:=M2) (by
     rw[cZ (m1:=M2) (by erw[EVs,eZ,fc,fh,fj,fm,fq,fu,fB,cD,cJ,fC,cM,cN,cP,eG,fD,fE,cQ,fF,cR,dH,fS,dI,aX,bK,eK,nj,nk,nq,nu,I,H,D.truthy,UB,Qx]),af (aH (w:=w) (m1:=M2) (by erw[EWs,G]) rfl),ai];rfl),ai]
  rw[af X];rw[aO (bR (w:=w) (m1:=M2) (by erw[EWs]))];simp[f,M2]
theorem misfit{R:List (List Int)}(hm:Cm m)(h:Rows m jB rws R)(hb:many<=1000)(hw:∀r∈R,r.length<=lim) :
  D.runN pg (n+1) 19 [.int many,jB,.int width,.int bound] m=.ok (optN (bI R many width bound)) m:=by
 let L (o5 o6:Option W):D.Loc:=[@(.int many),some jB,@(.int width),@(.int bound),o5,o6]
 have I:=aK h.at_;have A:∀o5 o6,ao (Cn pg n) (.blt .len %[|@1]) (L o5 o6) m=.ok (.int R.length) m:=λ o5 o6=>by erw[L,EWs,bz I,h.len]
 have g:∀i o6,br (Cn pg n) (.or (.cmp .GtE @4 (.blt .len %[|@1])) (.or (.cmp .NotEq (.blt .len %[|.idx @1 @4]) @2) (.blt .any %[|.frz (.comp (.gen @5 [5] (.idx @1 @4) .nil (.elt (.not (.chain .LtE .Lt @(0) @5 @3)))))]))) (L (some (.int (i:Nat))) o6) m=.ok (eF R width bound i) m:=λ i o6=>by
  unfold eF
  by_cases k:i<R.length
  .have l:i<rws.length:=by rw[h.len];exact k
   have J:=h.row i l k;let⟨s,s1,H,s3⟩:=mO J;have N:ao (Cn pg n) (.idx @1 @4) (L @(.int i) o6) m=.ok rws[i] m:=by erw[L,EWs,bH I l]
   have K:=any_gen (C:=Cn pg n) (m:=m) (t:=.var 5) (e:=.not (.chain .LtE .Lt @(0) @5 @3)) (it:=.idx @1 @4) (js:=[5]) (Z:=L @(.int i) o6) (xs:=R[i].map .int) (s:=s) (B:=λ x=>L @(.int i) (some x)) (q:=λ w=>!DH bound (yf w)) hm (by rw[kg,N];exact s1) (λ j hj=>by rw[H,aW hj]) (by rw[H];exact aN 'o') s3
    (by rw[Qq];exact hw _ (QI k)) (λ x _=>by simp[L,fY,aD]) (λ x _ y _=>by simp[L,aD]) (λ x hx=>by
     let⟨z,hz,rfl⟩:=QB.mp hx;erw[L,EWs,aE,DH,yf]
     by_cases U:0<=z<;>by_cases T:z<bound<;>simp[U,T,ay])
   have e3:((R[i].map W.int).any λ w=>!DH bound (yf w))=!R[i].all (DH bound):=by rw[Uk,not_all_eq_any_not];rfl
   rw[e3] at K;have Y:ao (Cn pg n) (.blt .len %[|.idx @1 @4]) (L @(.int i) o6) m=.ok (.int R[i].length) m:=by rw[bZ,au,N];erw[ay,aG,bz J,Qq]
   have V:ao (Cn pg n) @2 (L @(.int i) o6) m=.ok (.int width) m:=rfl;have v:ao (Cn pg n) @4 (L @(.int i) o6) m=.ok (.int i) m:=rfl;have G:¬(R.length:Int)<=i:=by omega
   rw[Qt k];erw[fS,aX,cJ,V,v,ay,A,Y,K,aE,G,Oz,Uo,QJ,QY,D.truthy]
   by_cases z:R[i].length=width
   .simp[z]
   .simp[z]
  .rw[Sv 'o'];have G:(R.length:Int)<=i:=by omega
   have v:ao (Cn pg n) @4 (L @(.int i) o6) m=.ok (.int i) m:=rfl;erw[fS,aX,v,ay,A,aE,G,UA,Qx]
 have u:=fL (C:=Cn pg n) (t:=.var 4) (it:=.rng @0) (b:=wj) (Z:=L none none) (m:=m) (m1:=m) (s:=.rng 0 many) (n:=many) (kL (by erw[L,EWs]) 'o') rfl (eF R width bound)
  (λ i Z a=>a=m/\∃o5 o6,Z=L o5 o6) (λ i f a=>a=m/\f=.rt (.int i)) (λ i f a ⟨_,e⟩=>by rw[e];trivial) ⟨rfl,_,_,rfl⟩ (λ i Z a k=>by
   rintro⟨rfl,o5,o6,rfl⟩;refine⟨.int i,L @(.int i) o6,by rw[aV k];simp,by simp[L,aD],λ E=>?_,λ E=>?_⟩
   .have c:=g i o6;rw[E] at c;refine⟨_,_,?_,rfl,rfl⟩;rw[wj,aO];rw[cZ c,aO (bR (w:=.int i) (m1:=a) (by erw[L,EWs]))]
   .have c:=g i o6;rw[E] at c;refine⟨L @(.int i) o6,a,.inl ?_,rfl,_,_,rfl⟩;rw[wj,af (Z1:=L @(.int i) o6) (by rw[bN c,ai]),ai]) (fun Z m _=>aR 'o')
 refine cF (d:=⟨4,6,Mf⟩) rfl rfl ?_;show aF _ Mf (L none none) m=_;rw[Mf];unfold bI;cases e:iV (eF R width bound) many 0 with
 |some i=>
  rw[e] at u;let⟨f,a,F,rfl,rfl⟩:=u;rw[aO F];rfl
 |none=>
  rw[e] at u;let⟨S,a,F,rfl,o5,o6,rfl⟩:=u;rw[af F];have c:br (Cn pg n) (.cmp .Gt (.blt .len %[|@1]) @0) (L o5 o6) a=.ok (decide (many<R.length)) a:=by
   have X:ao (Cn pg n) @0 (L o5 o6) a=.ok (.int many) a:=rfl;erw[aX,A,X,ay,aE];simp
  rw[aO (bR (w:=if many<R.length then .int many else .non) (m1:=a) (by
   rw[bT,c]
   by_cases z:many<R.length
   .erw[z,UA,ay,Qx];rfl
   .erw[z,Uo,ay,QY,QJ];rfl))]
  by_cases z:many<R.length<;>simp[z,optN]
structure Told(M:Mem)(tp ka sa la ra ta:Nat)(ks ss ls:List Str)(rws IE:List W)(R L:List (List Int)):Prop where
 at_:M[tp]?=@(.lst [.ref ka,.ref sa,.ref la,.ref ra,.ref ta])
 p:Parts M (.ref ka) (.ref sa) (.ref la) (.ref ra) (.ref ta) ks ss ls rws IE R L
section
variable{M:Mem}{tp ka sa la ra ta:Nat}{ks ss ls:List Str}{rws IE:List W}{R L:List (List Int)}
abbrev LF(tp ka sa la ra ta:Nat)(ks ss ls:List Str)(o7 o8 o9 gQ g f e a h:Option W):D.Loc:=
 [@(.ref tp),@(.ref ka),@(.ref sa),@(.ref la),@(.ref ra),@(.ref ta),@(.fz ((ks++ss++ls).map .str)),o7,o8,o9,gQ,g,f,e,a,h,none,none]
theorem A6{a:Nat}(h:getL M (.ref a)=some xs):a<M.length:=by
 erw[getL] at h;split at h
 .ext e;exact(Qc.mp e).1
 .cases h
theorem sM(x:Cm M)(o:Bd ks ss ls R L) :
  match iV (iA (ks++ss++ls)) (ks++ss++ls).length 0 with
   |some i=>aM (Cn pg (n+1)) (.for_ (.tup %[@7,|@8]) (.enm @6) oU) (LF tp ka sa la ra ta ks ss ls none none none none none none none none none) M=.ok (.rt (gR "words" i)) M
   |none=>∃o7 o8,aM (Cn pg (n+1)) (.for_ (.tup %[@7,|@8]) (.enm @6) oU) (LF tp ka sa la ra ta ks ss ls none none none none none none none none none) M=.ok (.nx (LF tp ka sa la ra ta ks ss ls o7 o8 none none none none none none none)) M:=by
 let ws:=ks++ss++ls
 have g:=fL (C:=Cn pg (n+1)) (t:=.tup %[@7,|@8]) (it:=.enm @6) (b:=oU) (Z:=LF tp ka sa la ra ta ks ss ls none none none none none none none none none) (m:=M) (m1:=M) (s:=.enm (.tup (ws.map .str))) (n:=ws.length) (by simp[jj,kg,lT,lU,qY,qZ,q8,q9,rj,rm,rq,jk,lV,ki,rA,bu,bB,cH,ji,gk,fk,jN,fV,bY,bT,dY,cY,bU,fy,gF,bZ,gO,bG,eE,dG,j9,dM,kc,dN,gG,iU,bu,bB,cH,gk,fk,jN,fV,bY,bT,dY,cY,bU,fy,bO,bZ,gO,bG,eE,dG,mQ,dM,mP,dN,aG,au,g9,ia,ay,srcOf,ws]) (by simp[Src.len]) (iA ws)
  (λ i Z m=>m=M/\∃o7 o8,Z=LF tp ka sa la ra ta ks ss ls o7 o8 none none none none none none none) (λ i f m=>m=M/\f=.rt (gR "words" i)) (λ i f m ⟨_,e⟩=>by rw[e];trivial) ⟨rfl,_,_,rfl⟩ (λ i Z m h=>by
   rintro⟨rfl,o7,o8,rfl⟩;have a:=o.wd ws[i] (QI h);have F:ws.getD i ""=ws[i]:=by simp[List.getD,h]
   have v:ao (Cn pg (n+1)) (.frz (.slc @6 .none (.some @7))) (LF tp ka sa la ra ta ks ss ls @(.int i) @(.str ws[i]) none none none none none none none) m=.ok (.fz ((ws.take i).map .str)) m:=by
    refine bg (m0:=m) ?_ rfl x (bE _);have E:cW (.fz (ws.map .str)) none (some (i:Int)) m=.ok (.ref m.length) (m++[.lst ((ws.take i).map .str)]):=by
     have B:i<=(ws.map W.str).length:=by simp;omega
     erw[cW,getL,new,pQ,HT.cj];have l:HT.cj (ws.map W.str).length (ws.map W.str).length (some (i:Int))=i:=by
      erw[HT.cj];split<;>simp<;>omega
     erw[HT.cj] at l;rw[l];simp[T8]
    erw[EWs,LF];exact E
   have A:aE .In (.str ws[i]) (.fz ((ws.take i).map .str)) m=.ok (decide (ws[i]∈ws.take i)) m:=by
    have:=sD (m:=m) (z:=ws[i]) (ws:=ws.take i) a.small λ z a=>(o.wd z (SJ a)).small;erw[aE,qX];exact this
   have c:br (Cn pg (n+1)) (.or (.not (.call 18 %[|@8])) (.cmp .In @8 (.frz (.slc @6 .none (.some @7))))) (LF tp ka sa la ra ta ks ss ls @(.int i) @(.str ws[i]) none none none none none none none) m=.ok (iA ws i) m:=by
    have r:ao (Cn pg (n+1)) @8 (LF tp ka sa la ra ta ks ss ls @(.int i) @(.str ws[i]) none none none none none none none) m=.ok (.str ws[i]) m:=rfl;unfold iA;rw[F];erw[fS,dI,cD,bO,au,aG,r,ay,sH a,D.truthy,aX,v,A];cases yg ws[i]<;>simp
   refine⟨.tup [.int i,.str ws[i]],LF tp ka sa la ra ta ks ss ls @(.int i) @(.str ws[i]) none none none none none none none,?_,by simp[LF,aD,cC],λ j=>?_,λ j=>?_⟩
   .rw[fM (w:=.str ws[i])];rw[aW (~~~h)];simp
   .rw[j] at c;refine⟨.rt (gR "words" i),m,?_,rfl,rfl⟩;have a:ao (Cn pg (n+1)) (.tup %[.cst (.str "words"),|@7]) (LF tp ka sa la ra ta ks ss ls @(.int i) @(.str ws[i]) none none none none none none none) m=.ok (gR "words" i) m:=by
     erw[LF,EWs];rw[Qn 'm']
    rw[oU,aO];rw[cZ c,aO (bR a)]
   .rw[j] at c;refine⟨LF tp ka sa la ra ta ks ss ls @(.int i) @(.str ws[i]) none none none none none none none,m,.inl ?_,rfl,_,_,rfl⟩;rw[oU,af (Z1:=LF tp ka sa la ra ta ks ss ls @(.int i) @(.str ws[i]) none none none none none none none) (m1:=m) (by rw[bN c,ai]),ai])
  (fun Z m _=>by rw[dZ];exact aN 's')
 cases e:iV (iA ws) ws.length 0 with
 |some i=>
  rw[e] at g;let⟨f,u,k,rfl,rfl⟩:=g;exact k
 |none=>
  rw[e] at g;let⟨q,u,k,rfl,o7,o8,rfl⟩:=g;exact⟨o7,o8,k⟩
abbrev K3:List W:=[.tup [.int 0,.int 0,.int 2],.tup [.int 1,.int 2,.int 4],.tup [.int 2,.int 0,.int 2]]
abbrev NN:E:=.frz (.lst %[.tup %[@(0),@(0),|@(2)],.tup %[@(1),@(2),|@(4)],|.tup %[@(2),@(0),|@(2)]])
theorem uJ(Y:Cm M)(h:Told M tp ka sa la ra ta ks ss ls rws IE R L) :
  match gr ks.length ss.length ls.length with
   |some i=>aM (Cn pg n) (.for_ (.tup %[@7,@9,|@10]) NN jA) (LF tp ka sa la ra ta ks ss ls o7 o8 none none none none none none none) M=.ok (.rt (gR "many" i)) M
   |none=>∃u o9 gQ,aM (Cn pg n) (.for_ (.tup %[@7,@9,|@10]) NN jA) (LF tp ka sa la ra ta ks ss ls o7 o8 none none none none none none none) M=.ok (.nx (LF tp ka sa la ra ta ks ss ls u o8 o9 gQ none none none none none)) M:=by
 have hI:dw (Cn pg n) NN (LF tp ka sa la ra ta ks ss ls o7 o8 none none none none none none none) M=.ok (.tup K3) M:=by
  rw[lU,bg (m0:=M) (xs:=K3) ?_ rfl Y rfl]
  .rfl
  .have V:∀a b c:W,([a,b,c]:List W).length<=lim:=λ _ _ _=>by simp[lim]
   erw[EVs,V,Qx,new]
 let P:Nat->Bool:=λ i=>match i with
  |0=>decide (2<ks.length)
  |1=>!decide (2<=ss.length/\ss.length<=4)
  |_=>decide (2<ls.length)
 let I:Nat->D.Loc->Mem->Prop:=λ i Z m=>m=M/\∃o7 o9 gQ,Z=LF tp ka sa la ra ta ks ss ls o7 o8 o9 gQ none none none none none
 let O:Nat->F->Mem->Prop:=λ i f m=>m=M/\f=.rt (gR "many" i)
 have v:=fL (C:=Cn pg n) (t:=.tup %[@7,@9,|@10]) (b:=jA) (m1:=M) (s:=.tup K3) (n:=3) hI rfl P
  I O (λ i f m ⟨_,e⟩=>by rw[e];trivial) ⟨rfl,_,_,_,rfl⟩ (λ i Z m hi=>by
   rintro⟨rfl,o7,o9,gQ,rfl⟩;have H:∀(a:Nat) (x y:Int) (w:W) (q:List Str) (b:Bool),aT (.ref tp) (.int a) m=.ok w m->getL m w=some (q.map .str)->(!(decide (x<=q.length)&&decide ((q.length:Int)<=y)))=b->
     (b=true->∃f r,aF (Cn pg n) jA (LF tp ka sa la ra ta ks ss ls @(.int a) o8 @(.int x) @(.int y) none none none none none) m=.ok f r/\O a f r)/\
     (b=false->∃N r,(aF (Cn pg n) jA (LF tp ka sa la ra ta ks ss ls @(.int a) o8 @(.int x) @(.int y) none none none none none) m=.ok (.nx N) r\/aF (Cn pg n) jA (LF tp ka sa la ra ta ks ss ls @(.int a) o8 @(.int x) @(.int y) none none none none none) m=.ok (.ct N) r)/\I (a+1) N r):=λ a x y w q b K J e3=>by
    have l1:aY .len [w] m=.ok (.int q.length) m:=by rw[bz (aK J),Qq]
    have S:br (Cn pg n) (.not (.chain .LtE .LtE @9 (.blt .len %[|.idx @0 @7]) @10)) (LF tp ka sa la ra ta ks ss ls @(.int a) o8 @(.int x) @(.int y) none none none none none) m=.ok b m:=by
     erw[LF,EVs,eZ,fc,fh,fj,fm,fq,fu,fB,cD,cJ,fC,cM,cN,cP,eG,fD,fE,cQ,fF,cR,dH,fS,dI,aX,bK,eK,nj,nk,nq,nu,K,l1,aE];rw[<-e3]
     by_cases z:x<=(q.length:Int)<;>simp[z,ay]
    refine⟨λ E=>?_,λ E=>?_⟩
    .subst E;refine⟨.rt (gR "many" a),m,?_,⟨rfl,rfl⟩⟩;have X:ao (Cn pg n) (.tup %[.cst (.str "many"),|@7]) (LF tp ka sa la ra ta ks ss ls @(.int a) o8 @(.int x) @(.int y) none none none none none) m=.ok (gR "many" a) m:=by
      erw[LF,EWs];rw[Qn 'm']
     rw[jA,aO];rw[cZ S,aO (bR X)]
    .subst E;refine⟨LF tp ka sa la ra ta ks ss ls @(.int a) o8 @(.int x) @(.int y) none none none none none,m,.inl ?_,⟨rfl,_,_,_,rfl⟩⟩;rw[jA,af (Z1:=LF tp ka sa la ra ta ks ss ls @(.int a) o8 @(.int x) @(.int y) none none none none none) (m1:=m) (by rw[bN S,ai]),ai]
   have A:∀(j:Nat) (B:j<5),aT (.ref tp) (.int j) m=.ok ([W.ref ka,.ref sa,.ref la,.ref ra,.ref ta][j]'(~~~B)) m:=λ j B=>bH (by erw[aP,getL,h.at_]) (~~~B);rcases (by omega:i=0\/i=1\/i=2) with rfl | rfl | rfl
   .have g:=H 0 0 2 _ ks (decide (2<ks.length)) (A 0 'd') h.p.k (by
     by_cases z:2<ks.length
     .have:¬(ks.length:Int)<=2:=by omega
      simp[z,this]
     .have:(ks.length:Int)<=2:=by omega
      simp[z,this])
    exact⟨_,_,rfl,rfl,g.1,g.2⟩
   .have g:=H 1 2 4 _ ss (!decide (2<=ss.length/\ss.length<=4)) (A 1 'd') h.p.s (by
     have K:decide ((2:Int)<=ss.length)=decide (2<=ss.length):=QZ.mpr 'o';have J:decide ((ss.length:Int)<=4)=decide (ss.length<=4):=QZ.mpr 'o';rw[K,J,Bool.decide_and])
    exact⟨_,_,rfl,rfl,g.1,g.2⟩
   .have g:=H 2 0 2 _ ls (decide (2<ls.length)) (A 2 'd') h.p.l (by
     by_cases z:2<ls.length
     .have:¬(ls.length:Int)<=2:=by omega
      simp[z,this]
     .have:(ls.length:Int)<=2:=by omega
      simp[z,this])
    exact⟨_,_,rfl,rfl,g.1,g.2⟩)
  (fun Z m _=>rfl)
 have hP:iV P 3 0=gr ks.length ss.length ls.length:=by
  erw[iV,P,gr,Q0,QE,SX]
 rw[hP] at v;cases e:gr ks.length ss.length ls.length with
 |some i=>
  rw[e] at v;let⟨f,U,G,rfl,rfl⟩:=v;exact G
 |none=>
  rw[e] at v;let⟨T,U,G,rfl,u,o9,gQ,rfl⟩:=v;exact⟨_,_,_,G⟩
end
section
variable{M:Mem}{tp ka sa la ra ta:Nat}{ks ss ls:List Str}{rws IE:List W}{R L:List (List Int)}
abbrev P2(ra ta:Nat)(ks ss ls:List Str):List W:=[.tup [.str "row",.ref ra,.int (2^ks.length:Nat),.int ss.length],.tup [.str "lights",.ref ta,.int ls.length,.int 2]]
abbrev Mm:E:=.frz (.lst %[.tup %[.cst (.str "row"),@4,.bin .LShift @(1) (.blt .len %[|@1]),|.blt .len %[|@2]],|.tup %[.cst (.str "lights"),@5,.blt .len %[|@3],|@(2)]])
theorem sN{o9 gQ:Option W}(H:Cm M)(h:Told M tp ka sa la ra ta ks ss ls rws IE R L)(o:Bd ks ss ls R L)(k2:ks.length<=2)(s4:ss.length<=4) :
  match (match bI R ss.length (2^ks.length) ss.length with | some i=>some (gR "row" i) | none=>(bI L ss.length ls.length 2).map (gR "lights")) with
   |some w=>aM (Cn pg (n+1)) (.for_ (.tup %[@8,@11,@12,|@13]) Mm mT) (LF tp ka sa la ra ta ks ss ls o7 o8 o9 gQ none none none none none) M=.ok (.rt w) M
   |none=>∃G F E B j,aM (Cn pg (n+1)) (.for_ (.tup %[@8,@11,@12,|@13]) Mm mT) (LF tp ka sa la ra ta ks ss ls o7 o8 o9 gQ none none none none none) M=.ok (.nx (LF tp ka sa la ra ta ks ss ls o7 G o9 gQ F E B j none)) M:=by
 have l1:∀w A,getL M w=some (A.map W.str)->aY .len [w] M=.ok (.int (A:List Str).length) M:=λ w A Y=>by rw[bz (aK Y),Qq]
 have Ph:=A6 h.p.r.at_;have Pj:=A6 h.p.t.at_;have g1:(0:Int)<=ks.length/\(ks.length:Int)<=1000000/\(1:Int).natAbs<2^64:=⟨by omega,by omega,by decide⟩;have g2:(1:Int)*2^((ks.length:Int)).toNat=((2^ks.length:Nat):Int):=by simp
 have N:dw (Cn pg (n+1)) Mm (LF tp ka sa la ra ta ks ss ls o7 o8 o9 gQ none none none none none) M=.ok (.tup (P2 ra ta ks ss ls)) M:=by
  rw[lU,mL (m0:=M) (l:=[.lst (P2 ra ta ks ss ls)]) (w:=.ref M.length) (w1:=.fz (P2 ra ta ks ss ls)) ?_ rfl H ?_]
  .rfl
  .have X:∀a b c d:W,([a,b,c,d]:List W).length<=lim:=λ _ _ _ _=>by simp[lim]
   have l2:∀a b:W,([a,b]:List W).length<=lim:=λ _ _=>by simp[lim]
   erw[LF,EWs,l1 _ _ h.p.k,l1 _ _ h.p.s,l1 _ _ h.p.l,binop,g1,and_self,g2,X,l2,Qx,new]
  .have hx:(M++[O.lst (P2 ra ta ks ss ls)])[M.length]?=some (.lst (P2 ra ta ks ss ls)):=by simp
   have J:∀a,a<M.length->nh (M++[O.lst (P2 ra ta ks ss ls)]) M.length 7 a=some (.ref a):=λ a ha=>by rw[nh,Qn ha]
   have h3:nh (M++[O.lst (P2 ra ta ks ss ls)]) M.length (7+1) M.length=(eX (nh (M++[O.lst (P2 ra ta ks ss ls)]) M.length 7) (P2 ra ta ks ss ls)).map .fz:=by
    rw[nh,Qu 'o',hx]
   show nh (M++[O.lst (P2 ra ta ks ss ls)]) M.length (7+1) M.length=_;rw[h3];erw[P2,eX,kP,J _ Ph,J _ Pj,R8]
 have m1:aU (D.runN pg (n+1) 19) [.int ss.length,.ref ra,.int (2^ks.length:Nat),.int ss.length] M=.ok (optN (bI R ss.length (2^ks.length) ss.length)) M:=by
  rw[bf rfl];exact misfit (n:=n) (many:=ss.length) (width:=2^ks.length) (bound:=ss.length) H h.p.r 'o' (qm o.rw)
 have V:aU (D.runN pg (n+1) 19) [.int ss.length,.ref ta,.int ls.length,.int 2] M=.ok (optN (bI L ss.length ls.length 2)) M:=by
  rw[bf rfl];exact misfit (n:=n) (many:=ss.length) (width:=ls.length) (bound:=2) H h.p.t 'o' (qm o.tw)
 have S:∀(z:Str) (w:W) (e:Nat) (g:Int) (o8 F E B j:Option W) (r:Option Nat),aU (D.runN pg (n+1) 19) [.int ss.length,w,.int e,.int g] M=.ok (optN r) M->
   aF (Cn pg (n+1)) mT (LF tp ka sa la ra ta ks ss ls o7 @(.str z) o9 gQ (some w) @(.int e) @(.int g) j none) M=match r with
    |some i=>.ok (.rt (gR z i)) M
    |none=>.ok (.nx (LF tp ka sa la ra ta ks ss ls o7 @(.str z) o9 gQ (some w) @(.int e) @(.int g) (some .non) none)) M:=λ z w e g o8 F E B j r hr=>by
  have v:aM (Cn pg (n+1)) (.asg (.pt @14) (.call 19 %[.blt .len %[|@2],@11,@12,|@13])) (LF tp ka sa la ra ta ks ss ls o7 @(.str z) o9 gQ (some w) @(.int e) @(.int g) j none) M=.ok (.nx (LF tp ka sa la ra ta ks ss ls o7 @(.str z) o9 gQ (some w) @(.int e) @(.int g) @(optN r) none)) M:=by
   refine aH (w:=optN r) (m1:=M) ?_ rfl;erw[LF,EWs,l1 _ _ h.p.s,hr]
  rw[mT,af v];cases r with
  |some i=>
   have I:br (Cn pg (n+1)) (.cmp .IsNot @14 (.cst .non)) (LF tp ka sa la ra ta ks ss ls o7 @(.str z) o9 gQ (some w) @(.int e) @(.int g) @(optN (some i)) none) M=.ok true M:=by erw[LF,optN,EVs,eZ,fc,fh,fj,fm,fq,fu,fB,cD,cJ,fC,cM,cN,cP,eG,fD,fE,cQ,fF,cR,dH,fS,dI,aX,bK,eK,nj,nk,nq,nu,aE,lQ,UB]
   rw[aO];rw[cZ I,aO (bR (w:=gR z i) (m1:=M) ?_)];erw[LF,optN,EWs];rw[Qn 'm']
  |none=>
   have I:br (Cn pg (n+1)) (.cmp .IsNot @14 (.cst .non)) (LF tp ka sa la ra ta ks ss ls o7 @(.str z) o9 gQ (some w) @(.int e) @(.int g) @(optN none) none) M=.ok false M:=by erw[LF,optN,EVs,eZ,fc,fh,fj,fm,fq,fu,fB,cD,cJ,fC,cM,cN,cP,eG,fD,fE,cQ,fF,cR,dH,fS,dI,aX,bK,eK,nj,nk,nq,nu,aE,lQ,T3]
   rw[af (m1:=M) (by rw[bN I,ai]),ai];rfl
 have U:aD (.tup %[@8,@11,@12,|@13]) (.tup [.str "row",.ref ra,.int (2^ks.length:Nat),.int ss.length]) (LF tp ka sa la ra ta ks ss ls o7 o8 o9 gQ none none none none none)=some (LF tp ka sa la ra ta ks ss ls o7 @(.str "row") o9 gQ @(.ref ra) @(.int (2^ks.length:Nat)) @(.int ss.length) none none):=by simp[LF,aD,cC]
 have T:aD (.tup %[@8,@11,@12,|@13]) (.tup [.str "lights",.ref ta,.int ls.length,.int 2]) (LF tp ka sa la ra ta ks ss ls o7 @(.str "row") o9 gQ @(.ref ra) @(.int (2^ks.length:Nat)) @(.int ss.length) (some .non) none)=some (LF tp ka sa la ra ta ks ss ls o7 @(.str "lights") o9 gQ @(.ref ta) @(.int ls.length) @(.int 2) (some .non) none):=by simp[LF,aD,cC]
 have w1:=S "row" (.ref ra) (2^ks.length) ss.length none none none none none _ m1;have u:=S "lights" (.ref ta) ls.length 2 none none none none (some .non) _ V;cases K:bI R ss.length (2^ks.length) ss.length with
 |some i=>
  rw[K] at w1;exact mG N (vS (x:=.tup [.str "row",.ref ra,.int (2^ks.length:Nat),.int ss.length]) (k:=1) rfl U w1)
 |none=>
  rw[K] at w1;have v:∀f,dX (Src.tup (P2 ra ta ks ss ls)).get (.tup %[@8,@11,@12,|@13]) (fun Z m=>aF (Cn pg (n+1)) mT Z m) 1 1 (LF tp ka sa la ra ta ks ss ls o7 @(.str "row") o9 gQ @(.ref ra) @(.int (2^ks.length:Nat)) @(.int ss.length) (some .non) none) M=.ok f M->
    aM (Cn pg (n+1)) (.for_ (.tup %[@8,@11,@12,|@13]) Mm mT) (LF tp ka sa la ra ta ks ss ls o7 o8 o9 gQ none none none none none) M=.ok f M:=λ f hf=>by
   refine mG N ?_;show dX (Src.tup (P2 ra ta ks ss ls)).get _ _ 2 0 _ M=_;rw[kX (x:=.tup [.str "row",.ref ra,.int (2^ks.length:Nat),.int ss.length]) rfl U w1];exact hf
  dsimp only;cases q:bI L ss.length ls.length 2 with
  |some i=>
   rw[q] at u;exact v _ (vS (x:=.tup [.str "lights",.ref ta,.int ls.length,.int 2]) (k:=0) rfl T u)
  |none=>
   rw[q] at u;refine⟨some (.str "lights"),@(.ref ta),@(.int ls.length),@(.int 2),some .non,v _ ?_⟩;rw[kX (x:=.tup [.str "lights",.ref ta,.int ls.length,.int 2]) (k:=0) rfl T u];exact mE rfl
theorem yj(H:Cm M)(h:Told M tp ka sa la ra ta ks ss ls rws IE R L)(o:Bd ks ss ls R L):aU (D.runN pg (n+1+1) 20) [.ref tp] M=.ok ((cV ks ss ls R L).getD .non) M:=by
 rw[bf rfl];refine cF (d:=⟨1,18,Mg⟩) rfl rfl ?_;show aF _ Mg [@(.ref tp),none,none,none,none,none,none,none,none,none,none,none,none,none,none,none,none,none] M=_
 let I:D.Loc:=[@(.ref tp),@(.ref ka),@(.ref sa),@(.ref la),@(.ref ra),@(.ref ta),none,none,none,none,none,none,none,none,none,none,none,none]
 have a1:aM (Cn pg (n+1)) (.asg (.tup %[.pt @1,.pt @2,.pt @3,.pt @4,|.pt @5]) @0) [@(.ref tp),none,none,none,none,none,none,none,none,none,none,none,none,none,none,none,none,none] M=.ok (.nx I) M:=by
  erw[I,fH,bu,nj,nk,nq,nu,ay,fT,aP,getL,h.at_,fU,aD]
 have c1:(ks.map W.str).length+(ss.map W.str).length<=lim:=by have:=o.k;have:=o.s;simp[lim];omega
 have c2:((ks++ss).map W.str).length+(ls.map W.str).length<=lim:=by have:=o.k;have:=o.s;have:=o.l;simp[lim];omega
 have f1:ao (Cn pg (n+1)) (.frz (.bin .Add @1 @2)) I M=.ok (.fz ((ks++ss).map .str)) M:=by
  refine bg (m0:=M) ?_ rfl H (bE _);erw[I,EWs];rw[oW h.p.k h.p.s c1,QK]
 have f2:ao (Cn pg (n+1)) (.frz (.bin .Add (.frz (.bin .Add @1 @2)) @3)) I M=.ok (.fz ((ks++ss++ls).map .str)) M:=by
  refine bg (m0:=M) ?_ rfl H (bE _);have v3:ao (Cn pg (n+1)) @3 I M=.ok (.ref la) M:=rfl;rw[cH,f1];erw[ay,v3];rw[oW (xs:=(ks++ss).map .str) rfl h.p.l c2,QK (l₁:=ks++ss)]
 have G:=sM (n:=n) (tp:=tp) (ka:=ka) (sa:=sa) (la:=la) (ra:=ra) (ta:=ta) H o;rw[Mg,af a1,af (Z1:=LF tp ka sa la ra ta ks ss ls none none none none none none none none none) (aH f2 rfl)];unfold cV;cases N:iV (iA (ks++ss++ls)) (ks++ss++ls).length 0 with
 |some i=>rw[N] at G;rw[aO G];rfl
 |none=>
  rw[N] at G;let⟨o7,o8,G⟩:=G;rw[af G];have F:=uJ (n:=n+1) (o7:=o7) (o8:=o8) H h;dsimp only;cases E:gr ks.length ss.length ls.length with
  |some i=>rw[E] at F;rw[aO F];rfl
  |none=>
   rw[E] at F;let⟨g,o9,gQ,F⟩:=F;rw[af F];let⟨k2,s2,s4,l2⟩:=mV E;have v:=sN (n:=n) (o7:=g) (o8:=o8) (o9:=o9) (gQ:=gQ) H h o k2 s4;dsimp only;cases V:bI R ss.length (2^ks.length) ss.length with
   |some i=>rw[V] at v;rw[aO v];rfl
   |none=>
    rw[V] at v;dsimp only at v ⊢;cases S:bI L ss.length ls.length 2 with
    |some i=>rw[S] at v;rw[aO v];rfl
    |none=>
     rw[S] at v;let⟨j,B,A,x,T,v⟩:=v;rw[af v];let⟨g1,g2⟩:=kq V;have hR:H9 R (2^ks.length):=λ r hr=>by rw[g1];exact g2 r hr
     let⟨s,s1,J,s3⟩:=jx (aK h.p.r.at_);have U:=fL (C:=Cn pg (n+1)) (t:=.tup %[@14,|@15]) (it:=.enm @4) (b:=wk) (Z:=LF tp ka sa la ra ta ks ss ls g j o9 gQ B A x T none) (m:=M) (m1:=M) (s:=.enm s) (n:=R.length) (by erw[ki,bu,LF,nj,nk,nq,nu,ay,s1]) (by erw[Src.len,s3,h.p.r.len]) (mU R)
      (λ i Z u=>u=M/\∃T Ml,Z=LF tp ka sa la ra ta ks ss ls g j o9 gQ B A x T Ml) (λ i f u=>u=M/\f=.rt (gR "unsettled" i)) (λ i f u ⟨_,e⟩=>by rw[e];trivial) ⟨rfl,_,_,rfl⟩ (λ i Z u hi=>by
       rintro⟨rfl,T,Ml,rfl⟩;have K:i<rws.length:=by rw[h.p.r.len];exact hi
       have c:=sF (C:=Cn pg (n+1)) (a:=16) (b:=17) (r:=15) (w:=4) (Z:=LF tp ka sa la ra ta ks ss ls g j o9 gQ B A x @(.int i) (some rws[i])) H h.p.r hR (by have:=mW k2;simp[lim];omega) K 's' 's' 'd' 'd' 'd' 'd' 'd' rfl rfl;refine⟨.tup [.int i,rws[i]],LF tp ka sa la ra ta ks ss ls g j o9 gQ B A x @(.int i) (some rws[i]),?_,by simp[LF,aD,cC],λ X=>?_,λ X=>?_⟩
       .rw[fM (w:=rws[i])];rw[J,aW K]
       .rw[X] at c;refine⟨_,_,?_,rfl,rfl⟩;have hz:ao (Cn pg (n+1)) (.tup %[.cst (.str "unsettled"),|@14]) (LF tp ka sa la ra ta ks ss ls g j o9 gQ B A x @(.int i) (some rws[i])) u=.ok (gR "unsettled" i) u:=by
         erw[LF,EWs];rw[Qn 'm']
        rw[wk,aO];rw[cZ (k9 (cJ _ _) c),aO (bR hz)]
       .rw[X] at c;refine⟨LF tp ka sa la ra ta ks ss ls g j o9 gQ B A x @(.int i) (some rws[i]),u,.inl ?_,rfl,_,_,rfl⟩;rw[wk,af (Z1:=LF tp ka sa la ra ta ks ss ls g j o9 gQ B A x @(.int i) (some rws[i])) (m1:=u) (by rw[bN (k9 (cJ _ _) c),ai]),ai])
      (fun Z u q=>by let⟨rfl,_⟩:=q;rw[dZ (by rw[J];exact aN (by have:=h.p.r.len;omega))])
     dsimp only;cases e:iV (mU R) R.length 0 with
     |some i=>
      rw[e] at U;let⟨f,u,Y,rfl,rfl⟩:=U;rw[aO Y];rfl
     |none=>
      rw[e] at U;let⟨ρ',u,Y,rfl,_⟩:=U;rw[af Y,aO (bR (w:=.non) (m1:=u) (by erw[EVs]))];rfl
end
def Holds(M:Mem)(P:List (Nat×O)):Prop:=(P.map (·.1)).Nodup/\∀p∈P,M[p.1]?=some p.2
theorem Holds.get{a:Nat}(h:Holds M P)(e:P=l1++(a,o)::l2):M[a]?=some o:=by
 subst e;exact h.2 _ (QL _ QM)
theorem Holds.app{l:Mem}(h:Holds M P):Holds (M++l) P:=⟨h.1,λ p a=>by
 rw[Qh (Qc.mp (h.2 p a)).1];exact h.2 p a⟩
theorem Holds.put{a:Nat}{o':O}(h:Holds M P)(e:P=l1++(a,o)::l2):Holds (M.set a o') (l1++(a,o')::l2):=by
 subst e;have j:=h.1;have q:=(Qc.mp (h.2 (a,o) (QL _ QM))).1;refine⟨~~~j,λ p f=>?_⟩;rw[QK,QF,R6] at j;let⟨r,k,l⟩:=j;rw[SQ] at k;rcases Qz.mp f with f | f
 .have g:a≠p.1:=λ z=>l p.1 (Sq f) a QM z.symm;rw[QA g];exact h.2 p (Q8 _ f)
 .rcases Qv.mp f with rfl | f
  .exact QG q
  .have g:a≠p.1:=λ z=>k.1 (by rw[show ((a,o):Nat×O).1=p.1 from z];exact Sq f);rw[QA g];exact h.2 p (QL _ (QC _ f))
theorem Holds.sub{Q:List (Nat×O)}(h:Holds M P)(f:(Q.map (·.1)).Nodup)(a:∀p∈Q,p∈P):Holds M Q:=⟨f,λ p e=>h.2 p (a p e)⟩
theorem Holds.new(h:Holds M P)(e:P=l1++l2):Holds (M++[o]) (l1++(M.length,o)::l2):=by
 subst e;have g:∀p∈l1++l2,p.1<M.length:=λ p f=>(Qc.mp (h.2 p f)).1;have k:=h.1;rw[QK,R6] at k;let⟨u,t,r⟩:=k;refine⟨?_,λ p f=>?_⟩
 .rw[QK,QF,R6,SQ];refine⟨u,⟨λ v=>?_,t⟩,λ a l b j=>?_⟩
  .let⟨p,f,e⟩:=QB.mp v;have:=g p (QL _ f);omega
  .rcases Qv.mp j with rfl | j
   .let⟨p,f,e⟩:=QB.mp l;have:=g p (Q8 _ f);omega
   .exact r a l b j
 .have q:∀p∈l1++l2,(M++[o])[p.1]?=some p.2:=λ p f=>by rw[Qh (g p f)];exact h.2 p f
  rcases Qz.mp f with f | f
  .exact q p (Q8 _ f)
  .rcases Qv.mp f with rfl | f
   .simp
   .exact q p (QL _ f)
abbrev dg(q:Nat×List Int):Nat×O:=(q.1,.lst (q.2.map .int))
abbrev gu(f e a ra ta:Nat):O:=.lst [.ref f,.ref e,.ref a,.ref ra,.ref ta]
abbrev aZ(Q:List (Nat×List Int)):O:=.lst (Q.map λ q=>W.ref q.1)
def Pl(tp f e a ra ta:Nat)(ks ss ls:List Str)(Q:List (Nat×List Int))(L:List (List Int)):List (Nat×O):=
 (tp,gu f e a ra ta)::(f,.lst (ks.map .str))::(e,.lst (ss.map .str))::(a,.lst (ls.map .str))::(ra,aZ Q)::(ta,.lst (L.map tupI))::Q.map dg
structure Sh(M:Mem)(tp k0 k1 k2 ra ta:Nat)(ks ss ls:List Str)(Q:List (Nat×List Int))(L:List (List Int)):Prop where
 h:Holds M (Pl tp k0 k1 k2 ra ta ks ss ls Q L)
 cm:Cm M
abbrev gx(Q:List (Nat×List Int)):List (List Int):=Q.map (·.2)
abbrev mZ(Q:List (Nat×List Int)):List W:=Q.map λ q=>.ref q.1
section
variable{M:Mem}{tp k0 k1 k2 ra ta:Nat}{ks ss ls:List Str}{Q:List (Nat×List Int)}{L:List (List Int)}
theorem Sh.t(s:Sh M tp k0 k1 k2 ra ta ks ss ls Q L):M[tp]?=some (gu k0 k1 k2 ra ta):=s.h.get (l1:=[]) rfl
theorem Sh.w0(s:Sh M tp k0 k1 k2 ra ta ks ss ls Q L):M[k0]?=some (.lst (ks.map .str)):=s.h.get (l1:=[_]) rfl
theorem Sh.w1(s:Sh M tp k0 k1 k2 ra ta ks ss ls Q L):M[k1]?=some (.lst (ss.map .str)):=s.h.get (l1:=[_,_]) rfl
theorem Sh.w2(s:Sh M tp k0 k1 k2 ra ta ks ss ls Q L):M[k2]?=some (.lst (ls.map .str)):=s.h.get (l1:=[_,_,_]) rfl
theorem Sh.r(s:Sh M tp k0 k1 k2 ra ta ks ss ls Q L):M[ra]?=some (aZ Q):=s.h.get (l1:=[_,_,_,_]) rfl
theorem Sh.l(s:Sh M tp k0 k1 k2 ra ta ks ss ls Q L):M[ta]?=some (.lst (L.map tupI)):=s.h.get (l1:=[_,_,_,_,_]) rfl
theorem Sh.q(s:Sh M tp k0 k1 k2 ra ta ks ss ls Q L)(hi:i<Q.length):M[Q[i].1]?=some (.lst (Q[i].2.map .int)):=by
 have a:dg Q[i]∈Pl tp k0 k1 k2 ra ta ks ss ls Q L:=by
  unfold Pl;erw[RI];exact .inr (.inr (.inr (.inr (.inr (.inr (Sq (QI hi)))))))
 exact s.h.2 _ a
theorem aL{a:Nat}(h:m[a]?=@(.lst xs)):getL m (.ref a)=some xs:=by erw[getL,h]
theorem Sh.rows(s:Sh M tp k0 k1 k2 ra ta ks ss ls Q L):Rows M (.ref ra) (mZ Q) (gx Q):=
 ⟨aL s.r,by simp,λ i h e=>by
  have a:i<Q.length:=by simpa using h
  erw[Rk];exact aK (aL (s.q a))⟩
theorem Sh.told(s:Sh M tp k0 k1 k2 ra ta ks ss ls Q L):Told M tp k0 k1 k2 ra ta ks ss ls (mZ Q) (L.map tupI) (gx Q) L:=
 ⟨s.t,aL s.w0,aL s.w1,aL s.w2,s.rows,⟨aL s.l,by simp,λ i h a=>by simp[aP]⟩⟩
theorem Sh.app{l:Mem}(s:Sh M tp k0 k1 k2 ra ta ks ss ls Q L)(h:Cm (M++l)):Sh (M++l) tp k0 k1 k2 ra ta ks ss ls Q L:=⟨s.h.app,h⟩
theorem Sh.nB(s:Sh M tp k0 k1 k2 ra ta ks ss ls Q L)(zs:List Str):Sh (M.set k0 (.lst (zs.map .str))) tp k0 k1 k2 ra ta zs ss ls Q L:=⟨s.h.put (l1:=[_]) rfl,s.cm.set (aJ _ (bE _))⟩
theorem Sh.NO(s:Sh M tp k0 k1 k2 ra ta ks ss ls Q L)(zs:List Str):Sh (M.set k1 (.lst (zs.map .str))) tp k0 k1 k2 ra ta ks zs ls Q L:=⟨s.h.put (l1:=[_,_]) rfl,s.cm.set (aJ _ (bE _))⟩
theorem Sh.H8(s:Sh M tp k0 k1 k2 ra ta ks ss ls Q L)(zs:List Str):Sh (M.set k2 (.lst (zs.map .str))) tp k0 k1 k2 ra ta ks ss zs Q L:=⟨s.h.put (l1:=[_,_,_]) rfl,s.cm.set (aJ _ (bE _))⟩
theorem Sh.kG(s:Sh M tp k0 k1 k2 ra ta ks ss ls Q L)(a:List (List Int)):Sh (M.set ta (.lst (a.map tupI))) tp k0 k1 k2 ra ta ks ss ls Q a:=⟨s.h.put (l1:=[_,_,_,_,_]) rfl,s.cm.set (aJ _ (iX _))⟩
theorem jD:∀{xs:List Nat},(∀a∈xs,a<n)->bq n (xs.map W.ref)=true
 | [],_=>rfl
 |a::r,h=>by
  erw[QF,bq,eY,Qe,QE];exact⟨h a QM,jD λ b e=>h b (QC _ e)⟩
theorem Sh.lt(s:Sh M tp k0 k1 k2 ra ta ks ss ls Q L):tp<M.length/\k0<M.length/\k1<M.length/\k2<M.length/\ra<M.length/\ta<M.length/\∀q∈Q,q.1<M.length:=
 have g:∀{a:Nat} {o:O},M[a]?=some o->a<M.length:=λ h=>(Qc.mp h).1
 ⟨g s.t,g s.w0,g s.w1,g s.w2,g s.r,g s.l,λ q e=>by let⟨i,f,rfl⟩:=Rj.mp e;exact g (s.q f)⟩
theorem Sh.Ia(s:Sh M tp k0 k1 k2 ra ta ks ss ls Q L)(hi:i<Q.length)(v:List Int):Sh (M.set Q[i].1 (.lst (v.map .int))) tp k0 k1 k2 ra ta ks ss ls (Q.set i (Q[i].1,v)) L:=by
 refine⟨?_,s.cm.set (aJ _ (iy _))⟩;have e:Q=Q.take i++Q[i]::Q.drop (i+1):=by rw[getElem_cons_drop,T7]
 have g:Q.set i (Q[i].1,v)=Q.take i++(Q[i].1,v)::Q.drop (i+1):=by rw[set_eq_take_append_cons_drop,Qn hi]
 have f:aZ (Q.set i (Q[i].1,v))=aZ Q:=by
  unfold aZ;congr 1;apply Uz
  .simp
  .intro j l k;erw[Rk,getElem_set];split
   .ext z;subst z;rfl
   .rfl
 have h:=s.h.put (l1:=(tp,gu k0 k1 k2 ra ta)::(k0,.lst (ks.map .str))::(k1,.lst (ss.map .str))::(k2,.lst (ls.map .str))::(ra,aZ Q)::(ta,.lst (L.map tupI))::(Q.take i).map dg) (l2:=(Q.drop (i+1)).map dg) (a:=Q[i].1) (o:=.lst (Q[i].2.map .int)) (o':=.lst (v.map .int)) (by
  unfold Pl
  conv=>lhs;rw[show Q.map dg=(Q.take i).map dg++dg Q[i]::(Q.drop (i+1)).map dg by rw[<-QF,<-QK,<-e]]
  rfl)
 unfold Pl;rw[f];rw[show (Q.set i (Q[i].1,v)).map dg=(Q.take i).map dg++dg (Q[i].1,v)::(Q.drop (i+1)).map dg by rw[g,QK,QF]];exact h
theorem Sh.NP(s:Sh M tp k0 k1 k2 ra ta ks ss ls Q L){Q':List (Nat×List Int)}(t:(Q'.map (·.1)).Nodup)(j:∀q∈Q',q∈Q):Sh (M.set ra (aZ Q')) tp k0 k1 k2 ra ta ks ss ls Q' L:=by
 have v:=s.h.put (l1:=[_,_,_,_]) (o':=aZ Q') rfl;refine⟨v.sub ?_ ?_,s.cm.set (show bq _ _=true from ?_)⟩
 .have r:=s.h.1;erw[Pl,QF,SQ,RI,Ug,R7] at r ⊢;have f:∀a,a∉Q.map (Prod.fst∘dg)->a∉Q'.map (Prod.fst∘dg):=λ a k u=>by
   let⟨q,g,e⟩:=QB.mp u;exact k (QB.mpr ⟨q,j q g,e⟩)
  let⟨⟨a1,a2,a3,Y,X,V⟩,⟨U,T,S,R,N⟩,⟨K,J,I,H⟩,⟨G,F,E⟩,⟨B,A⟩,x,_⟩:=r;exact⟨⟨a1,a2,a3,Y,X,f _ V⟩,⟨U,T,S,R,f _ N⟩,⟨K,J,I,f _ H⟩,⟨G,F,f _ E⟩,⟨B,f _ A⟩,f _ x,t⟩
 .intro p l;erw[Pl,RI,cons_append,TV] at l ⊢;rcases l with h | h | h | h | h | h | h
  .exact .inl h
  .exact .inr (.inl h)
  .exact .inr (.inr (.inl h))
  .exact .inr (.inr (.inr (.inl h)))
  .exact .inr (.inr (.inr (.inr (.inl h))))
  .exact .inr (.inr (.inr (.inr (.inr (.inl h)))))
  .let⟨q,g,rfl⟩:=QB.mp h;exact .inr (.inr (.inr (.inr (.inr (.inr (Sq (j q g)))))))
 .have:(Q'.map λ q=>W.ref q.1)=(Q'.map (·.1)).map W.ref:=by rw[R7];rfl
  rw[this];refine jD λ a k=>?_;let⟨q,g,rfl⟩:=QB.mp k;exact s.lt.2.2.2.2.2.2 q (j q g)
theorem Sh.NQ(s:Sh M tp k0 k1 k2 ra ta ks ss ls Q L)(v:List Int):Holds (M++[O.lst (v.map .int)]) ((tp,gu k0 k1 k2 ra ta)::(k0,O.lst (ks.map .str))::(k1,O.lst (ss.map .str))::(k2,O.lst (ls.map .str))::(ra,aZ Q)::(ta,O.lst (L.map tupI))::dg (M.length,v)::Q.map dg):=
 s.h.new (l1:=[_,_,_,_,_,_]) rfl
theorem Sh.Ib(s:Sh M tp k0 k1 k2 ra ta ks ss ls Q L)(v:List Int)(i:Nat):Sh ((M++[O.lst (v.map .int)]).set ra (aZ (Q.take i++[(M.length,v)]++Q.drop i))) tp k0 k1 k2 ra ta ks ss ls (Q.take i++[(M.length,v)]++Q.drop i) L:=by
 have g:=s.lt;have j:Holds ((M++[O.lst (v.map .int)]).set ra (aZ (Q.take i++[(M.length,v)]++Q.drop i))) ((tp,gu k0 k1 k2 ra ta)::(k0,O.lst (ks.map .str))::(k1,O.lst (ss.map .str))::(k2,O.lst (ls.map .str))::(ra,aZ (Q.take i++[(M.length,v)]++Q.drop i))::(ta,O.lst (L.map tupI))::dg (M.length,v)::Q.map dg):=(s.NQ v).put (l1:=[_,_,_,_]) rfl;have e:((M.length,v)::Q).Perm (Q.take i++[(M.length,v)]++Q.drop i):=by
  rw[Rc];have:=perm_middle (a:=(M.length,v)) (l₁:=Q.take i) (l₂:=Q.drop i);rw[T7] at this;exact this.symm
 have h:((tp,gu k0 k1 k2 ra ta)::(k0,O.lst (ks.map .str))::(k1,O.lst (ss.map .str))::(k2,O.lst (ls.map .str))::(ra,aZ (Q.take i++[(M.length,v)]++Q.drop i))::(ta,O.lst (L.map tupI))::dg (M.length,v)::Q.map dg).Perm (Pl tp k0 k1 k2 ra ta ks ss ls (Q.take i++[(M.length,v)]++Q.drop i) L):=
  (((((((e.map dg).cons _).cons _).cons _).cons _).cons _).cons _)
 refine⟨j.sub ((h.map _).nodup j.1) λ p e=>h.mem_iff.mpr e,(s.cm.push (o:=O.lst (v.map .int)) (aJ _ (iy _))).set ?_⟩;show bq _ _=true;have:((Q.take i++[(M.length,v)]++Q.drop i).map λ q=>W.ref q.1)=((Q.take i++[(M.length,v)]++Q.drop i).map (·.1)).map W.ref:=by rw[R7];rfl
 rw[this];refine jD λ a k=>?_;let⟨q,f,rfl⟩:=QB.mp k;rcases Qv.mp (e.mem_iff.mpr f) with rfl | f
 .simp
 .have:=g.2.2.2.2.2.2 q f;simp;omega
theorem Sh.new1(s:Sh M tp k0 k1 k2 ra ta ks ss ls Q L)(zs:List Str):Sh ((M++[O.lst (zs.map .str)]).set tp (gu k0 M.length k2 ra ta)) tp k0 M.length k2 ra ta ks zs ls Q L:=by
 have a:=s.lt;have j:=s.h.new (l1:=[_,_]) (l2:=(k1,O.lst (ss.map .str))::(k2,O.lst (ls.map .str))::(ra,aZ Q)::(ta,O.lst (L.map tupI))::Q.map dg) (o:=O.lst (zs.map .str)) rfl;have f:Holds ((M++[O.lst (zs.map .str)]).set tp (gu k0 M.length k2 ra ta)) ((tp,gu k0 M.length k2 ra ta)::(k0,O.lst (ks.map .str))::(M.length,O.lst (zs.map .str))::(k1,O.lst (ss.map .str))::(k2,O.lst (ls.map .str))::(ra,aZ Q)::(ta,O.lst (L.map tupI))::Q.map dg):=j.put (l1:=[]) rfl;refine⟨f.sub ?_ ?_,(s.cm.push (o:=O.lst (zs.map .str)) (aJ _ (bE _))).set ?_⟩
 .have g:=f.1;erw[Pl,QF,QK,Tp,cons_append,TV,SQ,RI,Ug] at g ⊢;let⟨⟨U,T,a3,S,R,N,K⟩,⟨J,b3,I,H,G,F⟩,⟨c3,E,B,A,x⟩,⟨d4,d5,d6,d7⟩,⟨v,u,t⟩,⟨r,q⟩,l,k⟩:=g;exact⟨⟨U,T,S,R,N,K⟩,⟨J,I,H,G,F⟩,⟨E,B,A,x⟩,⟨v,u,t⟩,⟨r,q⟩,l,k⟩
 .intro p e;erw[Pl,RI,cons_append,TV] at e ⊢;rcases e with h | h | h | h | h | h | h
  .exact .inl h
  .exact .inr (.inl h)
  .exact .inr (.inr (.inl h))
  .exact .inr (.inr (.inr (.inr (.inl h))))
  .exact .inr (.inr (.inr (.inr (.inr (.inl h)))))
  .exact .inr (.inr (.inr (.inr (.inr (.inr (.inl h))))))
  .exact .inr (.inr (.inr (.inr (.inr (.inr (.inr h))))))
 .let⟨l1,l2,l3,Y,X,V,_⟩:=a;show bq _ _=true;simp[bq,eY];omega
end
mutual
theorem A7{k n:Nat}:∀{w:W},eY n w=true->eY (k+n) (qG k w)=true
 |.tup xs,h=>by erw[qG,eY] at h ⊢;exact gK h
 |.fz xs,h=>by erw[qG,eY] at h ⊢;exact gK h
 |.obj _ _ vs,h=>by erw[qG,eY] at h ⊢;exact gK h
 |.ref a,h=>by erw[qG,eY,QE] at h ⊢;omega
 |.non,_=>rfl
 |.bl _,_=>rfl
 |.int _,_=>rfl
 |.str _,_=>rfl
theorem gK{k n:Nat}:∀{ws:List W},bq n ws=true->bq (k+n) (gT k ws)=true
 | [],_=>rfl
 |x::r,h=>by
  erw[bq,Qe,gT] at h ⊢;exact⟨A7 h.1,gK h.2⟩
end
theorem qt{k:Nat}:∀{a:List (Str×W)},bq n (a.map (·.2))=true->bq (k+n) ((xY k a).map (·.2))=true
 | [],_=>rfl
 |(f,x)::r,h=>by
  erw[QF,bq,Qe,xY] at h ⊢;exact⟨A7 h.1,qt h.2⟩
theorem DJ{k:Nat}(h:gE n o=true):gE (k+n) (xZ k o)=true:=by
 cases o<;>first|exact gK h|exact qt h|rfl
theorem Cm.up{l:Mem}(f:Cm m)(g:Cm l):Cm (m++l.map (xZ m.length)):=f.app λ o e=>by
 let⟨a,h,rfl⟩:=QB.mp e;rw[Qq];exact DJ (mK.mp g a h)
theorem m7(k:Nat):∀{ws:List W},aC ws=true->gT k ws=ws:=by
 have e:∀w:W,aQ w=true->qG k w=w:=λ w=>by
  refine W.rec (motive_1:=λ w=>aQ w=true->qG k w=w) (motive_2:=λ ws=>aC ws=true->gT k ws=ws) ?_ ?_ ?_ ?_ ?_ ?_ ?_ ?_ ?_ ?_ w
  .intro _;rfl
  .intro b _;rfl
  .intro b _;rfl
  .intro b _;rfl
  .intro xs a h;erw[aQ,qG] at h ⊢;rw[a h]
  .intro xs a h;erw[aQ,qG] at h ⊢;rw[a h]
  .intro c ks xs a h;erw[aQ,qG] at h ⊢;rw[a h]
  .intro n h;cases h
  .intro _;rfl
  .intro x r g f h;erw[aC,Qe] at h;rw[gT,g h.1,f h.2]
 intro ws
 induction ws with
 |nil=>intro _;rfl
 |cons x r a=>
  intro h;erw[aC,Qe] at h;rw[gT,e x h.1,a h.2]
theorem Holds.up{l:Mem}(h:Holds l P):Holds (M++l.map (xZ M.length)) (P.map λ p=>(M.length+p.1,xZ M.length p.2)):=by
 refine⟨?_,λ p g=>?_⟩
 .have e:(P.map λ p=>(M.length+p.1,xZ M.length p.2)).map (·.1)=(P.map (·.1)).map (M.length+·):=by rw[R7,R7];rfl
  rw[e];have:=h.1;rw[Ux] at this ⊢;rw[pairwise_map];exact this.imp λ a e=>a 'o'
 .let⟨q,f,rfl⟩:=QB.mp g;rw[Qy 's',S1];simp[h.2 q f]
theorem yk(k:Nat):∀l:List Nat,gT k (l.map .ref)=(l.map (k+·)).map .ref:=by
 intro l
 induction l with
 |nil=>rfl
 |cons a r e=>rw[QF,gT,qG,e];rfl
section
variable{M:Mem}{tp k0 k1 k2 ra ta:Nat}{ks ss ls:List Str}{Q:List (Nat×List Int)}{R L:List (List Int)}{rws:List W}
theorem Sh.up{l:Mem}(s:Sh l tp k0 k1 k2 ra ta ks ss ls Q L)(f:Cm M):Sh (M++l.map (xZ M.length)) (M.length+tp) (M.length+k0) (M.length+k1) (M.length+k2) (M.length+ra) (M.length+ta) ks ss ls (Q.map λ q=>(M.length+q.1,q.2)) L:=by
 refine⟨?_,Cm.up f s.cm⟩;have h:=s.h.up (M:=M);have e:(Pl tp k0 k1 k2 ra ta ks ss ls Q L).map (λ p=>(M.length+p.1,xZ M.length p.2))=Pl (M.length+tp) (M.length+k0) (M.length+k1) (M.length+k2) (M.length+ra) (M.length+ta) ks ss ls (Q.map λ q=>(M.length+q.1,q.2)) L:=by
  have a:gT M.length (Q.map λ q=>W.ref q.1)=(Q.map λ q=>(M.length+q.1,q.2)).map λ q=>W.ref q.1:=by
   have:(Q.map λ q=>W.ref q.1)=(Q.map (·.1)).map W.ref:=by rw[R7];rfl
   rw[this,yk,R7,R7,R7];rfl
  erw[Pl,aZ,QF,xZ,gT,qG,m7 _ (bE _),m7 _ (iX _),a,R7];congr 6;apply map_congr_left;intro q _;erw[Function.comp,dg,xZ,m7 _ (iy _)]
 rw[e] at h;exact h
theorem copy{k l r t:W}(hm:Cm M)(hw:aP M w=some [k,s,l,r,t])(p:Parts M k s l r t ks ss ls rws (L.map tupI) R L)(hR:R.length<=1000) :
  ∃l0 tp k0 k1 k2 ra ta Q,D.runN pg (n+1) 17 [w] M=.ok (.ref tp) (M++l0)/\Sh (M++l0) tp k0 k1 k2 ra ta ks ss ls Q L/\gx Q=R/\M.length<=tp:=by
 let Z:D.Loc:=[some w,none]
 have V:∀(j:Nat) (hj:j<5) l0,ao (Cn pg n) (.idx @0 (.cst (.int j))) Z (M++l0)=.ok ([k,s,l,r,t][j]'(~~~hj)) (M++l0):=λ j hj l0=>by
  have v0:ao (Cn pg n) @0 Z (M++l0)=.ok w (M++l0):=rfl;rw[bU,v0];erw[ay,bB];exact bH (iz hw) (~~~hj)
 have H:∀(e:E) (x:W) (xs:List W) l0,ao (Cn pg n) e Z (M++l0)=.ok x (M++l0)->getL M x=some xs->ao (Cn pg n) (.blt .list %[|e]) Z (M++l0)=.ok (.ref (M++l0).length) (M++(l0++[.lst xs])):=λ e x xs l0 he hx=>by
  rw[bZ,au,he];erw[ay,aG,aY,aK (fO hx),new,Rc]
 have z0:Holds M []:=⟨UQ,λ p hp=>by cases hp⟩;have a0:ao (Cn pg n) (.blt .list %[|.idx @0 @(0)]) Z M=.ok (.ref M.length) (M++[O.lst (ks.map .str)]):=by
  have:=H _ k (ks.map .str) [] (V 0 'd' []) p.k;simpa using this
 let v:=M++[O.lst (ks.map .str)]
 have z1:Holds v [(M.length,O.lst (ks.map .str))]:=z0.new (l1:=[]) (l2:=[]) rfl;have c1:Cm v:=hm.push (o:=.lst (ks.map .str)) (aJ _ (bE _));have a1:ao (Cn pg n) (.blt .list %[|.idx @0 @(1)]) Z v=.ok (.ref v.length) (v++[O.lst (ss.map .str)]):=by
  have:=H _ s (ss.map .str) [O.lst (ks.map .str)] (V 1 'd' _) p.s;rw[<-Rc] at this;exact this
 let M2:=v++[O.lst (ss.map .str)]
 have z2:Holds M2 [(M.length,O.lst (ks.map .str)),(v.length,O.lst (ss.map .str))]:=z1.new (l1:=[_]) (l2:=[]) rfl;have c2:Cm M2:=c1.push (o:=.lst (ss.map .str)) (aJ _ (bE _));have e2:M2=M++[O.lst (ks.map .str),O.lst (ss.map .str)]:=by simp[M2,v]
 have a2:ao (Cn pg n) (.blt .list %[|.idx @0 @(2)]) Z M2=.ok (.ref M2.length) (M2++[O.lst (ls.map .str)]):=by
  have:=H _ l (ls.map .str) [O.lst (ks.map .str),O.lst (ss.map .str)] (V 2 'd' _) p.l;rw[<-Rc,<-e2] at this;exact this
 let f:=M2++[O.lst (ls.map .str)]
 have z3:Holds f [(M.length,O.lst (ks.map .str)),(v.length,O.lst (ss.map .str)),(M2.length,O.lst (ls.map .str))]:=z2.new (l1:=[_,_]) (l2:=[]) rfl;have c3:Cm f:=c2.push (o:=.lst (ls.map .str)) (aJ _ (bE _));have e3:f=M++[O.lst (ks.map .str),O.lst (ss.map .str),O.lst (ls.map .str)]:=by simp[f,M2,v]
 have K:=p.r.app (l:=[O.lst (ks.map .str),O.lst (ss.map .str),O.lst (ls.map .str)]);rw[<-e3] at K;let⟨N,G,s2,s3⟩:=mO (aK K.at_);have hI:dw (Cn pg n) (.idx @0 @(3)) Z f=.ok N f:=by
  have h3:ao (Cn pg n) (.idx @0 @(3)) Z f=.ok r f:=by rw[e3];exact V 3 'd' _
  rw[kg,h3];exact G
 have Y:∀l0 i,i<rws.length->Src.get N (f++l0) i=.it (rws.getD i .non):=λ l0 i I=>by
  cases r with
  |ref a=>
   have A:getL f (.ref a)=some rws:=K.at_;have U:N=.lst a:=by
    erw[kC,nE,srcOf,A] at G;cases G;rfl
   subst U;erw[Src.get,fO A];rw[Qt I];simp[List.getD,I]
  |fz xs=>
   have A:getL f (.fz xs)=some rws:=K.at_;have U:N=.tup xs:=by
    erw[kC,nE,srcOf] at G;cases G;rfl
   subst U;erw[getL] at A;cases A;rw[aW I];simp[List.getD,I]
  |_=>have A:=K.at_;simp[getL] at A
 have HR:∀l0,Src.get N (f++l0) rws.length=.fin:=λ l0=>by
  cases r with
  |ref a=>
   have A:getL f (.ref a)=some rws:=K.at_;have U:N=.lst a:=by
    erw[kC,nE,srcOf,A] at G;cases G;rfl
   subst U;erw[Src.get,fO A];rw[Sv (Qf _)]
  |fz xs=>
   have A:getL f (.fz xs)=some rws:=K.at_;have U:N=.tup xs:=by
    erw[kC,nE,srcOf] at G;cases G;rfl
   subst U;erw[getL] at A;cases A;exact aN 'o'
  |_=>have A:=K.at_;simp[getL] at A
 have S:=p.r.len;let⟨F,ρ',M4,hc,⟨o,ho⟩,Q,u,h1,h2,h3,z4,c4⟩:=cz (get:=N.get) (t:=.var 1) (test:=fun Z m=>bD (Cn pg n) .nil Z m) (body:=fun Z m F=>gZ (Cn pg n) (.elt (.blt .list %[|@1])) Z m F) (n:=rws.length)
  (λ i Z1 m F=>(∃o,Z1=[some w,o])/\∃Q u,gx Q=R.take i/\F=mZ Q/\m=f++u/\Holds m ((M.length,O.lst (ks.map .str))::(v.length,O.lst (ss.map .str))::(M2.length,O.lst (ls.map .str))::Q.map dg)/\Cm m) (λ i Z1 m F I=>by
   rintro⟨⟨o,rfl⟩,Q,u,h1,rfl,rfl,z4,c4⟩;have X:i<R.length:=by rw[<-S];exact I
   have ht:R.take (i+1)=R.take i++[R[i]]:=by rw[UP,Qt X];rfl
   have qu:=iz (l:=u) (K.row i I X);have hg:rws.getD i .non=rws[i]:=by simp[List.getD,I]
   refine⟨rws[i],[some w,some rws[i]],by rw[Y _ _ I,hg],by simp[aD],.inl ⟨f++u,mZ (Q++[((f++u).length,R[i])]),[some w,some rws[i]],(f++u)++[O.lst (R[i].map .int)],by erw[cy],?_,⟨_,rfl⟩,Q++[((f++u).length,R[i])],u++[O.lst (R[i].map .int)],by (rw[ht,<-h1,gx,QK];rfl),rfl,by rw[Rc],?_,c4.push (o:=.lst (R[i].map .int)) (aJ _ (iy _))⟩⟩
   .have e:aY .list [rws[i]] (f++u)=.ok (.ref (f++u).length) ((f++u)++[O.lst (R[i].map .int)]):=by erw[aY,qu,new]
    have hq:Q.length=min i R.length:=by have:=RU List.length h1;simpa using this
    have hl:(mZ Q).length<lim:=by simp[lim];omega
    erw[ic,EWs,e];rw[Qn hl];simp[mZ]
   .have:=z4.new (l1:=(M.length,O.lst (ks.map .str))::(v.length,O.lst (ss.map .str))::(M2.length,O.lst (ls.map .str))::Q.map dg) (l2:=[]) (o:=O.lst (R[i].map .int)) 's';simpa using this)
  (fun Z m F h=>by let⟨_,Q,u,_,_,rfl,_⟩:=h;exact HR _) rws.length 0 (fY [1] Z) f [] 'o' ⟨⟨_,rfl⟩,[],[],rfl,rfl,by simp,z3,c3⟩
 rw[S,take_length] at h1;subst h2 h3;have a3:ao (Cn pg n) (.comp (.gen @1 [1] (.idx @0 @(3)) .nil (.elt (.blt .list %[|@1])))) Z f=.ok (.ref (f++u).length) ((f++u)++[aZ Q]):=
  dS (C:=Cn pg n) (js:=[1]) (ifs:=.nil) (g:=.elt (.blt .list %[|@1])) hI (by rw[s3];exact hc)
 let B:=(f++u)++[aZ Q]
 have z5:Holds B ((M.length,O.lst (ks.map .str))::(v.length,O.lst (ss.map .str))::(M2.length,O.lst (ls.map .str))::((f++u).length,aZ Q)::Q.map dg):=z4.new (l1:=[_,_,_]) rfl;have c5:Cm B:=c4.push (o:=aZ Q) (show bq _ _=true from by
  have:(Q.map λ q=>W.ref q.1)=(Q.map (·.1)).map W.ref:=by rw[R7];rfl
  rw[this];refine jD λ a A=>?_;let⟨q,hq,rfl⟩:=QB.mp A;exact(Qc.mp (z4.2 (dg q) (.tail _ (.tail _ (.tail _ (Sq hq)))))).1)
 have e5:B=M++([O.lst (ks.map .str),O.lst (ss.map .str),O.lst (ls.map .str)]++u++[aZ Q]):=by simp[B,e3]
 have a4:ao (Cn pg n) (.blt .list %[|.idx @0 @(4)]) Z B=.ok (.ref B.length) (B++[O.lst (L.map tupI)]):=by
  have:=H _ t (L.map tupI) ([O.lst (ks.map .str),O.lst (ss.map .str),O.lst (ls.map .str)]++u++[aZ Q]) (V 4 'd' _) p.t.at_;rw[<-e5] at this;refine Eq.trans this ?_;refine RU (D.R.ok _) ?_;rw[<-Rc,<-e5]
 let J:=B++[O.lst (L.map tupI)]
 have z6:Holds J ((M.length,O.lst (ks.map .str))::(v.length,O.lst (ss.map .str))::(M2.length,O.lst (ls.map .str))::((f++u).length,aZ Q)::(B.length,O.lst (L.map tupI))::Q.map dg):=z5.new (l1:=[_,_,_,_]) rfl;have c6:Cm J:=c5.push (o:=.lst (L.map tupI)) (aJ _ (iX _))
 let T:=gu M.length v.length M2.length (f++u).length B.length
 let M7:=J++[T]
 have z7:Holds M7 (Pl J.length M.length v.length M2.length (f++u).length B.length ks ss ls Q L):=z6.new (l1:=[]) rfl;have g:∀{a o},(a,o)∈((M.length,O.lst (ks.map .str))::(v.length,O.lst (ss.map .str))::(M2.length,O.lst (ls.map .str))::((f++u).length,aZ Q)::(B.length,O.lst (L.map tupI))::Q.map dg)->a<J.length:=λ h=>(Qc.mp (z6.2 _ h)).1;have c7:Cm M7:=c6.push (o:=T) (show bq _ _=true from by
  have b0:=g (.head _);have b1:=g (.tail _ (.head _));have b2:=g (.tail _ (.tail _ (.head _)));have b3:=g (.tail _ (.tail _ (.tail _ (.head _))));have b4:=g (.tail _ (.tail _ (.tail _ (.tail _ (.head _)))));erw[bq,eY,Qe,QE];exact⟨b0,b1,b2,b3,b4,trivial⟩)
 have e7:M7=M++([O.lst (ks.map .str),O.lst (ss.map .str),O.lst (ls.map .str)]++u++[aZ Q,O.lst (L.map tupI),T]):=by simp[M7,J,e5]
 refine⟨[O.lst (ks.map .str),O.lst (ss.map .str),O.lst (ls.map .str)]++u++[aZ Q,O.lst (L.map tupI),T],J.length,M.length,v.length,M2.length,(f++u).length,B.length,Q,?_,?_,h1,?_⟩
 .refine cF (d:=⟨1,2,Mc⟩) rfl rfl ?_;show aF _ Mc Z M=_;rw[Mc,aO (bR (w:=.ref J.length) (m1:=M7) ?_),e7];have l5:∀a b c d e:W,([a,b,c,d,e]:List W).length<=lim:=λ _ _ _ _ _=>by simp[lim]
  rw[cY,au,a0];erw[ay];rw[au,a1];erw[ay];rw[au,a2];erw[ay];rw[au,a3];erw[ay];rw[au,a4];erw[ay,aG,l5,Qx];rfl
 .rw[<-e7];exact⟨z7,c7⟩
 .simp[J,B,f,M2,v]
end
structure Gd(l:Nat)(z:Str):Prop where
 a:L2.asc z=true
 l:z.length<=l
theorem Gd.mono{l:Nat}(h:Gd l z)(e:l<=l'):Gd l' z:=⟨h.a,Qk h.l e⟩
theorem jE:L2.asc z=true↔∀c∈z.cps.toList,c<128:=by
 unfold L2.asc;rw[<-Array.all_toList,So];simp
theorem lz{a b:Str}(g:L2.asc a=true)(f:L2.asc b=true):L2.asc (a++b)=true:=by
 rw[jE] at *;intro c e;have h:(a++b).cps.toList=a.cps.toList++b.cps.toList:=Array.toList_append;rw[h] at e;rcases Qz.mp e with e | e
 .exact g c e
 .exact f c e
theorem len_app{a b:Str}:(a++b).length=a.length+b.length:=Array.size_append
theorem jZ{a b:Option Int}(h:L2.asc z=true):L2.asc (Txt.slice z a b)=true:=by
 unfold Txt.slice;split
 .exact h
 .rw[jE] at h ⊢;intro c f;have f:c∈(Builtin.Str.strSliceIndices a b 1 z.length).filterMap (z.cps[·]?):=by simpa using f
  let⟨i,_,e⟩:=TF.mp f;exact h c (by have:=Array.mem_of_getElem? e;simpa using this)
theorem wG(h:i<z.length)(e:z.length<=lim)(f:L2.asc z=true):∃c,c<128/\∀m,aT (.str z) (.int i) m=.ok (.str ⟨#[c]⟩) m:=by
 have a:i<z.cps.toList.length:=by rw[Sx];exact h
 refine⟨z.cps.toList[i],jE.mp f _ (QI a),λ m=>?_⟩;erw[aT,e,Qx,k8 a]
theorem DM:PyData.eqv (.list ds) (.list [])=ds.isEmpty:=by
 rw[PyData.eqv.eq_def];cases ds<;>simp[PyData.eqvAll]
theorem ne_nil(h:toD 60 m w=@(.list ds)):aE .NotEq w (.fz []) m=.ok (!ds.isEmpty) m:=by
 have a:toD 60 m (.fz [])=some (.list []):=rfl;erw[aE,vd,h,a,DM,ay]
theorem dU{k a:Nat}(h:m[a]?=@(.lst xs))(e:dJ (toD k m) xs=some ds):toD (k+1) m (.ref a)=some (.list ds):=by
 rw[toD];erw[getL,h,e];rfl
theorem sO{k:Nat}(h:∀q∈Q,m[q.1]?=@(.lst (q.2.map .int))):dJ (toD (k+1+1) m) (mZ Q)=some (Q.map λ q=>.list (q.2.map .int)):=jz λ q a=>dU (h q a) (gq _)
theorem lA(a:Cm m):ao C (.frz (.lst .nil)) Z m=.ok (.fz []) m:=by
 refine bg (m0:=m) ?_ rfl a rfl;rw[cY,aG];rfl
theorem qw{g:α->W}{xs:List α}{lo hi:Option Int}:∃zs:List α,pQ (xs.map g) lo hi=zs.map g/\zs.length<=xs.length/\∀z∈zs,z∈xs:=by
 refine⟨(xs.drop (HT.cj xs.length 0 lo)).take (HT.cj xs.length xs.length hi - HT.cj xs.length 0 lo),?_,?_,?_⟩
 .erw[pQ,Qq,T8,UC]
 .rw[Rf,SV];omega
 .intro z a;exact Tn (SJ a)
section
variable{M:Mem}{tp ra ta:Nat}{a:Nat->Nat}{f:Nat->List Str}{Q:List (Nat×List Int)}{L:List (List Int)}
abbrev yy(M:Mem)(tp:Nat)(a:Nat->Nat)(ra ta:Nat)(f:Nat->List Str)(Q:List (Nat×List Int))(L:List (List Int)):Prop:=Sh M tp (a 0) (a 1) (a 2) ra ta (f 0) (f 1) (f 2) Q L
abbrev put(f:Nat->List Str)(i:Nat)(zs:List Str):Nat->List Str:=λ j=>if j=i then zs else f j
theorem yy.DN(s:yy M tp a ra ta f Q L)(hi:i<3)(zs:List Str):yy (M.set (a i) (.lst (zs.map .str))) tp a ra ta (put f i zs) Q L:=by
 match i,hi with
 |0,_=>exact Sh.nB s zs
 |1,_=>exact Sh.NO s zs
 |2,_=>exact Sh.H8 s zs
theorem yy.fw(s:yy M tp a ra ta f Q L)(hi:i<3):M[a i]?=some (.lst ((f i).map .str)):=by
 match i,hi with
 |0,_=>exact Sh.w0 s
 |1,_=>exact Sh.w1 s
 |2,_=>exact Sh.w2 s
theorem yy.ix(s:yy M tp a ra ta f Q L)(hi:i<3):aT (.ref tp) (.int i) M=.ok (.ref (a i)) M:=by
 have g:aP M (.ref tp)=some [.ref (a 0),.ref (a 1),.ref (a 2),.ref ra,.ref ta]:=by erw[aP,getL,Sh.t s]
 match i,hi with
 |0,_=>exact bH (i:=0) g 's'
 |1,_=>exact bH (i:=1) g 's'
 |2,_=>exact bH (i:=2) g 's'
theorem yy.Pk(s:yy M tp a ra ta f Q L):aT (.ref tp) (.int 3) M=.ok (.ref ra) M:=by
 have g:aP M (.ref tp)=some [.ref (a 0),.ref (a 1),.ref (a 2),.ref ra,.ref ta]:=by erw[aP,getL,Sh.t s]
 exact bH (i:=3) g 's'
theorem yy.Pn(s:yy M tp a ra ta f Q L):aT (.ref tp) (.int 4) M=.ok (.ref ta) M:=by
 have g:aP M (.ref tp)=some [.ref (a 0),.ref (a 1),.ref (a 2),.ref ra,.ref ta]:=by erw[aP,getL,Sh.t s]
 exact bH (i:=4) g 's'
structure St(B l b:Nat)(M:Mem)(tp:Nat)(a:Nat->Nat)(ra ta:Nat)(f:Nat->List Str)(Q:List (Nat×List Int))(L:List (List Int)):Prop where
 s:yy M tp a ra ta f Q L
 lw:∀i,i<3->(f i).length<=B
 gw:∀i,i<3->∀z∈f i,Gd l z
 lq:Q.length<=B
 lr:∀q∈Q,q.2.length<=B
 lL:L.length<=B
 lt:∀r∈L,r.length<=B
 lo:b<=tp/\(∀i,i<3->b<=a i)/\b<=ra/\b<=ta/\∀q∈Q,b<=q.1
def ee(B l b:Nat)(M:Mem)(tp:Nat):Prop:=∃a ra ta f Q L,St B l b M tp a ra ta f Q L
def Kp(b:Nat)(M e:Mem):Prop:=∀j,j<b->e[j]?=M[j]?
variable{B l b:Nat}
theorem Kp.set{k:Nat}(h:b<=k):Kp b M (M.set k o):=λ j e=>QA 'o'
theorem Kp.app{l:Mem}(h:b<=M.length):Kp b M (M++l):=λ j e=>Qh 'o'
theorem Kp.trans{k g:Mem}(h:Kp b M k)(q:Kp b k g):Kp b M g:=λ j e=>by rw[q j e,h j e]
theorem Kp.refl:Kp b M M:=λ j e=>rfl
theorem St.len(t:St B l b M tp a ra ta f Q L):b<M.length:=Nat.lt_of_le_of_lt t.lo.1 (Sh.lt t.s).1
theorem St.mono(t:St B l b M tp a ra ta f Q L)(e:B<=B')(u:l<=l'):St B' l' b M tp a ra ta f Q L:=
 ⟨t.s,λ i g=>Qk (t.lw i g) e,λ i g z h=>(t.gw i g z h).mono u,Qk t.lq e,λ q k=>Qk (t.lr q k) e,Qk t.lL e,λ r j=>Qk (t.lt r j) e,t.lo⟩
theorem St.app(t:St B l b M tp a ra ta f Q L)(h:Cm (M++l0)):St B l b (M++l0) tp a ra ta f Q L:=⟨Sh.app t.s h,t.lw,t.gw,t.lq,t.lr,t.lL,t.lt,t.lo⟩
theorem St.DN(t:St B l b M tp a ra ta f Q L)(hi:i<3){zs:List Str}(h:zs.length<=B)(g:∀z∈zs,Gd l z):St B l b (M.set (a i) (.lst (zs.map .str))) tp a ra ta (put f i zs) Q L:=
 ⟨t.s.DN hi zs,λ j e=>by
  unfold put;split
  .exact h
  .exact t.lw j e,λ j e=>by
  unfold put;split
  .exact g
  .exact t.gw j e,t.lq,t.lr,t.lL,t.lt,t.lo⟩
abbrev eN:E:=.bin .Sub (.idx (.frz (.lst %[@(3),@(5),@(3),|@(0)])) @1) (.blt .len %[|@4])
abbrev LM(tp mn x y:Nat)(o4 o5:Option W):D.Loc:=[@(.ref tp),@(.int (mn:Nat)),@(.int (x:Nat)),@(.int (y:Nat)),o4,o5]
theorem A8{x k:Nat}{ws:List W}(q:Cm M)(r:M[k]?=@(.lst ws))(E:ws.length<=1000)(v:mn<4) :
  ∃N,dw (Cn pg n) (.rng eN) (LM tp mn x y @(.ref k) o5) M=.ok (.rng 0 N) M/\ws.length+N<=max ws.length 5/\(mn=3->N=0):=by
 obtain⟨e,j,F,A⟩:∃e:Nat,aT (.fz [.int 3,.int 5,.int 3,.int 0]) (.int mn) M=.ok (.int e) M/\e<=5/\(mn=3->e=0):=by
  match mn,v with
  |0,_=>exact⟨3,rfl,by omega,by omega⟩
  |1,_=>exact⟨5,rfl,by omega,by omega⟩
  |2,_=>exact⟨3,rfl,by omega,by omega⟩
  |3,_=>exact⟨0,rfl,by omega,by omega⟩
 have t:ao (Cn pg n) (.frz (.lst %[@(3),@(5),@(3),|@(0)])) (LM tp mn x y @(.ref k) o5) M=.ok (.fz [.int 3,.int 5,.int 3,.int 0]) M:=by
  refine bg (m0:=M) ?_ rfl q rfl;erw[EVs];rfl
 have g:aY .len [.ref k] M=.ok (.int ws.length) M:=bz (aK (aL r));have u:ao (Cn pg n) eN (LM tp mn x y @(.ref k) o5) M=.ok (.int ((e:Int) - ws.length)) M:=by
  erw[cH,bU,t,ay];erw[EWs,j,g,binop]
 refine⟨((e:Int) - ws.length).toNat,?_,by omega,λ h=>by rw[A h];omega⟩;rw[jk,u];erw[ay];rw[Qn 'o']
theorem oX{x k N:Nat}(R:dw (Cn pg n) (.rng eN) (LM tp mn x y @(.ref k) o5) M=.ok (.rng 0 N) M)(E:M[k]?=@(.lst (ws.map .str)))(hw:∀z∈ws,Gd l z)(hl:ws.length<=1000)(hN:N<=5)(h3:3<=l) :
  ∃(zs:List Str) (A:Option W),aM (Cn pg n) (.for_ @5 (.rng eN) wu) (LM tp mn x y @(.ref k) o5) M=.ok (.nx (LM tp mn x y @(.ref k) A)) (M.set k (.lst (zs.map .str)))/\zs.length=ws.length+N/\∀z∈zs,Gd l z:=by
 have u:=(Qc.mp E).1;let⟨H,m',S,⟨A,rfl⟩,zs,rfl,g,r⟩:=fW (C:=Cn pg n) (t:=.var 5) (b:=wu) (n:=N) R rfl (λ i Z m=>(∃o5,Z=LM tp mn x y @(.ref k) o5)/\∃zs:List Str,m=M.set k (.lst (zs.map .str))/\zs.length=ws.length+i/\∀z∈zs,Gd l z)
  ⟨⟨_,rfl⟩,ws,(set_same E).symm,rfl,hw⟩ (λ i Z m J=>by
   rintro⟨⟨o5,rfl⟩,zs,rfl,g,r⟩;have h:(M.set k (.lst (zs.map .str)))[k]?=some (.lst (zs.map .str)):=QG u;have j:aY .len [.ref k] (M.set k (.lst (zs.map .str)))=.ok (.int zs.length) (M.set k (.lst (zs.map .str))):=by rw[bz (aK (aL h)),Qq]
   let⟨c,hc,q⟩:=wG (z:="abcdefghijklm") (i:=(y+i)%13) (Qm (Rp _ 'd') 'k') 'k' 'k';have G:((y:Int)+i)%13=(((y+i)%13:Nat):Int):=by omega
   have Y:(x:Int)%((zs.length:Int)+1)=((x%(zs.length+1):Nat):Int):=(R1 _ _).symm;have X:(0:Int)<(zs.length:Int)+1:=by omega
   have hx:=Rp x (show 0<zs.length+1 by omega)
   let v:Str:=(⟨#[c]⟩:Str)++"zz"
   have F:(⟨#[c]⟩:Str).length+("zz":Str).length<=lim:=by
    have:("zz":Str).length=2:=by decide +kernel
    rw[this];simp[uI,lim]
   have I:Gd l v:=⟨lz (jE.mpr λ d K=>by simp at K;omega) 'k',by
    have:("zz":Str).length=2:=by decide +kernel
    rw[len_app,this];show 1+2<=l;omega⟩
   let e:=zs.take (x%(zs.length+1))++[v]++zs.drop (x%(zs.length+1))
   have V:bx (.ref k) "insert" [.int ((x%(zs.length+1):Nat):Int),.str v] (M.set k (.lst (zs.map .str)))=.ok .non (M.set k (.lst (e.map .str))):=by
    erw[bx,h,eU,jh,Qq];rw[Qu 'd',Qu 'd',Qu 'd',Qu 'd',Qu 'd',Qn trivial,Qn ⟨by omega,by omega,by simp[lim];omega⟩,Tc];erw[e,RC,QK,T8,UC,QF,Tp]
   have U:kB "insert"=.lst:=by decide
   have T:kdOf (M.set k (.lst (zs.map .str))) (.ref k)=.lst:=by erw[kdOf,h]
   refine⟨.int i,LM tp mn x y @(.ref k) @(.int i),LM tp mn x y @(.ref k) @(.int i),M.set k (.lst (e.map .str)),by rw[aV J];simp,by simp[LM,aD],.inl ?_,⟨_,rfl⟩,e,rfl,?_,?_⟩
   .rw[wu,af (bM (w:=.non) (m1:=M.set k (.lst (e.map .str))) ?_),ai];erw[EWs,U,T,Qx,j,binop,G,Y,X,F,q];erw[show (0:Int)<13 by decide,Qx,ay,G,q,F];exact V
   .simp[e];omega
   .intro z g;erw[e,mem_append,QV] at g;rcases g with (g | rfl) | g
    .exact r z (SJ g)
    .exact I
    .exact r z (Tn g))
  (fun Z m _=>aR 'o')
 exact⟨zs,A,S,g,r⟩
end
theorem gy{C:D.Cx}{x y:E}(h:br C x Z m=.ok true m1):br C (.and x y) Z m=br C y Z m1:=by rw[dH,h];rfl
theorem iY{C:D.Cx}{x y:E}(h:br C x Z m=.ok false m1):br C (.and x y) Z m=.ok false m1:=by rw[dH,h];rfl
section
variable{M:Mem}{tp ra ta:Nat}{a:Nat->Nat}{f:Nat->List Str}{Q:List (Nat×List Int)}{L:List (List Int)}{B l b:Nat}
theorem iK{k:Nat}(h:m[k]?=@(.lst xs))(g:p<xs.length):iT (.ref k) (.int p) w m=.ok () (m.set k (.lst (xs.set p w))):=by
 have e:L2.yu xs.length (p:Int)=some p:=by
  unfold L2.yu;rw[Qn 'o',Qn 'o'];simp
 erw[iT,h,e]
theorem St.new1{zs:List Str}(t:St B l b M tp a ra ta f Q L)(h:zs.length<=B)(g:∀z∈zs,Gd l z):St B l b ((M++[O.lst (zs.map .str)]).set tp (gu (a 0) M.length (a 2) ra ta)) tp (λ j=>if j=1 then M.length else a j) ra ta (put f 1 zs) Q L:=
 ⟨Sh.new1 t.s zs,λ j e=>by
  unfold put;split
  .exact h
  .exact t.lw j e,λ j e=>by
  unfold put;split
  .exact g
  .exact t.gw j e,t.lq,t.lr,t.lL,t.lt,t.lo.1,λ j e=>by
  have:=t.len;have:=t.lo.2.1 j e;split<;>omega,t.lo.2.2⟩
theorem uK{x:Nat}(t:St B l b M tp a ra ta f Q L)(h8:8<=B)(hB:B<=100)(X:3<=l)(V:mn<4) :
  ∃R,D.runN pg (n+1) 23 [.ref tp,.int (mn:Nat),.int (x:Nat),.int (y:Nat)] M=.ok .non R/\ee B l b R tp/\Kp b M R:=by
 have hm:Cm M:=Sh.cm t.s;have mm:((mn:Int)%3)=((mn%3:Nat):Int):=by omega
 have hi:mn%3<3:=Rp _ 'd';have Y:aM (Cn pg n) (.asg (.pt @4) (.idx @0 (.bin .Mod @1 @(3)))) (LM tp mn x y none none) M=.ok (.nx (LM tp mn x y @(.ref (a (mn%3))) none)) M:=
  aH (w:=.ref (a (mn%3))) (by erw[EWs,binop,show (0:Int)<3 by decide,Qx,mm,t.s.ix hi]) rfl
 have T:∀o4 o5,br (Cn pg n) (.cmp .Eq @1 @(3)) (LM tp mn x y o4 o5) M=.ok (decide ((mn:Int)=3)) M:=λ o4 o5=>by erw[aX,EWs,aE,HZ]
 by_cases h:mn=3
 .have H:decide ((mn:Int)=3)=true:=by simp;omega
  let⟨zs,r,NR,E⟩:=qw (g:=W.str) (xs:=f 1) (lo:=none) (hi:=@((x:Int)%2))
  let v:=M++[O.lst (zs.map .str)]
  let M2:=v.set tp (gu (a 0) M.length (a 2) ra ta)
  have A:St B l b M2 tp (λ j=>if j=1 then M.length else a j) ra ta (put f 1 zs) Q L:=t.new1 (Qk NR (t.lw 1 'd')) (λ z r=>t.gw 1 'd' z (E z r));have U:=A.app (l0:=[.lst []]) ((Sh.cm A.s).push (o:=.lst []) rfl);have NS:aT (.ref tp) (.int 1) M=.ok (.ref (a 1)) M:=t.s.ix (i:=1) 'd';have r1:cW (.ref (a 1)) none @((x:Int)%2) M=.ok (.ref M.length) v:=by
   erw[cW,aL (t.s.fw (i:=1) 'd'),r];rfl
  have s1:aM (Cn pg n) (.asg (.sub @0 @(1)) (.slc (.idx @0 @(1)) .none (.some (.bin .Mod @2 @(2))))) (LM tp mn x y @(.ref (a (mn%3))) none) M=.ok (.nx (LM tp mn x y @(.ref (a (mn%3))) none)) M2:=by
   have G:iT (.ref tp) (.int 1) (.ref M.length) v=.ok () M2:=by
    have K:v[tp]?=some (gu (a 0) (a 1) (a 2) ra ta):=(Sh.t t.s)▸Qh (Sh.lt t.s).1;have:=iK (w:=.ref M.length) K (p:=1) 's';exact this
   erw[fH,EWs,NS,binop,show (0:Int)<2 by decide,Qx,r1,fT,G]
  have s2:aM (Cn pg n) (.asg (.pt @4) (.lst .nil)) (LM tp mn x y @(.ref (a (mn%3))) none) M2=.ok (.nx (LM tp mn x y @(.ref M2.length) none)) (M2++[.lst []]):=aH (w:=.ref M2.length) (by rw[cY,aG];rfl) rfl;have q:(M2++[O.lst []])[M2.length]?=some (.lst []):=by simp
  let⟨N,J,_,K⟩:=A8 (n:=n) (mn:=mn) (x:=x) (y:=y) (o5:=none) (Sh.cm U.s) q 's' V;have I:=K h;subst I;let⟨k,S,e,u,_⟩:=oX (n:=n) (l:=l) J (ws:=[]) q (λ z r=>by cases r) 's' 'o' X;have F:k=[]:=SW.mp (~~~u);subst F;rw[show (M2++[O.lst []]).set M2.length (.lst (List.map W.str []))=M2++[O.lst []] from set_same q] at e;refine⟨M2++[O.lst []],jV (d:=⟨4,6,HY⟩) rfl rfl (Z:=LM tp mn x y @(.ref M2.length) S) ?_,⟨_,_,_,_,_,_,U⟩,(Kp.app (Rl t.len)).trans ((Kp.set t.lo.1).trans (Kp.app (Rl A.len)))⟩;show aF _ HY (LM tp mn x y none none) M=_;rw[HY,af Y,af (Z1:=LM tp mn x y @(.ref M2.length) none) (m1:=M2++[O.lst []]) (by rw[cZ (by rw[T,H]),af s1,af s2,ai]),af e,ai]
 .have H:decide ((mn:Int)=3)=false:=by simp;omega
  have q:=t.s.fw hi;let⟨N,J,I,_⟩:=A8 (n:=n) (mn:=mn) (x:=x) (y:=y) (o5:=none) hm q (by have:=t.lw _ hi;simp;omega) V;rw[Qq] at I;have Ou:=t.lw _ hi;let⟨k,S,e,u,hg⟩:=oX (n:=n) J q (t.gw _ hi) 'o' 'o' X;refine⟨_,jV (d:=⟨4,6,HY⟩) rfl rfl (Z:=LM tp mn x y @(.ref (a (mn%3))) S) ?_,⟨_,_,_,_,_,_,t.DN hi (zs:=k) 'o' hg⟩,Kp.set (t.lo.2.1 _ hi)⟩;show aF _ HY (LM tp mn x y none none) M=_;rw[HY,af Y,af (Z1:=LM tp mn x y @(.ref (a (mn%3))) none) (m1:=M) (by rw[bN (by rw[T,H]),ai]),af e,ai]
theorem St.Ia(t:St B l b M tp a ra ta f Q L)(hi:i<Q.length)(v:List Int)(k:B<=B')(j:v.length<=B'):St B' l b (M.set Q[i].1 (.lst (v.map .int))) tp a ra ta f (Q.set i (Q[i].1,v)) L:=
 have e:=t.mono k (Qf l)
 ⟨Sh.Ia t.s hi v,e.lw,e.gw,by rw[RH];exact e.lq,λ q g=>by
  rcases RQ g with h | rfl
  .exact e.lr q h
  .exact j,e.lL,e.lt,t.lo.1,t.lo.2.1,t.lo.2.2.1,t.lo.2.2.2.1,λ q g=>by
  rcases RQ g with h | rfl
  .exact t.lo.2.2.2.2 q h
  .exact t.lo.2.2.2.2 Q[i] (QI hi)⟩
theorem St.NT(t:St B l b M tp a ra ta f Q L)(i:Nat):St B l b (M.set ra (aZ (Q.eraseIdx i))) tp a ra ta f (Q.eraseIdx i) L:=by
 have g:∀q∈Q.eraseIdx i,q∈Q:=λ q e=>(R3 Q i).mem e;have k:(Q.map (·.1)).Nodup:=by
  have j:=(Sh.h t.s).1;erw[Pl,QF,SQ,R7] at j;exact j.2.2.2.2.2.2
 refine⟨Sh.NP t.s (((R3 Q i).map _).nodup k) g,t.lw,t.gw,Qk (R3 Q i).length_le t.lq,λ q e=>t.lr q (g q e),t.lL,t.lt,t.lo.1,t.lo.2.1,t.lo.2.2.1,t.lo.2.2.2.1,λ q e=>t.lo.2.2.2.2 q (g q e)⟩
theorem St.Ib(t:St B l b M tp a ra ta f Q L)(v:List Int)(i:Nat)(x:B+1<=B')(k:v.length<=B):St B' l b ((M++[O.lst (v.map .int)]).set ra (aZ (Q.take i++[(M.length,v)]++Q.drop i))) tp a ra ta f (Q.take i++[(M.length,v)]++Q.drop i) L:=by
 have g:=t.mono (B':=B') 'o' (Qf l);have j:∀q∈Q.take i++[(M.length,v)]++Q.drop i,q∈Q\/q=(M.length,v):=λ q e=>by
  erw[mem_append,QV] at e;rcases e with (h | h) | h
  .exact .inl (SJ h)
  .exact .inr h
  .exact .inl (Tn h)
 have r:=t.lq;have u:=t.len;refine⟨Sh.Ib t.s v i,g.lw,g.gw,?_,λ q e=>?_,g.lL,g.lt,t.lo.1,t.lo.2.1,t.lo.2.2.1,t.lo.2.2.2.1,λ q e=>?_⟩
 .erw[QU,Rf,SV,Su];omega
 .rcases j q e with h | rfl
  .exact g.lr q h
  .show v.length<=B';omega
 .rcases j q e with h | rfl
  .exact t.lo.2.2.2.2 q h
  .show b<=M.length;omega
end
section
variable{M:Mem}{tp ra ta:Nat}{a:Nat->Nat}{f:Nat->List Str}{Q:List (Nat×List Int)}{L:List (List Int)}{B l b:Nat}
theorem j0{g:α->W}{xs:List α}:(xs.map g).eraseIdx p=(xs.eraseIdx p).map g:=by
 simp[eraseIdx_eq_take_drop_succ,T8,UC]
theorem pop_at{k:Nat}(h:m[k]?=@(.lst ys))(e:p<ys.length)(t:ys.length<=1000):bx (.ref k) "pop" [.int (p:Nat)] m=.ok ys[p] (m.set k (.lst (ys.eraseIdx p))):=by
 have g:seqIndex? (p:Int) ys.length=some p:=by
  have j:¬(p:Int)<0:=by omega
  have v:(p:Int)<ys.length:=by omega
  have u:(0:Int)<=p:=by omega
  simp[seqIndex?,j,e]
 have q:bx (.ref k) "pop" [.int (p:Nat)] m=ve k ys [.int (p:Nat)] m:=by
  erw[bx,h,eU];rw[Qu 'd',Qu 'd',Qu 'd',Qn trivial]
 rw[q];have r:-(2^63:Int)<=(p:Int)/\(p:Int)<2^63:=⟨by omega,by omega⟩;erw[ve];rw[Qn r,g];erw[Qt e]
theorem uL{k:Nat}(h:m[k]?=@(.lst ys))(e:p<=ys.length)(g:ys.length<=1000):bx (.ref k) "insert" [.int (p:Nat),w] m=.ok .non (m.set k (.lst (ys.take p++[w]++ys.drop p))):=by
 erw[bx,h,eU,jh];rw[Qu 'd',Qu 'd',Qu 'd',Qu 'd',Qu 'd',Qn trivial,Qn ⟨by omega,by omega,by simp[lim];omega⟩,RC]
abbrev LG(tp mn x y c:Nat)(o5 o6 o7:Option W):D.Loc:=[@(.ref tp),@(.int (mn:Nat)),@(.int (x:Nat)),@(.int (y:Nat)),@(.int (c:Nat)),o5,o6,o7]
theorem iC{k:Nat}(h:m[k]?=@(.lst ys)):kdOf m (.ref k)=.lst:=by erw[kdOf,h]
theorem m8(t:St B l b M tp a ra ta f Q L)(j:Z[5]?=@(some (.ref ra))):br (Cn pg n) (.cmp .NotEq @5 (.frz (.lst .nil))) Z M=.ok (!Q.isEmpty) M:=by
 have h:toD 60 M (.ref ra)=some (.list (Q.map λ q=>.list (q.2.map .int))):=dU (k:=59) (Sh.r t.s) (sO (k:=57) λ q e=>by
  let⟨i,g,rfl⟩:=Rj.mp e;exact Sh.q t.s g)
 erw[aX,bu,j,ay,lA (Sh.cm t.s),ne_nil h];cases Q<;>rfl
theorem Ic{at_:Nat}(t:St B l b M tp a ra ta f Q L)(u:Z[5]?=@(some (.ref ra)))(j:Z[6]?=@(some (.int (at_:Nat))))(h:at_<Q.length):ao (Cn pg n) (.idx @5 @6) Z M=.ok (.ref Q[at_].1) M/\br (Cn pg n) (.cmp .NotEq (.idx @5 @6) (.frz (.lst .nil))) Z M=.ok (!Q[at_].2.isEmpty) M:=by
 have g:toD 60 M (.ref Q[at_].1)=some (.list (Q[at_].2.map .int)):=dU (k:=59) (Sh.q t.s h) (gq _);have e:ao (Cn pg n) (.idx @5 @6) Z M=.ok (.ref Q[at_].1) M:=by
  have:=bH (i:=at_) (aK (aL (Sh.r t.s))) (~~~h);erw[bU,bu,u,j,ay,this,Rk]
 refine⟨e,?_⟩;erw[aX,e,ay,lA (Sh.cm t.s),ne_nil g];cases Q[at_].2<;>rfl
abbrev eV:E:=.idx (.frz (.lst %[.neg @(1),.blt .len %[|.idx @0 @(1)],.bin .Pow @(10) @(30),|.bin .Mod @4 (.blt .max %[@(1),|.blt .len %[|.idx @0 @(1)]])])) (.blt .min %[@(3),|.bin .Sub @1 @(4)])
theorem A9{x:Nat}(t:St B l b M tp a ra ta f Q L)(K:3<mn)(J:mn<9):∃v:Int,ao (Cn pg n) eV (LG tp mn x y c o5 o6 o7) M=.ok (.int v) M:=by
 have I:aT (.ref tp) (.int 1) M=.ok (.ref (a 1)) M:=t.s.ix (i:=1) 'd';have k:aY .len [.ref (a 1)] M=.ok (.int (f 1).length) M:=by rw[bz (aK (aL (t.s.fw (i:=1) 'd'))),Qq]
 have H:∃d:Int,aY .max [.int 1,.int (f 1).length] M=.ok (.int d) M/\0<d:=⟨if ((f 1).length:Int)>1 then (f 1).length else 1,rfl,by split<;>omega⟩;let⟨d,G,r⟩:=H
 let u:List W:=[.int (-1),.int (f 1).length,.int (10^30),.int ((c:Int)%d)]
 have F:ao (Cn pg n) (.frz (.lst %[.neg @(1),.blt .len %[|.idx @0 @(1)],.bin .Pow @(10) @(30),|.bin .Mod @4 (.blt .max %[@(1),|.blt .len %[|.idx @0 @(1)]])])) (LG tp mn x y c o5 o6 o7) M=.ok (.fz u) M:=by
  refine bg (m0:=M) ?_ rfl (Sh.cm t.s) rfl;have A:binop .Pow (.int 10) (.int 30) M=.ok (.int (10^30)) M:=rfl;have h:binop .Mod (.int (c:Nat)) (.int d) M=.ok (.int ((c:Int)%d)) M:=by erw[binop,r,Qx]
  erw[EVs,ji,nj,nk,nq,nu,I,k,A,G,h];rfl
 have g:∃j:Nat,aY .min [.int 3,.int ((mn:Int) - 4)] M=.ok (.int j) M/\j<4:=by
  refine⟨(if ((mn:Int) - 4)<3 then ((mn:Int) - 4) else 3).toNat,?_,by split<;>omega⟩;have:(((if ((mn:Int) - 4)<3 then ((mn:Int) - 4) else 3).toNat:Nat):Int)=if ((mn:Int) - 4)<3 then ((mn:Int) - 4) else 3:=by split<;>omega
  rw[this];rfl
 let⟨j,E,q⟩:=g;have e:∃v:Int,aT (.fz u) (.int j) M=.ok (.int v) M:=by
  match j,q with
  |0,_=>exact⟨_,rfl⟩
  |1,_=>exact⟨_,rfl⟩
  |2,_=>exact⟨_,rfl⟩
  |3,_=>exact⟨_,rfl⟩
 let⟨v,e⟩:=e;refine⟨v,?_⟩;rw[bU,F];erw[EWs,binop,E,e]
theorem sP{x:Nat}(t:St B l b M tp a ra ta f Q L)(h8:8<=B)(hB:B<=100)(h9:mn<9) :
  ∃H,D.runN pg (n+1) 24 [.ref tp,.int (mn:Nat),.int (x:Nat),.int (y:Nat),.int (c:Nat)] M=.ok .non H/\ee (2*B+1) l b H tp/\Kp b M H:=by
 have hm:Cm M:=Sh.cm t.s;have hq:=t.lq;have V:aM (Cn pg n) (.asg (.pt @5) (.idx @0 @(3))) (LG tp mn x y c none none none) M=.ok (.nx (LG tp mn x y c @(.ref ra) none none)) M:=aH (w:=.ref ra) (by erw[EWs,t.s.Pk]) rfl;obtain⟨at_,j,hat',U⟩:∃at_:Nat,(Q≠[]->at_<Q.length)/\at_<=Q.length/\aM (Cn pg n) (.asg (.pt @6) (.ife (.cmp .NotEq @5 (.frz (.lst .nil))) (.bin .Mod @2 (.blt .len %[|@5])) @(0))) (LG tp mn x y c @(.ref ra) none none) M=.ok (.nx (LG tp mn x y c @(.ref ra) @(.int at_) none)) M:=by
  have h:=m8 (n:=n) (Z:=LG tp mn x y c @(.ref ra) none none) t rfl
  by_cases u:Q=[]
  .refine⟨0,λ z=>absurd u z,RB _,aH (w:=.int 0) ?_ rfl⟩;rw[bT,h,u];rfl
  .have J:0<Q.length:=Rt.mpr u;refine⟨x%Q.length,λ _=>Rp _ J,Rl (Rp _ J),aH (w:=.int (x%Q.length:Nat)) ?_ rfl⟩;have A:(!Q.isEmpty)=true:=by simp[u]
   have G:aY .len [.ref ra] M=.ok (.int Q.length) M:=by rw[bz (aK (aL (Sh.r t.s))),Qq]
   rw[bT,h,A];have hp:(0:Int)<Q.length:=by omega
   erw[ay,Qx,EWs,G,binop,hp,R1]
 let Z (o7:Option W):D.Loc:=LG tp mn x y c @(.ref ra) @(.int (at_:Nat)) o7
 have F:∀(k:Int) o7 m,br (Cn pg n) (.cmp .Eq @1 (.cst (.int k))) (Z o7) m=.ok (decide ((mn:Int)=k)) m:=λ k o7 m=>by erw[Z,aX,EWs,aE,HZ]
 have I:∀(k:Int) o7 m,br (Cn pg n) (.cmp .Gt @1 (.cst (.int k))) (Z o7) m=.ok (decide (k<(mn:Int))) m:=λ k o7 m=>by erw[Z,aX,EWs,aE]
 have Mn:kB "pop"=.lst:=by decide
 have Mp:kB "insert"=.lst:=by decide
 have done:∀{H:Mem} {o7:Option W},aF (Cn pg n) DG (LG tp mn x y c none none none) M=.ok (.nx (Z o7)) H->D.runN pg (n+1) 24 [.ref tp,.int (mn:Nat),.int (x:Nat),.int (y:Nat),.int (c:Nat)] M=.ok .non H:=λ h=>jV (d:=⟨5,8,DG⟩) rfl rfl h;have t':=t.mono (B':=2*B+1) 'o' (Qf l)
 by_cases m0:mn=0
 .have d0:decide ((mn:Int)=0)=true:=by simp;omega
  have T:decide ((mn:Int)=1)=false:=by simp;omega
  have K:decide (1<(mn:Int))=false:=by simp;omega
  by_cases u:Q=[]
  .have A:(!Q.isEmpty)=false:=by simp[u]
   refine⟨M,done (o7:=none) ?_,⟨_,_,_,_,_,_,t'⟩,Kp.refl⟩;rw[DG,af V,af U,af (Z1:=Z none) (m1:=M) (by rw[bN (by rw[gy (by rw[F,d0]),m8 t rfl,A]),ai]),af (Z1:=Z none) (m1:=M) (by rw[bN (by rw[F,T]),ai]),af (Z1:=Z none) (m1:=M) (by rw[bN (iY (by rw[I,K])),ai]),ai]
  .have A:(!Q.isEmpty)=true:=by simp[u]
   have qA:=pop_at (p:=at_) (Sh.r t.s) (by simpa using j u) (by simp;omega);rw[j0] at qA;have tp':=t'.NT at_;refine⟨M.set ra (aZ (Q.eraseIdx at_)),done (o7:=none) ?_,⟨_,_,_,_,_,_,tp'⟩,Kp.set t.lo.2.2.1⟩;rw[DG,af V,af U,af (Z1:=Z none) (m1:=M.set ra (aZ (Q.eraseIdx at_))) (by
     rw[cZ (by rw[gy (by rw[F,d0]),m8 t rfl,A]),af (bM (m1:=M.set ra (aZ (Q.eraseIdx at_))) (by erw[Z,EWs,Mn,iC (Sh.r t.s),Qx,qA];rfl)),ai]),af (Z1:=Z none) (m1:=M.set ra (aZ (Q.eraseIdx at_))) (by rw[bN (by rw[F,T]),ai]),af (Z1:=Z none) (m1:=M.set ra (aZ (Q.eraseIdx at_))) (by rw[bN (iY (by rw[I,K])),ai]),ai]
 have d0:decide ((mn:Int)=0)=false:=by simp;omega
 have a3:=λ (s:Ss) (e:E)=>bN (C:=Cn pg n) (Z:=Z none) (m:=M) (m1:=M) (a:=s) (b:=.nil) (iY (y:=e) (by rw[F,d0]))
 by_cases m1:mn=1
 .have T:decide ((mn:Int)=1)=true:=by simp;omega
  have K:decide (1<(mn:Int))=false:=by simp;omega
  obtain⟨v,N,Ho⟩:∃v:List Int,v.length<=B/\ao (Cn pg n) (.ife (.cmp .NotEq @5 (.frz (.lst .nil))) (.blt .list %[|.idx @5 @(0)]) (.lst %[|@(0)])) (Z none) M=.ok (.ref M.length) (M++[O.lst (v.map .int)]):=by
   have h:=m8 (n:=n) (Z:=Z none) t rfl
   by_cases u:Q=[]
   .refine⟨[0],by simp;omega,?_⟩;have A:(!Q.isEmpty)=false:=by simp[u]
    rw[bT,h,A];rfl
   .have A:(!Q.isEmpty)=true:=by simp[u]
    have J:0<Q.length:=Rt.mpr u;refine⟨Q[0].2,t.lr _ (QI J),?_⟩;have:=bH (i:=0) (aK (aL (Sh.r t.s))) (~~~J);rw[Rk] at this;have this:aT (.ref ra) (.int 0) M=.ok (.ref Q[0].1) M:=this;rw[bT,h,A];erw[ay,Qx,Z,EWs,this,aY,aK (aL (Sh.q t.s J)),new]
  let M1:=M++[O.lst (v.map .int)]
  let X:=Q.take at_++[(M.length,v)]++Q.drop at_
  have hr1:M1[ra]?=some (aZ Q):=(Sh.r t.s)▸Qh (Sh.lt t.s).2.2.2.2.1;have sQ:=uL (p:=at_) (w:=.ref M.length) hr1 (~~~hat') (by simp;omega);have Pq:O.lst ((Q.map λ q=>W.ref q.1).take at_++[.ref M.length]++(Q.map λ q=>W.ref q.1).drop at_)=aZ X:=by
   erw[aZ,X,QK,T8,UC,QF,Tp]
  rw[Pq] at sQ;have ti:=t.Ib (B':=2*B+1) v at_ 'o' N;refine⟨M1.set ra (aZ X),done (o7:=none) ?_,⟨_,_,_,_,_,_,ti⟩,(Kp.app (Rl t.len)).trans (Kp.set t.lo.2.2.1)⟩;have v5:ao (Cn pg n) @5 (Z none) M=.ok (.ref ra) M:=rfl;have v6:ao (Cn pg n) @6 (Z none) M=.ok (.int at_) M:=rfl;have hx:ao (Cn pg n) (.meth @5 "insert" %[@6,|.ife (.cmp .NotEq @5 (.frz (.lst .nil))) (.blt .list %[|.idx @5 @(0)]) (.lst %[|@(0)])]) (Z none) M=.ok .non (M1.set ra (aZ X)):=by
   rw[bG,v5];erw[ay,Mp,iC (Sh.r t.s),Qx];rw[au,v6];erw[ay];rw[au,Ho];erw[ay,aG];exact sQ
  rw[DG,af V,af U,af (Z1:=Z none) (m1:=M) (by rw[a3,ai]),af (Z1:=Z none) (m1:=M1.set ra (aZ X)) (by
    rw[cZ (by rw[F,T]),af (bM hx),ai]),af (Z1:=Z none) (m1:=M1.set ra (aZ X)) (by rw[bN (iY (by rw[I,K])),ai]),ai]
 have T:decide ((mn:Int)=1)=false:=by simp;omega
 have K:decide (1<(mn:Int))=true:=by simp;omega
 have a4:=λ (s:Ss)=>bN (C:=Cn pg n) (Z:=Z none) (m:=M) (m1:=M) (t:=.cmp .Eq @1 @(1)) (a:=s) (b:=.nil) (by rw[F,T])
 by_cases u:Q=[]
 .have A:(!Q.isEmpty)=false:=by simp[u]
  refine⟨M,done (o7:=none) ?_,⟨_,_,_,_,_,_,t'⟩,Kp.refl⟩;rw[DG,af V,af U,af (Z1:=Z none) (m1:=M) (by rw[a3,ai]),af (Z1:=Z none) (m1:=M) (by rw[a4,ai]),af (Z1:=Z none) (m1:=M) (by rw[bN (by rw[gy (by rw[I,K]),iY (by rw[m8 t rfl,A])]),ai]),ai]
 have A:(!Q.isEmpty)=true:=by simp[u]
 have j:=j u;have qu:=λ o7=>Ic (n:=n) (at_:=at_) (Z:=Z o7) t rfl rfl j;have hrl:=t.lr _ (QI j)
 by_cases hR:Q[at_].2=[]
 .have Iu:(!Q[at_].2.isEmpty)=false:=by simp[hR]
  refine⟨M,done (o7:=none) ?_,⟨_,_,_,_,_,_,t'⟩,Kp.refl⟩;rw[DG,af V,af U,af (Z1:=Z none) (m1:=M) (by rw[a3,ai]),af (Z1:=Z none) (m1:=M) (by rw[a4,ai]),af (Z1:=Z none) (m1:=M) (by rw[bN (by rw[gy (by rw[I,K]),gy (by rw[m8 t rfl,A]),(qu none).2,Iu]),ai]),ai]
 have Iu:(!Q[at_].2.isEmpty)=true:=by simp[hR]
 have J:0<Q[at_].2.length:=Rt.mpr hR
 let pl:=y%Q[at_].2.length
 have R:pl<Q[at_].2.length:=Rp _ J;have Y:=Sh.q t.s j;have G:aY .len [.ref Q[at_].1] M=.ok (.int Q[at_].2.length) M:=by rw[bz (aK (aL Y)),Qq]
 have b1:aM (Cn pg n) (.asg (.pt @7) (.bin .Mod @3 (.blt .len %[|.idx @5 @6]))) (Z none) M=.ok (.nx (Z @(.int (pl:Nat)))) M:=by
  refine aH (w:=.int (pl:Nat)) ?_ rfl;have v3:ao (Cn pg n) @3 (Z none) M=.ok (.int y) M:=rfl;have hp:(0:Int)<Q[at_].2.length:=by omega
  rw[cH,v3];erw[ay,bZ,au,(qu none).1,aG,G,binop,hp,Qx,pl,R1]
 let g:D.Loc:=Z @(.int (pl:Nat))
 have v7:∀m,ao (Cn pg n) @7 g m=.ok (.int (pl:Nat)) m:=λ m=>rfl;have NU:ao (Cn pg n) (.idx @5 @6) g M=.ok (.ref Q[at_].1) M:=(qu _).1;have S:∀(v:List Int),v.length<=2*B+1->(∃s2 s3 s4:Mem,aM (Cn pg n) (.ife (.cmp .Eq @1 @(2)) %[|.expr (.meth (.idx @5 @6) "pop" %[|@7])] .nil) g M=.ok (.nx g) s2/\aM (Cn pg n) (.ife (.cmp .Eq @1 @(3)) %[|.expr (.meth (.idx @5 @6) "insert" %[@7,|@(0)])] .nil) g s2=.ok (.nx g) s3/\aM (Cn pg n) (.ife (.cmp .Gt @1 @(3)) %[|.asg (.sub (.idx @5 @6) @7) eV] .nil) g s3=.ok (.nx g) (M.set Q[at_].1 (.lst (v.map .int))))->
   ∃H,D.runN pg (n+1) 24 [.ref tp,.int (mn:Nat),.int (x:Nat),.int (y:Nat),.int (c:Nat)] M=.ok .non H/\ee (2*B+1) l b H tp/\Kp b M H:=λ v N h=>by
  let⟨s2,s3,s4,h2,h3,h4⟩:=h;refine⟨M.set Q[at_].1 (.lst (v.map .int)),done (o7:=@(.int (pl:Nat))) ?_,⟨_,_,_,_,_,_,t.Ia (B':=2*B+1) j v 'o' N⟩,Kp.set (t.lo.2.2.2.2 _ (QI j))⟩;rw[DG,af V,af U,af (Z1:=Z none) (m1:=M) (by rw[a3,ai]),af (Z1:=Z none) (m1:=M) (by rw[a4,ai]),af (Z1:=g) (m1:=M.set Q[at_].1 (.lst (v.map .int))) (by
   rw[cZ (by rw[gy (by rw[I,K]),gy (by rw[m8 t rfl,A]),(qu none).2,Iu]),af b1,af h2,af h3,af h4,ai]),ai]
 have F2:∀m,mn≠2->aM (Cn pg n) (.ife (.cmp .Eq @1 @(2)) %[|.expr (.meth (.idx @5 @6) "pop" %[|@7])] .nil) g m=.ok (.nx g) m:=λ m h=>by
  have:decide ((mn:Int)=2)=false:=by simp;omega
  rw[bN (by rw[F,this]),ai]
 have F3:∀m,mn≠3->aM (Cn pg n) (.ife (.cmp .Eq @1 @(3)) %[|.expr (.meth (.idx @5 @6) "insert" %[@7,|@(0)])] .nil) g m=.ok (.nx g) m:=λ m h=>by
  have:decide ((mn:Int)=3)=false:=by simp;omega
  rw[bN (by rw[F,this]),ai]
 have F4:∀m,¬3<mn->aM (Cn pg n) (.ife (.cmp .Gt @1 @(3)) %[|.asg (.sub (.idx @5 @6) @7) eV] .nil) g m=.ok (.nx g) m:=λ m h=>by
  have:decide (3<(mn:Int))=false:=by simp;omega
  rw[bN (by rw[I,this]),ai]
 by_cases m2:mn=2
 .have d2:decide ((mn:Int)=2)=true:=by simp;omega
  have qA:=pop_at (p:=pl) Y (~~~R) (by simp;omega);rw[j0] at qA;refine S (Q[at_].2.eraseIdx pl) (Qk (R3 _ _).length_le 'o') ⟨M.set Q[at_].1 (.lst ((Q[at_].2.eraseIdx pl).map .int)),M.set Q[at_].1 (.lst ((Q[at_].2.eraseIdx pl).map .int)),M,?_,F3 _ 'o',F4 _ 'o'⟩;rw[cZ (by rw[F,d2]),af (bM (m1:=M.set Q[at_].1 (.lst ((Q[at_].2.eraseIdx pl).map .int))) (by rw[bG,NU];erw[ay,Mn,iC Y,Qx,au,v7,aG,qA];rfl)),ai]
 by_cases m3:mn=3
 .have d3:decide ((mn:Int)=3)=true:=by simp;omega
  have sQ:=uL (p:=pl) (w:=.int 0) Y (by simpa using Rl R) (by simp;omega)
  let v:=Q[at_].2.take pl++[0]++Q[at_].2.drop pl
  have N:O.lst ((Q[at_].2.map W.int).take pl++[.int 0]++(Q[at_].2.map W.int).drop pl)=.lst (v.map .int):=by
   erw[v,QK,T8,UC,QF,Tp]
  rw[N] at sQ;refine S v (by erw[v,QU,Rf,SV,Su];omega) ⟨M,M.set Q[at_].1 (.lst (v.map .int)),M,F2 _ m2,?_,F4 _ 'o'⟩;rw[cZ (by rw[F,d3]),af (bM (w:=.non) (m1:=M.set Q[at_].1 (.lst (v.map .int))) (by rw[bG,NU];erw[ay,Mp,iC Y,Qx,au,v7,aG,bB,sQ])),ai]
 .have g3:decide (3<(mn:Int))=true:=by simp;omega
  let⟨v,N⟩:=A9 (n:=n) (mn:=mn) (x:=x) (y:=y) (c:=c) (o5:=@(.ref ra)) (o6:=@(.int at_)) (o7:=@(.int (pl:Nat))) t 'o' h9;have gp:=iK (w:=.int v) Y (p:=pl) (~~~R);rw[<-map_set] at gp;refine S (Q[at_].2.set pl v) (by rw[RH];omega) ⟨M,M,M,F2 _ m2,F3 _ m3,?_⟩;have e:aM (Cn pg n) (.asg (.sub (.idx @5 @6) @7) eV) g M=.ok (.nx g) (M.set Q[at_].1 (.lst ((Q[at_].2.set pl v).map .int))):=by
   rw[fH,show ao (Cn pg n) eV g M=_ from N];erw[ay,fT,NU,v7,gp]
  rw[cZ (by rw[I,g3]),af e,ai]
end
section
variable{M:Mem}{tp ra ta:Nat}{a:Nat->Nat}{f:Nat->List Str}{Q:List (Nat×List Int)}{L:List (List Int)}{B l b:Nat}
theorem St.kG(t:St B l b M tp a ra ta f Q L)(e:List (List Int))(h:B<=B')(k:e.length<=B')(j:∀r∈e,r.length<=B'):St B' l b (M.set ta (.lst (e.map tupI))) tp a ra ta f Q e:=
 have g:=t.mono h (Qf l)
 ⟨Sh.kG t.s e,g.lw,g.gw,g.lq,g.lr,k,j,t.lo⟩
abbrev LL(tp mn x y:Nat)(o4 o5 o6 o7 o8:Option W):D.Loc:=[@(.ref tp),@(.int (mn:Nat)),@(.int (x:Nat)),@(.int (y:Nat)),o4,o5,o6,o7,o8]
theorem oY(t:St B l b M tp a ra ta f Q L)(g:Z[4]?=@(some (.ref ta))):br (Cn pg n) (.cmp .NotEq @4 (.frz (.lst .nil))) Z M=.ok (! L.isEmpty) M:=by
 have e:toD 60 M (.ref ta)=some (.list (L.map λ r=>.tuple (r.map .int))):=dU (k:=59) (Sh.l t.s) (jz λ r _=>by
  rw[toD,gq];rfl)
 erw[aX,bu,g,ay,lA (Sh.cm t.s),ne_nil e];cases L<;>rfl
theorem qB{x:Nat}(t:St B l b M tp a ra ta f Q L)(h8:8<=B)(hB:B<=100)(h6:mn<6) :
  ∃V,D.runN pg (n+1) 25 [.ref tp,.int (mn:Nat),.int (x:Nat),.int (y:Nat)] M=.ok .non V/\ee (2*B+1) l b V tp/\Kp b M V:=by
 have hm:Cm M:=Sh.cm t.s;have hL:=t.lL;have a1:aM (Cn pg n) (.asg (.pt @4) (.idx @0 @(4))) (LL tp mn x y none none none none none) M=.ok (.nx (LL tp mn x y @(.ref ta) none none none none)) M:=aH (w:=.ref ta) (by erw[EWs,t.s.Pn]) rfl;obtain⟨A,H,hat',a2⟩:∃A:Nat,(L≠[]->A<L.length)/\A<=L.length/\aM (Cn pg n) (.asg (.pt @5) (.ife (.cmp .NotEq @4 (.frz (.lst .nil))) (.bin .Mod @2 (.blt .len %[|@4])) @(0))) (LL tp mn x y @(.ref ta) none none none none) M=.ok (.nx (LL tp mn x y @(.ref ta) @(.int A) none none none)) M:=by
  have h:=oY (n:=n) (Z:=LL tp mn x y @(.ref ta) none none none none) t rfl
  by_cases G:L=[]
  .refine⟨0,λ z=>absurd G z,RB _,aH (w:=.int 0) ?_ rfl⟩;rw[bT,h,G];rfl
  .have h0:0<L.length:=Rt.mpr G;refine⟨x%L.length,λ _=>Rp _ h0,Rl (Rp _ h0),aH (w:=.int (x%L.length:Nat)) ?_ rfl⟩;have I:(! L.isEmpty)=true:=by simp[G]
   have J:aY .len [.ref ta] M=.ok (.int L.length) M:=by rw[bz (aK (aL (Sh.l t.s))),Qq]
   rw[bT,h,I];have hp:(0:Int)<L.length:=by omega
   erw[ay,Qx,EWs,J,binop,hp,R1]
 let Z (o6 o7 o8:Option W):D.Loc:=LL tp mn x y @(.ref ta) @(.int (A:Nat)) o6 o7 o8
 let q:=Z none none none
 have R:∀(k:Int) m,br (Cn pg n) (.cmp .Eq @1 (.cst (.int k))) q m=.ok (decide ((mn:Int)=k)) m:=λ k m=>by erw[q,Z,aX,EWs,aE,HZ]
 have Y:∀(k:Int) m,br (Cn pg n) (.cmp .Gt @1 (.cst (.int k))) q m=.ok (decide (k<(mn:Int))) m:=λ k m=>by erw[q,Z,aX,EWs,aE]
 have Mn:kB "pop"=.lst:=by decide
 have Mp:kB "insert"=.lst:=by decide
 have done:∀{V:Mem} {ρ':D.Loc},aF (Cn pg n) EU (LL tp mn x y none none none none none) M=.ok (.nx ρ') V->D.runN pg (n+1) 25 [.ref tp,.int (mn:Nat),.int (x:Nat),.int (y:Nat)] M=.ok .non V:=λ h=>jV (d:=⟨4,9,EU⟩) rfl rfl h;have t':=t.mono (B':=2*B+1) 'o' (Qf l);have T:∀r∈L,r.length<=2*B+1:=t'.lt;have v4:ao (Cn pg n) @4 q M=.ok (.ref ta) M:=rfl;have v5:ao (Cn pg n) @5 q M=.ok (.int A) M:=rfl
 by_cases m0:mn=0
 .have d0:decide ((mn:Int)=0)=true:=by simp;omega
  have U:decide ((mn:Int)=1)=false:=by simp;omega
  have S:decide (1<(mn:Int))=false:=by simp;omega
  by_cases G:L=[]
  .have I:(! L.isEmpty)=false:=by simp[G]
   refine⟨M,done (ρ':=q) ?_,⟨_,_,_,_,_,_,t'⟩,Kp.refl⟩;rw[EU,af a1,af a2,af (Z1:=q) (m1:=M) (by rw[bN (by rw[gy (by rw[R,d0]),oY t rfl,I]),ai]),af (Z1:=q) (m1:=M) (by rw[bN (by rw[R,U]),ai]),af (Z1:=q) (m1:=M) (by rw[bN (iY (by rw[Y,S])),ai]),ai]
  .have I:(! L.isEmpty)=true:=by simp[G]
   have qA:=pop_at (p:=A) (Sh.l t.s) (by simpa using H G) (by simp;omega);rw[j0] at qA;have tp':=t.kG (B':=2*B+1) (L.eraseIdx A) 'o' (Qk (R3 L A).length_le 'o') (λ r K=>T r ((R3 L A).mem K))
   let N:=M.set ta (.lst ((L.eraseIdx A).map tupI))
   have hx:∃w,ao (Cn pg n) (.meth @4 "pop" %[|@5]) q M=.ok w N:=by
    rw[Rk] at qA;refine⟨tupI (L[A]'(H G)),?_⟩;rw[bG,v4];erw[ay,Mn,iC (Sh.l t.s),Qx];rw[au,v5];erw[ay,aG];exact qA
   let⟨w0,hx⟩:=hx;refine⟨N,done (ρ':=q) ?_,⟨_,_,_,_,_,_,tp'⟩,Kp.set t.lo.2.2.2.1⟩;rw[EU,af a1,af a2,af (Z1:=q) (m1:=N) (by
     rw[cZ (by rw[gy (by rw[R,d0]),oY t rfl,I]),af (bM hx),ai]),af (Z1:=q) (m1:=N) (by rw[bN (by rw[R,U]),ai]),af (Z1:=q) (m1:=N) (by rw[bN (iY (by rw[Y,S])),ai]),ai]
 have d0:decide ((mn:Int)=0)=false:=by simp;omega
 have a3:=λ (s:Ss) (e:E)=>bN (C:=Cn pg n) (Z:=q) (m:=M) (m1:=M) (a:=s) (b:=.nil) (iY (y:=e) (by rw[R,d0]))
 by_cases m1:mn=1
 .have U:decide ((mn:Int)=1)=true:=by simp;omega
  have S:decide (1<(mn:Int))=false:=by simp;omega
  obtain⟨v,hv,Ho⟩:∃v:List Int,v.length<=B/\ao (Cn pg n) (.ife (.cmp .NotEq @4 (.frz (.lst .nil))) (.idx @4 @(0)) (.tup .nil)) q M=.ok (tupI v) M:=by
   have h:=oY (n:=n) (Z:=q) t rfl
   by_cases G:L=[]
   .refine⟨[],by simp,?_⟩;have I:(! L.isEmpty)=false:=by simp[G]
    rw[bT,h,I];rfl
   .have I:(! L.isEmpty)=true:=by simp[G]
    have h0:0<L.length:=Rt.mpr G;refine⟨L[0],t.lt _ (QI h0),?_⟩;have:=bH (i:=0) (aK (aL (Sh.l t.s))) (~~~h0);rw[Rk] at this;have this:aT (.ref ta) (.int 0) M=.ok (tupI L[0]) M:=this;rw[bT,h,I];erw[ay,Qx,bU,v4,bB,this]
  have sQ:=uL (p:=A) (w:=tupI v) (Sh.l t.s) (~~~hat') (by simp;omega)
  let X:=L.take A++[v]++L.drop A
  have hL':O.lst ((L.map tupI).take A++[tupI v]++(L.map tupI).drop A)=.lst (X.map tupI):=by
   erw[X,QK,T8,UC,QF,Tp]
  rw[hL'] at sQ;have ti:=t.kG (B':=2*B+1) X 'o' (by erw[X,QU,Rf,SV,Su];omega) (λ r K=>by
   erw[X,mem_append,QV] at K;rcases K with (K | rfl) | K
   .exact T r (SJ K)
   .omega
   .exact T r (Tn K))
  let N:=M.set ta (.lst (X.map tupI))
  refine⟨N,done (ρ':=q) ?_,⟨_,_,_,_,_,_,ti⟩,Kp.set t.lo.2.2.2.1⟩;have hx:ao (Cn pg n) (.meth @4 "insert" %[@5,|.ife (.cmp .NotEq @4 (.frz (.lst .nil))) (.idx @4 @(0)) (.tup .nil)]) q M=.ok .non N:=by
   rw[bG,v4];erw[ay,Mp,iC (Sh.l t.s),Qx];rw[au,v5];erw[ay];rw[au,Ho];erw[ay,aG];exact sQ
  rw[EU,af a1,af a2,af (Z1:=q) (m1:=M) (by rw[a3,ai]),af (Z1:=q) (m1:=N) (by
    rw[cZ (by rw[R,U]),af (bM hx),ai]),af (Z1:=q) (m1:=N) (by rw[bN (iY (by rw[Y,S])),ai]),ai]
 have U:decide ((mn:Int)=1)=false:=by simp;omega
 have S:decide (1<(mn:Int))=true:=by simp;omega
 have a4:=λ (s:Ss)=>bN (C:=Cn pg n) (Z:=q) (m:=M) (m1:=M) (t:=.cmp .Eq @1 @(1)) (a:=s) (b:=.nil) (by rw[R,U])
 by_cases G:L=[]
 .have I:(! L.isEmpty)=false:=by simp[G]
  refine⟨M,done (ρ':=q) ?_,⟨_,_,_,_,_,_,t'⟩,Kp.refl⟩;rw[EU,af a1,af a2,af (Z1:=q) (m1:=M) (by rw[a3,ai]),af (Z1:=q) (m1:=M) (by rw[a4,ai]),af (Z1:=q) (m1:=M) (by rw[bN (by rw[gy (by rw[Y,S]),oY t rfl,I]),ai]),ai]
 have I:(! L.isEmpty)=true:=by simp[G]
 have H:=H G
 let row:=L[A]
 have hrl:row.length<=B:=t.lt _ (QI H);have b1:aM (Cn pg n) (.asg (.pt @6) (.idx @4 @5)) q M=.ok (.nx (Z @(tupI row) none none)) M:=by
  refine aH (w:=tupI row) ?_ rfl;have:=bH (i:=A) (aK (aL (Sh.l t.s))) (~~~H);rw[Rk] at this;erw[bU,v4,v5,ay,this,row]
 let pl:=y%(row.length+1)
 have b2:aM (Cn pg n) (.asg (.pt @7) (.bin .Mod @3 (.bin .Add (.blt .len %[|@6]) @(1)))) (Z @(tupI row) none none) M=.ok (.nx (Z @(tupI row) @(.int (pl:Nat)) none)) M:=by
  refine aH (w:=.int (pl:Nat)) ?_ rfl;have J:aY .len [tupI row] M=.ok (.int row.length) M:=by rw[bz (xs:=row.map .int) rfl,Qq]
  have hp:(0:Int)<(row.length:Int)+1:=by omega
  have e2:(y:Int)%((row.length:Int)+1)=((y%(row.length+1):Nat):Int):=(R1 _ _).symm;erw[Z,EWs,J,binop,hp,Qx,e2,pl]
 obtain⟨F,hnl,b3⟩:∃F:List Int,F.length<=1/\aM (Cn pg n) (.asg (.pt @8) (.idx (.frz (.lst %[.tup .nil,.tup %[|@(1)],.tup %[|@(2)],|.tup %[|.neg @(1)]])) (.bin .Sub @1 @(2)))) (Z @(tupI row) @(.int (pl:Nat)) none) M=.ok (.nx (Z @(tupI row) @(.int (pl:Nat)) @(tupI F))) M:=by
  have hf:ao (Cn pg n) (.frz (.lst %[.tup .nil,.tup %[|@(1)],.tup %[|@(2)],|.tup %[|.neg @(1)]])) (Z @(tupI row) @(.int (pl:Nat)) none) M=.ok (.fz [tupI [],tupI [1],tupI [2],tupI [-1]]) M:=bg (m0:=M) rfl rfl hm rfl;have hj:∃j:Nat,(mn:Int) - 2=j/\j<4:=⟨mn - 2,by omega,by omega⟩;let⟨j,hj,hj4⟩:=hj;have hv:∃F:List Int,F.length<=1/\aT (.fz [tupI [],tupI [1],tupI [2],tupI [-1]]) (.int j) M=.ok (tupI F) M:=by
   match j,hj4 with
   |0,_=>exact⟨[],by simp,rfl⟩
   |1,_=>exact⟨[1],by simp,rfl⟩
   |2,_=>exact⟨[2],by simp,rfl⟩
   |3,_=>exact⟨[-1],by simp,rfl⟩
  let⟨F,h1,T⟩:=hv;refine⟨F,h1,aH (w:=tupI F) ?_ rfl⟩;rw[bU,hf];erw[Z,EWs,binop,hj,T]
 obtain⟨u,hu⟩:∃u:Int,ao (Cn pg n) (.blt .int %[|.cmp .NotEq @1 @(3)]) (Z @(tupI row) @(.int (pl:Nat)) @(tupI F)) M=.ok (.int u) M:=by
  refine⟨if !decide ((mn:Int)=3) then 1 else 0,?_⟩;erw[Z,EWs,aE,HZ];cases decide ((mn:Int)=3)<;>rfl
 let⟨c1,hc1,hc1l,_⟩:=qw (g:=W.int) (xs:=row) (lo:=none) (hi:=some (pl:Int));let⟨c2,hc2,hc2l,_⟩:=qw (g:=W.int) (xs:=row) (lo:=@((pl:Int)+u)) (hi:=none)
 let v:=c1++F++c2
 have hvl:v.length<=2*B+1:=by erw[v,QU];omega
 have e1:ao (Cn pg n) (.bin .Add (.bin .Add (.slc @6 .none (.some @7)) @8) (.slc @6 (.some (.bin .Add @7 (.blt .int %[|.cmp .NotEq @1 @(3)]))) .none)) (Z @(tupI row) @(.int (pl:Nat)) @(tupI F)) M=.ok (tupI v) M:=by
  have s1:cW (tupI row) none (some (pl:Int)) M=.ok (tupI c1) M:=by erw[cW,hc1]
  have s2:cW (tupI row) @((pl:Int)+u) none M=.ok (tupI c2) M:=by erw[cW,hc2]
  have p1:binop .Add (tupI c1) (tupI F) M=.ok (tupI (c1++F)) M:=by
   erw[binop];rw[Qn 'l',<-QK]
  have p2:binop .Add (tupI (c1++F)) (tupI c2) M=.ok (tupI v) M:=by
   erw[binop];rw[Qn 'l',<-QK]
  have w6:ao (Cn pg n) @6 (Z @(tupI row) @(.int (pl:Nat)) @(tupI F)) M=.ok (tupI row) M:=rfl;have w7:ao (Cn pg n) @7 (Z @(tupI row) @(.int (pl:Nat)) @(tupI F)) M=.ok (.int (pl:Nat)) M:=rfl;have w8:ao (Cn pg n) @8 (Z @(tupI row) @(.int (pl:Nat)) @(tupI F)) M=.ok (tupI F) M:=rfl;have p0:binop .Add (.int (pl:Nat)) (.int u) M=.ok (.int ((pl:Int)+u)) M:=rfl;erw[cH,fy,g9,ia,w6,w7,w8,hu,ay,p0,s1,s2,p1,p2]
 have gp:=iK (w:=tupI v) (Sh.l t.s) (p:=A) (~~~H);have Ba:iT (.ref ta) (.int A) (tupI v) M=.ok () (M.set ta (.lst ((L.set A v).map tupI))):=by rw[gp,map_set]
 have b4:aM (Cn pg n) (.asg (.sub @4 @5) (.bin .Add (.bin .Add (.slc @6 .none (.some @7)) @8) (.slc @6 (.some (.bin .Add @7 (.blt .int %[|.cmp .NotEq @1 @(3)]))) .none))) (Z @(tupI row) @(.int (pl:Nat)) @(tupI F)) M=.ok (.nx (Z @(tupI row) @(.int (pl:Nat)) @(tupI F))) (M.set ta (.lst ((L.set A v).map tupI))):=by
  have w4:ao (Cn pg n) @4 (Z @(tupI row) @(.int (pl:Nat)) @(tupI F)) M=.ok (.ref ta) M:=rfl;have w5:ao (Cn pg n) @5 (Z @(tupI row) @(.int (pl:Nat)) @(tupI F)) M=.ok (.int A) M:=rfl;rw[fH,e1];erw[ay,fT,w4,w5,Ba]
 have ti:=t.kG (B':=2*B+1) (L.set A v) 'o' (by rw[RH];omega) (λ r K=>by
  rcases RQ K with h | rfl
  .exact T r h
  .exact hvl)
 refine⟨_,done (ρ':=Z @(tupI row) @(.int (pl:Nat)) @(tupI F)) ?_,⟨_,_,_,_,_,_,ti⟩,Kp.set t.lo.2.2.2.1⟩;rw[EU,af a1,af a2,af (Z1:=q) (m1:=M) (by rw[a3,ai]),af (Z1:=q) (m1:=M) (by rw[a4,ai]),af (Z1:=Z @(tupI row) @(.int (pl:Nat)) @(tupI F)) (m1:=M.set ta (.lst ((L.set A v).map tupI))) (by
  rw[cZ (by rw[gy (by rw[Y,S]),oY t rfl,I]),af b1,af b2,af b3,af b4,ai]),ai]
end
section
variable{M:Mem}{tp ra ta:Nat}{a:Nat->Nat}{f:Nat->List Str}{Q:List (Nat×List Int)}{L:List (List Int)}{B l b:Nat}
def pl(f:Nat->List Str)(i:Nat):List (Nat×Nat):=(List.range i).flatMap λ j=>(List.range (f j).length).map λ k=>(j,k)
abbrev iL(p:Nat×Nat):W:=.tup [.int (p.1:Nat),.int (p.2:Nat)]
theorem iM:pl f (i+1)=pl f i++(List.range (f i).length).map λ k=>(i,k):=by
 erw[pl,range_succ,flatMap_append,flatMap_singleton]
theorem Bb{p:Nat×Nat}(h:p∈pl f i):p.1<i/\p.2<(f p.1).length:=by
 let⟨j,g,h⟩:=List.mem_flatMap.mp h;let⟨k,e,rfl⟩:=QB.mp h;exact⟨Q7.mp g,Q7.mp e⟩
theorem Bc:∀{i:Nat},(∀j,j<i->(f j).length<=B)->(pl f i).length<=i*B
 |0,_=>by simp[pl]
 |i+1,h=>by
  have:=Bc (i:=i) λ j e=>h j 'o';have:=h i 'o';rw[iM,QU,Qq,length_range,Nat.succ_mul];omega
theorem Ie(e:List (Nat×Nat)):aC (e.map iL)=true:=ko (λ r=>by simp[aQ,aC]) e
abbrev LW(tp mn x y c:Nat)(o5 o6 o7 o8 o9 gQ e:Option W):D.Loc:=[@(.ref tp),@(.int (mn:Nat)),@(.int (x:Nat)),@(.int (y:Nat)),@(.int (c:Nat)),o5,o6,o7,o8,o9,gQ,e]
theorem places{x:Nat}(t:St B l b M tp a ra ta f Q L)(hB:B<=100) :
  ∃(o6 o7:Option W) (l':Mem),aM (Cn pg n) (.for_ @6 (.rng @(3)) wm) (LW tp mn x y c @(.ref M.length) none none none none none none) (M++[.lst []])=.ok (.nx (LW tp mn x y c @(.ref M.length) o6 o7 none none none none)) (M++(.lst ((pl f 3).map iL)::l'))/\Cm (M++(.lst ((pl f 3).map iL)::l')):=by
 have Y:dw (Cn pg n) (.rng @(3)) (LW tp mn x y c @(.ref M.length) none none none none none none) (M++[.lst []])=.ok (.rng 0 3) (M++[.lst []]):=by
  rw[jk];rfl
 let⟨K,m',h1,⟨o6,o7,rfl⟩,l',rfl,A⟩:=fW (C:=Cn pg n) (t:=.var 6) (b:=wm) (n:=3) Y rfl (λ i Z m=>(∃o6 o7,Z=LW tp mn x y c @(.ref M.length) o6 o7 none none none none)/\∃l',m=M++(.lst ((pl f i).map iL)::l')/\Cm m)
  ⟨⟨_,_,rfl⟩,[],rfl,(Sh.cm t.s).push (o:=.lst []) rfl⟩ (λ i Z m v=>by
   rintro⟨⟨o6,o7,rfl⟩,l',rfl,A⟩;have G:=t.app A
   let m:=M++(O.lst ((pl f i).map iL)::l')
   let h:D.Loc:=LW tp mn x y c @(.ref M.length) @(.int (i:Nat)) o7 none none none none
   have PX:=t.lw i v;have r:aY .len [.ref (a i)] m=.ok (.int (f i).length) m:=by rw[bz (aK (aL (G.s.fw v))),Qq]
   have F:aT (.ref tp) (.int i) m=.ok (.ref (a i)) m:=G.s.ix v;have Pr:dw (Cn pg n) (.rng (.blt .len %[|.idx @0 @6])) h m=.ok (.rng 0 (f i).length) m:=kL (by
    have T:ao (Cn pg n) @0 h m=.ok (.ref tp) m:=rfl;have N:ao (Cn pg n) @6 h m=.ok (.int i) m:=rfl;erw[bZ,au,aG,bU,T,N,ay,F,r]) 'o'
   let⟨Z2,u⟩:=AS (C:=Cn pg n) (i:=7) (n:=(f i).length) (e:=.tup %[@6,|@7]) (Z:=fY [7] h) (m:=m) (g:=λ k=>iL (i,k)) (λ k I=>by
    simp[fY,h,dY,au,aG,bu,ay,lim]) 'l'
   have e1:=dS (C:=Cn pg n) (js:=[7]) (ifs:=.nil) Pr u
   let w:O:=.lst ((List.range (f i).length).map λ k=>iL (i,k))
   let q:=M++(O.lst ((pl f (i+1)).map iL)::(l'++[w]))
   have H:m++[w]=M++(O.lst ((pl f i).map iL)::(l'++[w])):=by simp[m]
   have X:(m++[w])[M.length]?=some (.lst ((pl f i).map iL)):=by rw[H];simp
   have V:(m++[w])[m.length]?=some w:=by simp
   have J:(m++[w]).set M.length (.lst ((pl f i).map iL++(List.range (f i).length).map λ k=>iL (i,k)))=q:=by
    rw[H];erw[q,iM,QK,R7];rw[S8 _ _ (Qf _)];simp
   have U:=Bc (f:=f) (B:=B) (i:=i) (λ j hj=>t.lw j 'o');have e2:bx (.ref M.length) "extend" [.ref m.length] (m++[w])=.ok .non q:=by
    have E:jg M.length ((pl f i).map iL) [.ref m.length] (m++[w])=.ok .non q:=by
     erw[jg,V,w];rw[Qn (by
      have:i*B<=3*100:=Nat.mul_le_mul 'o' hB;simp[lim];omega)]
     exact RU (R.ok _) J
    erw[bx,X,eU];rw[Qu 'd',Qu 'd',Qu 'd',Qu 'd',Qn trivial];exact E
   have c2:Cm q:=by
    rw[<-J];exact(Cm.push (o:=w) A (aJ _ (ko (λ k=>by simp[aQ,aC]) _))).set (by
     show bq _ _=true;rw[show (List.map iL (pl f i)++(List.range (f i).length).map λ k=>iL (i,k))=(pl f (i+1)).map iL by erw[iM,QK,R7];rfl];exact aJ _ (Ie _))
   refine⟨.int i,h,h,q,by rw[aV v];simp,by simp[LW,h,aD],.inl ?_,⟨_,_,rfl⟩,_,rfl,c2⟩;have S:ao (Cn pg n) @5 h m=.ok (.ref M.length) m:=rfl;have I:kdOf m (.ref M.length)=.lst:=iC (ys:=(pl f i).map iL) (by simp[m]);have Pu:kB "extend"=.lst:=by decide
   have E:ao (Cn pg n) (.meth @5 "extend" %[|.comp (.gen @7 [7] (.rng (.blt .len %[|.idx @0 @6])) .nil (.elt (.tup %[@6,|@7])))]) h m=.ok .non q:=by
    rw[bG,S];erw[ay,Pu,I,Qx];rw[au,e1];erw[ay,aG];exact e2
   rw[wm,af (bM E),ai])
  (fun Z m _=>aR 'o')
 exact⟨o6,o7,l',h1,A⟩
end
section
variable{M:Mem}{tp ra ta:Nat}{a:Nat->Nat}{f:Nat->List Str}{Q:List (Nat×List Int)}{L:List (List Int)}{B l b:Nat}
theorem j3(h:L2.asc z=true):z.cps.all (· < 0x110000)=true:=by
 unfold L2.asc at h;rw[Sj] at h ⊢;intro i e;have:=h i e;simp at this ⊢;omega
theorem Pw{y:Str}(h:L2.asc z=true)(e:L2.asc y=true):aE .NotEq (.str z) (.str y) m=.ok (!decide (z=y)) m:=by
 erw[aE,vd,jy (j3 h),jy (j3 e),vZ,ay]
theorem yl(h:z.length=0):z="":=by
 let⟨c⟩:=z;have:c=#[]:=Array.eq_empty_of_size_eq_zero h;subst this;decide +kernel
abbrev eW:E:=.idx (.frz (.lst %[.bin .Add (.bin .Add (.slc @8 .none (.some @10)) @11) (.slc @8 (.some (.bin .Add @10 @(1))) .none),.cst (.str ""),.slc (.bin .Add @8 (.cst (.str "abcdefghi"))) .none (.some @(9)),|.idx (.idx @0 (.idx @9 @(0))) (.idx @9 @(1))])) @1
theorem Be{x:Nat}{p:Nat×Nat}{d:Int}{s:Nat}(t:St B l b M tp a ra ta f Q L)(Mq:10<=l)(hl:l<=1000)(E:mn<4)(r:Gd l z)(k:p.1<3)(A:p.2<(f p.1).length)(hs:s<128) :
  ∃v,Gd (3*l) v/\ao (Cn pg n) eW (LW tp mn x y c o5 o6 o7 @(.str z) @(iL p) @(.int d) @(.str ⟨#[s]⟩)) M=.ok (.str v) M:=by
 let h:=Txt.slice z none (some d)
 let q:=Txt.slice z @(d+1) none
 let g:Str:=⟨#[s]⟩
 have J:g.length=1:=rfl;have l1:h.length<=l:=Qk (Uh _ _ _) r.l;have l2:q.length<=l:=Qk (Uh _ _ _) r.l;have NR:=r.l;have S:z.length<=lim:=by simp[lim];omega
 have R:("abcdefghi":Str).length=9:=by decide +kernel
 let F:=Txt.slice (z++("abcdefghi":Str)) none (some 9)
 have Px:(z++("abcdefghi":Str)).length<=l+9:=by rw[len_app,R];omega
 have l3:F.length<=l+9:=Qk (Uh _ _ _) Px
 let G:=(f p.1)[p.2]
 have g4:Gd l G:=t.gw p.1 k _ (QI A)
 let u:=h++g++q
 have ly:u.length<=3*l:=by erw[u,len_app,J];omega
 have gs:L2.asc g=true:=jE.mpr λ e he=>by simp[g] at he;omega
 let j:List Str:=[u,"",F,G]
 have gv:∀v∈j,Gd (3*l) v:=λ v K=>by
  erw[j,RI,R4,Te] at K;rcases K with rfl | rfl | rfl | rfl
  .exact⟨lz (lz (jZ r.a) gs) (jZ r.a),ly⟩
  .exact⟨by decide +kernel,by
    have:("":Str).length=0:=by decide +kernel
    omega⟩
  .exact⟨jZ (lz r.a 'k'),by omega⟩
  .exact g4.mono 'o'
 let Z:D.Loc:=LW tp mn x y c o5 o6 o7 @(.str z) @(iL p) @(.int d) @(.str ⟨#[s]⟩)
 have U:ao (Cn pg n) @8 Z M=.ok (.str z) M:=rfl;have T:ao (Cn pg n) @9 Z M=.ok (iL p) M:=rfl;have I:ao (Cn pg n) @10 Z M=.ok (.int d) M:=rfl;have H:ao (Cn pg n) @11 Z M=.ok (.str g) M:=rfl;have X:ao (Cn pg n) @0 Z M=.ok (.ref tp) M:=rfl;have V:ao (Cn pg n) @1 Z M=.ok (.int mn) M:=rfl;have s1:cW (.str z) none (some d) M=.ok (.str h) M:=by erw[cW,S,Qx,h]
 have s2:cW (.str z) @(d+1) none M=.ok (.str q) M:=by erw[cW,S,Qx,q]
 have Y:cW (.str (z++("abcdefghi":Str))) none (some 9) M=.ok (.str F) M:=by
  have:(z++("abcdefghi":Str)).length<=lim:=by erw[lim];omega
  erw[cW,this,Qx,F]
 have p0:binop .Add (.int d) (.int 1) M=.ok (.int (d+1)) M:=rfl;have p1:binop .Add (.str h) (.str g) M=.ok (.str (h++g)) M:=by
  have:h.length+g.length<=lim:=by erw[lim];omega
  erw[binop,this,Qx]
 have p2:binop .Add (.str (h++g)) (.str q) M=.ok (.str u) M:=by
  have:(h++g).length+q.length<=lim:=by rw[len_app];erw[lim];omega
  erw[binop,this,Qx,u]
 have p3:binop .Add (.str z) (.str "abcdefghi") M=.ok (.str (z++("abcdefghi":Str))) M:=by
  have:z.length+("abcdefghi":Str).length<=lim:=by rw[R];erw[lim];omega
  erw[binop,this,Qx]
 have i0:aT (iL p) (.int 0) M=.ok (.int p.1) M:=rfl;have i1:aT (iL p) (.int 1) M=.ok (.int p.2) M:=rfl;have i2:=t.s.ix k;have i3:aT (.ref (a p.1)) (.int p.2) M=.ok (.str G) M:=by
  have:=bH (i:=p.2) (aK (aL (t.s.fw k))) (~~~A);rw[Rk] at this;exact this
 have hf:ao (Cn pg n) (.frz (.lst %[.bin .Add (.bin .Add (.slc @8 .none (.some @10)) @11) (.slc @8 (.some (.bin .Add @10 @(1))) .none),.cst (.str ""),.slc (.bin .Add @8 (.cst (.str "abcdefghi"))) .none (.some @(9)),|.idx (.idx @0 (.idx @9 @(0))) (.idx @9 @(1))])) Z M=.ok (.fz (j.map .str)) M:=by
  refine bg (m0:=M) ?_ rfl (Sh.cm t.s) (bE _);erw[cY,au,aG,cH,fy,g9,ia,bU,bB,U,T,I,H,X,ay,p0,p1,p2,p3,s1,s2,Y,i0,i1,i2,i3];rfl
 have Py:mn<(j.map W.str).length:=by simpa[j] using E
 have N:=bH (m:=M) (w:=.fz (j.map .str)) (i:=mn) rfl Py;rw[Rk] at N;refine⟨j[mn]'(by simpa[j] using E),gv _ (QI _),?_⟩;show ao (Cn pg n) (.idx _ @1) Z M=_;rw[bU,hf];erw[ay,V,N]
theorem uM{x:Nat}(t:St B l b M tp a ra ta f Q L)(hB:B<=100)(Mq:10<=l)(hl:l<=1000)(R:mn<4)(N:pl f 3≠[]) :
  ∃U,D.runN pg (n+1) 22 [.ref tp,.int (mn:Nat),.int (x:Nat),.int (y:Nat),.int (c:Nat)] M=.ok .non U/\ee B (3*l) b U tp/\Kp b M U:=by
 let P:=M.length
 let⟨o6,o7,l',e2,T⟩:=places (n:=n) (mn:=mn) (x:=x) (y:=y) (c:=c) t hB
 let ps:=pl f 3
 let m:=M++(O.lst (ps.map iL)::l')
 have E:St B l b m tp a ra ta f Q L:=t.app T;have G:0<ps.length:=Rt.mpr N;have Y:m[P]?=some (.lst (ps.map iL)):=by simp[m,P]
 have k:aY .len [.ref P] m=.ok (.int ps.length) m:=by rw[bz (aK (aL Y)),Qq]
 have K:(0:Int)<ps.length:=by omega
 let p:=ps[x%ps.length]'(Rp _ G)
 let q:=ps[y%ps.length]'(Rp _ G)
 let⟨e,r⟩:=Bb (f:=f) (i:=3) (p:=p) (QI _);let⟨J,I⟩:=Bb (f:=f) (i:=3) (p:=q) (QI _);have OE:∀u:Nat,aT (.ref P) (.int (u%ps.length:Nat)) m=.ok (iL (ps[u%ps.length]'(Rp _ G))) m:=λ u=>by
  have:=bH (i:=u%ps.length) (aK (aL Y)) (by simpa using Rp _ G);rw[Rk] at this;exact this
 have V:∀u:Nat,binop .Mod (.int (u:Nat)) (.int ps.length) m=.ok (.int (u%ps.length:Nat)) m:=λ u=>by erw[binop,K,Qx,R1]
 let z:=(f p.1)[p.2]
 have S:Gd l z:=t.gw p.1 e _ (QI r)
 let Z (o6 o7 o8 o9 gQ sL:Option W):D.Loc:=LW tp mn x y c @(.ref P) o6 o7 o8 o9 gQ sL
 let j:Option W:=@(.int (p.1:Nat))
 let g:Option W:=@(.int (p.2:Nat))
 have a1:aM (Cn pg n) (.asg (.pt @5) (.lst .nil)) (LW tp mn x y c none none none none none none none) M=.ok (.nx (Z none none none none none none)) (M++[.lst []]):=aH (w:=.ref P) (by rw[cY,aG];rfl) rfl;have a3:aM (Cn pg n) (.asg (.tup %[.pt @6,|.pt @7]) (.idx @5 (.bin .Mod @2 (.blt .len %[|@5])))) (Z o6 o7 none none none none) m=.ok (.nx (Z j g none none none none)) m:=by
  have he:ao (Cn pg n) (.idx @5 (.bin .Mod @2 (.blt .len %[|@5]))) (Z o6 o7 none none none none) m=.ok (iL p) m:=by
   erw[Z,EWs,k,V,OE,p]
  rw[fH,he];rfl
 have OF:aT (.ref tp) (.int p.1) m=.ok (.ref (a p.1)) m:=E.s.ix e;have Pz:aT (.ref (a p.1)) (.int p.2) m=.ok (.str z) m:=by
  have:=bH (i:=p.2) (aK (aL (E.s.fw e))) (~~~r);rw[Rk] at this;exact this
 have a4:aM (Cn pg n) (.asg (.pt @8) (.idx (.idx @0 @6) @7)) (Z j g none none none none) m=.ok (.nx (Z j g @(.str z) none none none)) m:=aH (w:=.str z) (by erw[Z,j,g,EWs,OF,Pz]) rfl;have a5:aM (Cn pg n) (.asg (.pt @9) (.idx @5 (.bin .Mod @3 (.blt .len %[|@5])))) (Z j g @(.str z) none none none) m=.ok (.nx (Z j g @(.str z) @(iL q) none none)) m:=aH (w:=iL q) (by erw[Z,EWs,k,V,OE,q]) rfl;obtain⟨d,a6⟩:∃d:Int,aM (Cn pg n) (.asg (.pt @10) (.ife (.cmp .NotEq @8 (.cst (.str ""))) (.bin .Mod @4 (.blt .len %[|@8])) @(0))) (Z j g @(.str z) @(iL q) none none) m=.ok (.nx (Z j g @(.str z) @(iL q) @(.int d) none)) m:=by
  have X:br (Cn pg n) (.cmp .NotEq @8 (.cst (.str ""))) (Z j g @(.str z) @(iL q) none none) m=.ok (!decide (z="")) m:=by erw[Z,aX,EWs,Pw S.a (show L2.asc ""=true by decide +kernel)]
  by_cases H:z=""
  .refine⟨0,aH (w:=.int 0) ?_ rfl⟩;rw[bT,X,show (!decide (z=""))=false by simp[H]];rfl
  .have NR:z.length≠0:=λ h=>H (yl h);have hp:(0:Int)<z.length:=by omega
   refine⟨(c:Int)%z.length,aH (w:=.int ((c:Int)%z.length)) ?_ rfl⟩;have rX:aY .len [.str z] m=.ok (.int z.length) m:=len_str (by have:=S.l;simp[lim];omega);rw[bT,X,show (!decide (z=""))=true by simp[H]];erw[ay,Qx,Z,EWs,rX,binop,hp]
 let⟨s,hs,F⟩:=wG (z:="AZ09_ -.;") (i:=y%9) (Qm (Rp _ 'd') 'k') 'k' 'k';have a7:aM (Cn pg n) (.asg (.pt @11) (.idx (.cst (.str "AZ09_ -.;")) (.bin .Mod @3 @(9)))) (Z j g @(.str z) @(iL q) @(.int d) none) m=.ok (.nx (Z j g @(.str z) @(iL q) @(.int d) @(.str ⟨#[s]⟩))) m:=by
  have e1:(y:Int)%9=((y%9:Nat):Int):=by omega
  refine aH (w:=.str ⟨#[s]⟩) ?_ rfl;erw[Z,EWs,binop,show (0:Int)<9 by decide,Qx,e1,F]
 let⟨v,gv,hv⟩:=Be (n:=n) (mn:=mn) (x:=x) (y:=y) (c:=c) (o5:=@(.ref P)) (o6:=j) (o7:=g) (d:=d) E Mq hl R S J I hs
 let A:D.Loc:=Z j g @(.str z) @(iL q) @(.int d) @(.str ⟨#[s]⟩)
 have gp:=iK (w:=.str v) (E.s.fw e) (p:=p.2) (~~~r);have Ba:iT (.ref (a p.1)) (.int p.2) (.str v) m=.ok () (m.set (a p.1) (.lst (((f p.1).set p.2 v).map .str))):=by rw[gp,map_set]
 have a8:aM (Cn pg n) (.asg (.sub (.idx @0 @6) @7) eW) A m=.ok (.nx A) (m.set (a p.1) (.lst (((f p.1).set p.2 v).map .str))):=by
  have u0:ao (Cn pg n) (.idx @0 @6) A m=.ok (.ref (a p.1)) m:=by erw[A,Z,j,g,EWs,OF]
  have u7:ao (Cn pg n) @7 A m=.ok (.int p.2) m:=rfl;rw[fH,show ao (Cn pg n) eW A m=_ from hv];erw[ay,fT,u0,u7,Ba]
 have t4:=(E.mono (Qf B) (show l<=3*l by omega)).DN e (zs:=(f p.1).set p.2 v) (by rw[RH];exact t.lw _ e) (λ w hw=>by
  rcases RQ hw with h | rfl
  .exact(t.gw _ e w h).mono 'o'
  .exact gv)
 refine⟨_,jV (d:=⟨5,12,Mh⟩) rfl rfl (Z:=A) ?_,⟨_,_,_,_,_,_,t4⟩,(Kp.app (Rl t.len)).trans (Kp.set (t.lo.2.1 _ e))⟩;show aF _ Mh (LW tp mn x y c none none none none none none none) M=_;rw[Mh,af a1,af e2,af a3,af a4,af a5,af a6,af a7,af a8,ai]
end
section
variable{M:Mem}{tp ra ta:Nat}{a:Nat->Nat}{f:Nat->List Str}{Q:List (Nat×List Int)}{L:List (List Int)}{B l b:Nat}
theorem ee.mono(h:ee B l b M tp)(g:B<=B')(e:l<=l'):ee B' l' b M tp:=by
 let⟨a,ra,ta,f,Q,L,t⟩:=h;exact⟨a,ra,ta,f,Q,L,t.mono g e⟩
abbrev kM(p:Nat×Nat×Nat×Nat):W:=.tup [.int (p.1:Nat),.int (p.2.1:Nat),.int (p.2.2.1:Nat),.int (p.2.2.2:Nat)]
abbrev LP(tp:Nat)(p:Nat×Nat×Nat×Nat):D.Loc:=[@(.ref tp),@(kM p),@(.int (p.1:Nat)),@(.int (p.2.1:Nat)),@(.int (p.2.2.1:Nat)),@(.int (p.2.2.2:Nat))]
abbrev Ig:E:=.frz (.bin .Add (.frz (.bin .Add (.idx @0 @(0)) (.idx @0 @(1)))) (.idx @0 @(2)))
theorem Bf(t:St B l b M tp a ra ta f Q L)(G:B<=100)(A:Z[0]?=@(some (.ref tp))):br (Cn pg n) (.cmp .NotEq Ig (.frz (.lst .nil))) Z M=.ok (! (f 0++f 1++f 2).isEmpty) M:=by
 have h:Cm M:=Sh.cm t.s;have r:aT (.ref tp) (.int 0) M=.ok (.ref (a 0)) M:=t.s.ix (i:=0) 'd';have q:aT (.ref tp) (.int 1) M=.ok (.ref (a 1)) M:=t.s.ix (i:=1) 'd';have k:aT (.ref tp) (.int 2) M=.ok (.ref (a 2)) M:=t.s.ix (i:=2) 'd';have l0:=t.lw 0 'd';have l1:=t.lw 1 'd';have l2:=t.lw 2 'd';have g:∀i,i<3->getL M (.ref (a i))=some ((f i).map .str):=λ i u=>aL (t.s.fw u);have j:ao (Cn pg n) @0 Z M=.ok (.ref tp) M:=by erw[bu,A]
 have F:ao (Cn pg n) (.frz (.bin .Add (.idx @0 @(0)) (.idx @0 @(1)))) Z M=.ok (.fz ((f 0++f 1).map .str)) M:=by
  refine bg (m0:=M) ?_ rfl h (bE _);have:=oW (g 0 'd') (g 1 'd') 'l';erw[cH,bU,j,bB,ay,r,q,this,QK]
 have E:ao (Cn pg n) Ig Z M=.ok (.fz ((f 0++f 1++f 2).map .str)) M:=by
  refine bg (m0:=M) ?_ rfl h (bE _);have:=oW (M:=M) (x:=.fz ((f 0++f 1).map .str)) rfl (g 2 'd') 'l';rw[cH,F];erw[bU,j,bB,ay,k,this];erw[QK]
 have v:toD 60 M (.fz ((f 0++f 1++f 2).map .str))=some (.list ((f 0++f 1++f 2).map PyData.str)):=by
  rw[toD,eS (n:=58) λ z e=>j3 (by
   rcases Qz.mp e with e | e
   .rcases Qz.mp e with e | e
    .exact(t.gw 0 'd' z e).a
    .exact(t.gw 1 'd' z e).a
   .exact(t.gw 2 'd' z e).a)]
  rfl
 erw[aX,E,ay,lA h,ne_nil v];rw[isEmpty_map]
theorem Lx(h:(f 0++f 1++f 2).isEmpty=false):pl f 3≠[]:=λ e=>by
 have g:(pl f 3).length=(f 0).length+(f 1).length+(f 2).length:=by
  rw[iM,iM,iM];simp[pl];omega
 rw[e] at g;have:(f 0++f 1++f 2).length=0:=by
  rw[QU,QU,<-g];rfl
 rw[SW.mp this] at h;cases h
theorem NV{p:Nat×Nat×Nat×Nat}(h:ee B l b M tp)(V:8<=B)(G:B<=100)(Mq:10<=l)(hl:l<=1000)(hp:p.1<23) :
  ∃g,aU (D.runN pg (n+1+1) 26) [.ref tp,kM p] M=.ok .non g/\ee (2*B+1) (3*l) b g tp/\Kp b M g:=by
 let⟨a,ra,ta,f,Q,L,t⟩:=h;let⟨d,x,y,c⟩:=p;have hp:d<23:=hp;rw[bf rfl]
 let Z:D.Loc:=LP tp (d,x,y,c)
 have H:aM (Cn pg (n+1)) (.asg (.tup %[.pt @2,.pt @3,.pt @4,|.pt @5]) @1) [some (.ref tp),some (kM (d,x,y,c)),none,none,none,none] M=.ok (.nx Z) M:=rfl;have done:∀{g:Mem},aF (Cn pg (n+1)) EV [@(.ref tp),@(kM (d,x,y,c)),none,none,none,none] M=.ok (.nx Z) g->D.runN pg (n+1+1) 26 [.ref tp,kM (d,x,y,c)] M=.ok .non g:=λ h=>jV (d:=⟨2,6,EV⟩) rfl rfl h;have K:∀m,ao (Cn pg (n+1)) @0 Z m=.ok (.ref tp) m:=λ m=>rfl;have E:∀m,ao (Cn pg (n+1)) @2 Z m=.ok (.int d) m:=λ m=>rfl;have J:∀m,ao (Cn pg (n+1)) @3 Z m=.ok (.int x) m:=λ m=>rfl;have I:∀m,ao (Cn pg (n+1)) @4 Z m=.ok (.int y) m:=λ m=>rfl;have Y:∀m,ao (Cn pg (n+1)) @5 Z m=.ok (.int c) m:=λ m=>rfl;have U:∀(k:Nat) m,k<=d->ao (Cn pg (n+1)) (.bin .Sub @2 (.cst (.int (k:Nat)))) Z m=.ok (.int (d - k:Nat)) m:=λ k m q=>by
  have:(d:Int) - k=((d - k:Nat):Int):=by omega
  erw[cH,E,ay,bB,binop,this]
 have S:∀(k:Int) m,br (Cn pg (n+1)) (.cmp .Lt @2 (.cst (.int k))) Z m=.ok (decide ((d:Int)<k)) m:=λ k m=>by erw[aX,E,ay,bB,aE]
 have T:∀(j k:Int) m,br (Cn pg (n+1)) (.chain .LtE .Lt (.cst (.int j)) @2 (.cst (.int k))) Z m=.ok (decide (j<=d)&&decide ((d:Int)<k)) m:=λ j k m=>by
  erw[bK,E,ay,bB,aE];cases decide (j<=(d:Int))<;>rfl
 have tG:∀(k:Int) m,br (Cn pg (n+1)) (.cmp .GtE @2 (.cst (.int k))) Z m=.ok (decide (k<=(d:Int))) m:=λ k m=>by erw[aX,E,ay,bB,aE]
 have X:∀(s:Ss) m,¬d<4->aM (Cn pg (n+1)) (.ife (.and (.cmp .Lt @2 @(4)) (.cmp .NotEq Ig (.frz (.lst .nil)))) s .nil) Z m=.ok (.nx Z) m:=λ s m h=>by
  have:decide ((d:Int)<4)=false:=by simp;omega
  rw[bN (iY (by rw[S,this])),ai]
 have r:∀(j k:Int) (s:Ss) m,¬(j<=d/\(d:Int)<k)->aM (Cn pg (n+1)) (.ife (.chain .LtE .Lt (.cst (.int j)) @2 (.cst (.int k))) s .nil) Z m=.ok (.nx Z) m:=λ j k s m h=>by
  have:(decide (j<=(d:Int))&&decide ((d:Int)<k))=false:=by
   rw[Bool.and_eq_false_iff,SX,SX];omega
  rw[bN (by rw[T,this]),ai]
 have N:∀(s:Ss) m,¬17<=d->aM (Cn pg (n+1)) (.ife (.cmp .GtE @2 @(17)) s .nil) Z m=.ok (.nx Z) m:=λ s m h=>by
  have:decide ((17:Int)<=(d:Int))=false:=by simp;omega
  rw[bN (by rw[tG,this]),ai]
 by_cases R:d<4
 .have d1:decide ((d:Int)<4)=true:=by simp;omega
  have Ly:=Bf (n:=n+1) (Z:=Z) t G rfl
  by_cases he:(f 0++f 1++f 2).isEmpty=true
  .have A:(! (f 0++f 1++f 2).isEmpty)=false:=by rw[he];rfl
   refine⟨M,done ?_,⟨_,_,_,_,_,_,t.mono 'o' 'o'⟩,Kp.refl⟩;rw[EV,af H,af (Z1:=Z) (m1:=M) (by rw[bN (by rw[gy (by rw[S,d1]),Ly,A]),ai]),af (r 4 8 _ M 'o'),af (r 8 17 _ M 'o'),af (N _ M 'o'),ai]
  .have Lw:(f 0++f 1++f 2).isEmpty=false:=by simpa using he
   have A:(! (f 0++f 1++f 2).isEmpty)=true:=by rw[Lw];rfl
   let⟨g,e,v,q⟩:=uM (n:=n) (x:=x) (y:=y) (c:=c) t G Mq hl R (Lx Lw);refine⟨g,done ?_,v.mono 'o' (Qf _),q⟩;have u:ao (Cn pg (n+1)) (.call 22 %[@0,@2,@3,@4,|@5]) Z M=.ok .non g:=by
    erw[bO,au,aG,K,E,J,I,Y,ay];rw[bf rfl,e]
   rw[EV,af H,af (Z1:=Z) (m1:=g) (by rw[cZ (by rw[gy (by rw[S,d1]),Ly,A]),af (bM u),ai]),af (r 4 8 _ g 'o'),af (r 8 17 _ g 'o'),af (N _ g 'o'),ai]
 by_cases c2:d<8
 .let⟨g,e,v,q⟩:=uK (n:=n) (mn:=d - 4) (x:=x) (y:=y) t V G 'o' 'o';refine⟨g,done ?_,v.mono 'o' 'o',q⟩;have F:(decide ((4:Int)<=(d:Int))&&decide ((d:Int)<8))=true:=by
   rw[Qe,QE,QE];omega
  have PC:=U 4 M 'o';have u:ao (Cn pg (n+1)) (.call 23 %[@0,.bin .Sub @2 @(4),@3,|@4]) Z M=.ok .non g:=by
   rw[bO,au,K];erw[ay];rw[au,show ao (Cn pg (n+1)) (.bin .Sub @2 @(4)) Z M=_ from PC];erw[ay,au,aG,J,I];rw[bf rfl,e]
  rw[EV,af H,af (X _ M R),af (Z1:=Z) (m1:=g) (by rw[cZ (by rw[T,F]),af (bM u),ai]),af (r 8 17 _ g 'o'),af (N _ g 'o'),ai]
 by_cases c3:d<17
 .let⟨g,e,v,q⟩:=sP (n:=n) (mn:=d - 8) (x:=x) (y:=y) (c:=c) t V G 'o';refine⟨g,done ?_,v.mono 'o' 'o',q⟩;have F:(decide ((8:Int)<=(d:Int))&&decide ((d:Int)<17))=true:=by
   rw[Qe,QE,QE];omega
  have PD:=U 8 M 'o';have u:ao (Cn pg (n+1)) (.call 24 %[@0,.bin .Sub @2 @(8),@3,@4,|@5]) Z M=.ok .non g:=by
   rw[bO,au,K];erw[ay];rw[au,show ao (Cn pg (n+1)) (.bin .Sub @2 @(8)) Z M=_ from PD];erw[ay,au,aG,J,I,Y];rw[bf rfl,e]
  rw[EV,af H,af (X _ M R),af (r 4 8 _ M 'o'),af (Z1:=Z) (m1:=g) (by rw[cZ (by rw[T,F]),af (bM u),ai]),af (N _ g 'o'),ai]
 .let⟨g,e,v,q⟩:=qB (n:=n) (mn:=d - 17) (x:=x) (y:=y) t V G 'o';refine⟨g,done ?_,v.mono 'o' 'o',q⟩;have F:decide ((17:Int)<=(d:Int))=true:=by simp;omega
  have NW:=U 17 M 'o';have u:ao (Cn pg (n+1)) (.call 25 %[@0,.bin .Sub @2 @(17),@3,|@4]) Z M=.ok .non g:=by
   rw[bO,au,K];erw[ay];rw[au,show ao (Cn pg (n+1)) (.bin .Sub @2 @(17)) Z M=_ from NW];erw[ay,au,aG,J,I];rw[bf rfl,e]
  rw[EV,af H,af (X _ M R),af (r 4 8 _ M 'o'),af (r 8 17 _ M 'o'),af (Z1:=Z) (m1:=g) (by rw[cZ (by rw[tG,F]),af (bM u),ai]),ai]
end
theorem NX:∀d:Fin 26,(Builtin.Str.occurrences "abcdefghijklmnopqrstuvwxyz" ⟨#[97+d.val]⟩ 0 26 1).head?=some d.val:=by decide +kernel
theorem Wd.small(h:Wd z):z.cps.all (· < 0x110000)=true:=by
 rw[Sj];intro i a;have:=h.az z.cps[i] 's';simp;omega
theorem Lz:Draws (D.runN pg (n+1) 12):=by
 intro m p many e a h;let⟨A,B,f⟩:=e;have e:p<m.length:=(Qc.mp f).1;have j:∀o:O,(m.set p o)[p]?=some o:=λ o=>by simp[e]
 by_cases g:0<A
 .refine⟨A%many,m.set p (d9 (A / many) B),?_,⟨_,_,rfl⟩,Ur _ 'o',TX _ a⟩;simp[D.runN_succ,pg,NJ,fJ,pW,gH,fH,zE,lW,rB,pS,rC,pT,rD,pU,vh,pV,kQ,rE,eZ,fc,fh,fj,fm,fq,fu,fB,cD,cJ,fC,cM,cN,cP,eG,fD,fE,cQ,fF,cR,dH,fS,dI,aX,bK,eK,bu,bB,cH,ji,gk,fk,jN,fV,bY,bT,dY,cY,bU,fy,gF,bZ,gO,bG,eE,dG,j9,dM,kc,dN,gG,iU,fG,fT,fU,aD,R.bind,aE,aT,aP,getL,f,L2.uY,L2.yu,aY,iT,outF,g,a,h]
 .refine⟨_,m.set p (d9 A ((B*48271+3571)%2147483647)),?_,⟨_,_,rfl⟩,Ur (((B*48271+3571)%2147483647)*((B*48271+3571)%2147483647)%2147483629 / 13) (by omega:many≠0),TX _ a⟩;have r:0<=(B*48271+3571)%2147483647:=Ur _ 'd';have q:(B*48271+3571)%2147483647<2147483647:=TX _ 'd';have l:j8 B 48271=true:=by simp[j8]
  have k:j8 ((B*48271+3571)%2147483647) ((B*48271+3571)%2147483647)=true:=by simp[j8];omega
  simp[D.runN_succ,pg,NJ,fJ,pW,gH,fH,zE,lW,rB,pS,rC,pT,rD,pU,vh,pV,kQ,rE,eZ,fc,fh,fj,fm,fq,fu,fB,cD,cJ,fC,cM,cN,cP,eG,fD,fE,cQ,fF,cR,dH,fS,dI,aX,bK,eK,bu,bB,cH,ji,gk,fk,jN,fV,bY,bT,dY,cY,bU,fy,gF,bZ,gO,bG,eE,dG,j9,dM,kc,dN,gG,iU,fG,fT,fU,aD,R.bind,aE,aT,aP,getL,f,j,L2.uY,L2.yu,aY,iT,outF,g,a,h,binop,l,k]
theorem draw{many:Int}(e:jG m p)(g:0<many)(f:many<1073741824):∃d a,aU (D.runN pg (n+1) 12) [.ref p,.int many] m=.ok (.int d) a/\PS p m a/\0<=d/\d<many:=by
 rw[bf rfl];exact Lz e g f
def er(d:Nat)(t:List Nat):Str:=⟨((97+d)::t).toArray⟩
theorem DO{d':Nat}{t:List Nat}(h:er d t=er d' t):d=d':=by
 have:=RU (λ z:Str=>z.cps.toList) h;simp[er] at this;exact this
theorem Bg{t:List Nat}(h:d<26)(f:t.length<=7)(e:∀c∈t,97<=c/\c<=122):Wd (er d t):=by
 refine⟨by simp[er],by simp[er];omega,λ c a=>?_⟩;simp[er] at a;rcases a with rfl | a
 .omega
 .exact e c a
theorem LA:("abcdefghijklmnopqrstuvwxyz":Str).cps.toList=(List.range 26).map (97+·):=by decide +kernel
theorem LB(h:d<26)(m:Mem):aT (.str "abcdefghijklmnopqrstuvwxyz") (.int d) m=.ok (.str ⟨#[97+d]⟩) m:=by
 have a:("abcdefghijklmnopqrstuvwxyz":Str).length<=lim:=by decide +kernel
 erw[aT];rw[Qn a,LA,k8 (i:=d) (~~~h)];simp
theorem NY(d:Nat)(t:List Nat)(h:t.length<=7)(m:Mem):aT (.str (er d t)) (.int 0) m=.ok (.str ⟨#[97+d]⟩) m:=by
 have a:(er d t).length<=lim:=by simp[uI,er,lim];omega
 erw[aT];rw[Qn a];have:=k8 (xs:=(er d t).cps.toList) (i:=0) (by simp[er]);erw[er,Int.natCast_zero] at this ⊢;simp[this,er] at *
theorem ym{t:List Nat}{e a:Option W}(h:d<26)(f:t.length<=7) :
  ao (Cn pg n) (.bin .Add (.idx @2 (.bin .Mod (.bin .Add (.meth @2 "index" %[|.idx @3 @(0)]) @(1)) @(26))) (.slc @3 (.some @(1)) .none)) [e,a,some ab,@(.str (er d t)),o4,o5] m=.ok (.str (er ((d+1)%26) t)) m:=by
 have A:kB "index"=.str:=by decide
 have x:bx ab "index" [.str ⟨#[97+d]⟩] m=.ok (.int d) m:=by
  have j:gY "abcdefghijklmnopqrstuvwxyz" [.str ⟨#[97+d]⟩] m=.ok (.int d) m:=by
   have:=NX ⟨d,h⟩;erw[gY];rw[show ("abcdefghijklmnopqrstuvwxyz":Str).length=26 from by decide +kernel,this]
  simpa[bx,oh] using j
 have v:((d:Int)+1)%26=(((d+1)%26:Nat):Int):=by omega
 have u:=LB (d:=(d+1)%26) (Rp _ 'd') m;have r:cW (.str (er d t)) (some 1) none m=.ok (.str ⟨t.toArray⟩) m:=by
  have g:(er d t).length<=lim:=by simp[uI,er,lim];omega
  erw[cW];rw[Qn g,uH _ (by simp[er])];simp[er]
 have q:(⟨#[97+(d+1)%26]⟩:Str).length+(⟨t.toArray⟩:Str).length<=lim:=by simp[uI,lim];omega
 have l:(⟨#[97+(d+1)%26]⟩:Str)++(⟨t.toArray⟩:Str)=er ((d+1)%26) t:=by
  show Str.mk (#[97+(d+1)%26]++t.toArray)=_;simp[er]
 have k:(0:Int)<26:=by decide
 erw[EWs,kdOf,A,Qx,NY d t f,x,binop,v,k,u,r];rw[Qn q,l]
theorem yo{q:Nat}{d0:Nat}{t:List Nat}(J:m[q]?=@(.lst (ws.map .str)))(hw:∀z∈ws,Wd z)(V:ws.length<=20)(R:d0<26)(B:t.length<=7)(A:∀c∈t,97<=c/\c<=122) :
  ∃d l,d<26/\er d t∉ws/\aM (Cn pg n) (.for_ @4 (.rng @(26)) sE) [@(.ref p),@(.ref q),some ab,@(.str (er d0 t)),o4,o5] m=.ok (.nx [@(.ref p),@(.ref q),some ab,@(.str (er d t)),l,o5]) m:=by
 let⟨G,U,N,rfl,d,l,rfl,g,f⟩:=fW (C:=Cn pg n) (t:=.var 4) (it:=.rng @(26)) (b:=sE) (Z:=[@(.ref p),@(.ref q),some ab,@(.str (er d0 t)),o4,o5]) (m:=m) (m1:=m) (s:=.rng 0 26) (n:=26) (kL (n:=26) (by erw[EVs];rfl) 'd') rfl
  (λ i Z m1=>m1=m/\∃d l,Z=[@(.ref p),@(.ref q),some ab,@(.str (er d t)),l,o5]/\d<26/\(er d t∉ws\/(d=(d0+i)%26/\∀j<i,er ((d0+j)%26) t∈ws)))
  ⟨rfl,d0,o4,rfl,R,.inr ⟨by omega,by omega⟩⟩ (λ i Z m1 F=>by
   rintro⟨rfl,d,l,rfl,g,f⟩;have v:aE .In (.str (er d t)) (.ref q) m1=.ok (decide (er d t∈ws)) m1:=by
    erw[aE,qX,J];exact sD (Bg g B A).small λ z H=>(hw z H).small
   have u:br (Cn pg n) (.cmp .In @3 @1) [@(.ref p),@(.ref q),some ab,@(.str (er d t)),@(.int (0+i)),o5] m1=.ok (decide (er d t∈ws)) m1:=by erw[EVs,eZ,fc,fh,fj,fm,fq,fu,fB,cD,cJ,fC,cM,cN,cP,eG,fD,fE,cQ,fF,cR,dH,fS,dI,aX,bK,eK,nj,nk,nq,nu,v]
   by_cases r:er d t∈ws
   .rw[QS r] at u;refine⟨.int (0+i),[@(.ref p),@(.ref q),some ab,@(.str (er d t)),@(.int (0+i)),o5],[@(.ref p),@(.ref q),some ab,@(.str (er ((d+1)%26) t)),@(.int (0+i)),o5],m1,aV F,by simp[aD],.inl ?_,rfl,(d+1)%26,_,rfl,Rp _ 'd',.inr ?_⟩
    .rw[sE,af (Z1:=[@(.ref p),@(.ref q),some ab,@(.str (er ((d+1)%26) t)),@(.int (0+i)),o5]) (by rw[cZ u,af (aH (ym g B) rfl),ai];rfl),ai]
    .rcases f with f | ⟨rfl,hall⟩
     .exact absurd r f
     .refine⟨by omega,λ j E=>?_⟩;rcases Tt j i with h | h
      .exact hall j h
      .have:j=i:=by omega
       subst this;exact r
   .rw[QH r] at u;refine⟨.int (0+i),[@(.ref p),@(.ref q),some ab,@(.str (er d t)),@(.int (0+i)),o5],[@(.ref p),@(.ref q),some ab,@(.str (er d t)),@(.int (0+i)),o5],m1,aV F,by simp[aD],.inl ?_,rfl,d,_,rfl,g,.inl r⟩;rw[sE,af (Z1:=[@(.ref p),@(.ref q),some ab,@(.str (er d t)),@(.int (0+i)),o5]) (by rw[bN u,ai]),ai])
  (fun Z m _=>aR 'o')
 refine⟨d,l,g,?_,N⟩;rcases f with h | ⟨_,h⟩
 .exact h
 .exfalso;have K:((List.range 26).map λ j=>er ((d0+j)%26) t).Nodup:=by
   rw[Ux,pairwise_map];refine List.Pairwise.imp_of_mem (λ {a b} A S T=>?_) (List.nodup_iff_pairwise_ne.mp nodup_range);intro e;have:=DO e;have:=Q7.mp A;have:=Q7.mp S;omega
  have:=oS (k:=ws) K λ x I=>by
   let⟨j,E,rfl⟩:=QB.mp I;exact h j (Q7.mp E)
  simp at this;omega
theorem toNat_eq{d:Int}(h:0<=d):((d.toNat:Nat):Int)=d:=by omega
theorem oZ:∀ns:List Str,gM (ns.map W.str)=some ns
 | []=>rfl
 |n::r=>by simp[gM,oZ r]
theorem uN{q:Nat}(J:jG m p)(Y:Cm m) :
  ∃d t R,d<26/\t.length<=7/\(∀c∈t,97<=c/\c<=122)/\PS p m R/\ao (Cn pg (n+1)) (.meth (.cst (.str "")) "join" %[|.frz (.comp (.gen @5 [5] (.rng (.bin .Add @(1) (.call 12 %[@0,|@(8)]))) .nil (.elt (.idx @2 (.call 12 %[@0,|@(26)])))))]) [@(.ref p),@(.ref q),some ab,none,none,o5] m=.ok (.str (er d t)) R:=by
 let⟨B,m1,h1,E,z1,z2⟩:=draw (n:=n) (many:=8) J 'd' 'd';have hc:(1:Int)+B=((B.toNat+1:Nat):Int):=by omega
 have hI:dw (Cn pg (n+1)) (.rng (.bin .Add @(1) (.call 12 %[@0,|@(8)]))) [some (.ref p),some (.ref q),some ab,none,none,o5] m=.ok (.rng 0 (B.toNat+1)) m1:=kL (by erw[EWs,h1,binop,hc]) 'o';let⟨ws,S,H,K,I,v,A⟩:=mS (C:=Cn pg (n+1)) (f:=0) (get:=Src.get (.rng 0 (B.toNat+1))) (i:=5) (e:=.idx @2 (.call 12 %[@0,|@(26)])) (Z:=fY [5] [@(.ref p),@(.ref q),some ab,none,none,o5]) (n:=B.toNat+1) (P:=λ w=>∃c:Nat,w=.str ⟨#[c]⟩/\97<=c/\c<=122) (E.d9 J) (λ m j hj=>⟨_,aV hj⟩) (λ m=>aR 'o') 'l'
  (λ x m3 h3=>by
   let⟨d,N,h4,U,T,y2⟩:=draw (n:=n) (many:=26) (h3.d9 (E.d9 J)) 'd' 'd';refine⟨.str ⟨#[97+d.toNat]⟩,N,?_,U,_,rfl,by omega,by omega⟩;have:=LB (d:=d.toNat) 'o' N;rw[toNat_eq T] at this;erw[fY,EWs,h4,this])
 obtain⟨k,h,u⟩:∃k:List Nat,ws=k.map (λ c=>W.str ⟨#[c]⟩)/\∀c∈k,97<=c/\c<=122:=by
  clear K v
  induction ws with
  |nil=>exact⟨[],rfl,by simp⟩
  |cons w r F=>
   let⟨c,rfl,c1,c2⟩:=A w QM;let⟨l,rfl,V⟩:=F λ w X=>A w (QC _ X);refine⟨c::l,rfl,λ x G=>?_⟩;rcases Qv.mp G with rfl | G
   .exact⟨c1,c2⟩
   .exact V x G
 have g:k.length=B.toNat+1:=by rw[<-v,h,Qq]
 have hf:=bg (C:=Cn pg (n+1)) (m0:=H) (dS (js:=[5]) (ifs:=.nil) hI (by simpa only[Src.len] using K)) (by rw[I.len,E.len]) (I.cm (E.cm Y)) (by rw[h];exact ko (λ _=>rfl) _)
 match k,h,g,u with
 | [],_,g,_=>simp at g
 |c::t,h,g,u=>
  have hc0:=u c QM;refine⟨c - 97,t,H,by omega,by simp at g;omega,λ x G=>u x (QC _ G),E.trans I,?_⟩;have e1:kB "join"=.str:=by decide
  have e2:lS "" [.fz ws] H=.ok (.str (er (c - 97) t)) H:=by
   have g1:gM ws=some ((c::t).map λ c=>(⟨#[c]⟩:Str)):=by rw[h,show ((c::t).map λ c=>W.str ⟨#[c]⟩)=((c::t).map λ c=>(⟨#[c]⟩:Str)).map W.str from by rw[R7];rfl];exact oZ _
   have g2:((((c::t).map λ c=>(⟨#[c]⟩:Str)).map (·.length)).sum+((c::t).map λ c=>(⟨#[c]⟩:Str)).length*("":Str).length<=16777216):=by
    have:∀l:List Nat,((l.map λ c=>(⟨#[c]⟩:Str)).map (·.length)).sum=l.length:=λ l=>by
     induction l with
     |nil=>rfl
     |cons a r F=>simp[uI] at F ⊢;omega
    rw[this];have h0:("":Str).length=0:=rfl;rw[h0];simp at g ⊢;omega
   have g3:Txt.join "" ((c::t).map λ c=>(⟨#[c]⟩:Str))=er (c - 97) t:=by
    have:=L2.zv ((c::t).map λ c=>(⟨#[c]⟩:Str));have h2:(((c::t).map λ c=>(⟨#[c]⟩:Str)).map λ y=>y.cps.toList).flatten=c::t:=by
     have:∀l:List Nat,((l.map λ c=>(⟨#[c]⟩:Str)).map λ y=>y.cps.toList).flatten=l:=λ l=>by
      induction l with
      |nil=>rfl
      |cons a r F=>erw[QF,flatten_cons,F];rfl
     exact this _
    rw[h2] at this;show Txt.join ⟨#[]⟩ _=_;generalize Txt.join ⟨#[]⟩ ((c::t).map λ c=>(⟨#[c]⟩:Str))=z at this;let⟨a⟩:=z;simp only at this;have:a=(c::t).toArray:=by rw[<-this]
    rw[this,er,show 97+(c - 97)=c by omega]
   erw[lS,getL,g1];rw[Qn g2,g3]
  rw[bG];erw[bB,ay,kdOf,e1,Qx,au,hf,aG];simpa[bx,oh] using e2
theorem word{q:Nat}(v:jG m p)(x:Cm m)(f:p≠q)(u:m[q]?=@(.lst (ws.map .str)))(hw:∀z∈ws,Wd z)(A:ws.length<=20) :
  ∃w k,D.runN pg (n+1+1) 13 [.ref p,.ref q] m=.ok (.str w) (k.set q (.lst ((ws++[w]).map .str)))/\PS p m k/\Wd w/\w∉ws:=by
 let⟨I,t,m1,g,l,r,j,E⟩:=uN (n:=n) (q:=q) (o5:=none) v x;have a:m1[q]?=some (.lst (ws.map .str)):=by rw[j.ne f];exact u
 let⟨d,o4,F,e,B⟩:=yo (n:=n+1) (p:=p) (o4:=none) (o5:=none) a hw A g l r;refine⟨er d t,m1,?_,j,Bg F l r,e⟩;refine cF (d:=⟨2,6,L7⟩) rfl rfl ?_;show aF _ L7 [@(.ref p),@(.ref q),none,none,none,none] m=_;have h:ao (Cn pg (n+1)) (.meth @1 "append" %[|@3]) [@(.ref p),@(.ref q),some ab,@(.str (er d t)),o4,none] m1=.ok .non (m1.set q (.lst ((ws++[er d t]).map .str))):=by
  have H:kB "append"=.lst:=by decide
  have G:(ws.map W.str).length<lim:=by simp[lim];omega
  erw[EWs,kdOf,a,H,Qx,bx,eU,gj,G,QK,QF,Tp]
 rw[L7,af (Z1:=[@(.ref p),@(.ref q),some ab,none,none,none]) (aH (w:=ab) (m1:=m) (by erw[bB]) rfl),af (Z1:=[@(.ref p),@(.ref q),some ab,@(.str (er I t)),none,none]) (aH E rfl),af B,af (bM h),aO (bR (w:=.str (er d t)) (m1:=m1.set q (.lst ((ws++[er d t]).map .str))) (by erw[EWs]))]
def PQ(p q:Nat)(ws:List Str)(m a:Mem):Prop:=∃m1,PS p m m1/\a=m1.set q (.lst (ws.map .str))
theorem words{q:Nat}(I:jG m p)(J:Cm m)(k:p≠q)(H:m[q]?=@(.lst (ws.map .str)))(hw:∀z∈ws,Wd z)(S:ws.Nodup)(hl:ws.length+many<=20) :
  ∃vs v,D.runN pg (n+1+1+1) 14 [.ref p,.int many,.ref q] m=.ok (dQ vs) v/\PQ p q (ws++vs) m v/\vs.length=many/\(∀z∈ws++vs,Wd z)/\(ws++vs).Nodup:=by
 have PF:q<m.length:=(Qc.mp H).1;have Y:dw (Cn pg (n+1+1)) (.rng @1) [@(.ref p),@(.int many),@(.ref q),none] m=.ok (.rng 0 many) m:=kL (by erw[EWs]) 'o';let⟨f,N,v,V,⟨o,ho⟩,vs,h1,h2,h3,h4,h5⟩:=cz (get:=Src.get (.rng 0 many)) (t:=.var 3) (test:=fun Z m=>bD (Cn pg (n+1+1)) .nil Z m) (body:=fun Z m f=>gZ (Cn pg (n+1+1)) (.elt (.call 13 %[@0,|@2])) Z m f) (n:=many)
  (λ i Z m1 f=>(∃o,Z=[@(.ref p),@(.int many),@(.ref q),o])/\∃vs:List Str,f=vs.map .str/\vs.length=i/\PQ p q (ws++vs) m m1/\(∀z∈ws++vs,Wd z)/\(ws++vs).Nodup) (λ i Z m1 f T=>by
   rintro⟨⟨o,rfl⟩,vs,rfl,x,⟨g,h,rfl⟩,r,G⟩;have E:(g.set q (O.lst ((ws++vs).map .str)))[q]?=some (.lst ((ws++vs).map .str)):=QG (by rw[h.len];exact PF);have F:jG (g.set q (O.lst ((ws++vs).map .str))) p:=by let⟨A,B,e⟩:=h.d9 I;exact⟨A,B,by rw[QA k.symm];exact e⟩
   let⟨w,m3,R,⟨A,B,rfl⟩,l,u⟩:=word (n:=n) F ((h.cm J).set (o:=.lst ((ws++vs).map .str)) (aJ _ (bE _))) k E r (by simp;omega);refine⟨.int (0+i),[@(.ref p),@(.int many),@(.ref q),@(.int (0+i))],aV T,by simp[aD],.inl ⟨g.set q (.lst ((ws++vs).map .str)),(vs++[w]).map .str,[@(.ref p),@(.int many),@(.ref q),@(.int (0+i))],(g.set p (d9 A B)).set q (.lst ((ws++(vs++[w])).map .str)),by erw[cy],?_,⟨_,rfl⟩,vs++[w],rfl,by simp[x],⟨_,h.trans ⟨A,B,rfl⟩,rfl⟩,?_,?_⟩⟩
   .have e1:(vs.map W.str).length<lim:=by simp[lim];omega
    have e2:aU (D.runN pg (n+1+1) 13) [.ref p,.ref q] (g.set q (O.lst ((ws++vs).map .str)))=.ok (.str w) ((g.set p (d9 A B)).set q (.lst ((ws++(vs++[w])).map .str))):=by
     rw[bf rfl,R,set_comm _ _ k.symm,Tc,Rc]
    erw[ic,EWs,e2];rw[Qn e1];simp
   .intro z j;rw[<-Rc] at j;rcases Qz.mp j with j | j
    .exact r z j
    .rw[QV] at j;subst j;exact l
   .rw[<-Rc];rw[R6];exact⟨G,by simp,λ a X b K=>by rw[QV] at K;subst K;rintro rfl;exact u X⟩)
  (fun Z m f _=>aR 'o') many 0 [@(.ref p),@(.int many),@(.ref q),none] m [] 'o' ⟨⟨_,rfl⟩,[],rfl,rfl,⟨m,I.refl,by rw[Rm,set_same H]⟩,~~~hw,~~~S⟩
 subst h1;let⟨g,h,rfl⟩:=h3;refine⟨vs,_,?_,⟨g,h,rfl⟩,h2,h4,h5⟩;refine cF (d:=⟨3,4,L8⟩) rfl rfl ?_;show aF _ L8 [@(.ref p),@(.int many),@(.ref q),none] m=_;have U:=bg (C:=Cn pg (n+1+1)) (m0:=g.set q (.lst ((ws++vs).map .str))) (dS (js:=[3]) (ifs:=.nil) Y V) (by rw[RH,h.len]) ((h.cm J).set (o:=.lst ((ws++vs).map .str)) (aJ _ (bE _))) (bE vs);rw[L8,aO (bR U)]
abbrev jF(many:Nat)(f:Nat->List Int):Mem:=(List.range many).map λ s=>O.lst ((f s).map .int)
abbrev iD(b many:Nat):List W:=(List.range many).map λ i=>W.ref (b+i)
def MM(many:Nat)(m:Mem)(f:Nat->List Int):Mem:=m++(jF many f++[.lst (iD m.length many)])
section
variable{many:Nat}{m m' m2:Mem}{f:Nat->List Int}{p:Nat}
theorem MM.d9(h:jG m p):jG (MM many m f) p:=h.app
theorem MM.ps(a:p<m.length)(h:PS p (MM many m f) m2):∃m',PS p m m'/\m2=MM many m' f:=by
 let⟨A,B,rfl⟩:=h;refine⟨m.set p (D.d9 A B),⟨A,B,rfl⟩,?_⟩;unfold MM;rw[Us _ _ a,RH]
theorem MM.row{s:Nat}(h:s<many):(MM many m f)[m.length+s]?=some (.lst ((f s).map .int)):=by
 unfold MM;rw[Qy 'o',Qh (by simp;omega)];simp[h]
theorem MM.refs:(MM many m f)[m.length+many]?=some (.lst (iD m.length many)):=by
 unfold MM;rw[Qy 'o',Qy 's'];simp
theorem MM.set{s:Nat}{v:List Int}(h:s<many):(MM many m f).set (m.length+s) (.lst (v.map .int))=MM many m (λ j=>if j=s then v else f j):=by
 unfold MM;rw[S8 _ _ 'o',Us _ _ (by simp;omega)];congr 2;apply Uz
 .simp
 .intro j k l;erw[RH,Qq,length_range] at k;rw[getElem_set]
  by_cases a:s=j
  .subst a;simp
  .have:¬j=s:=λ e=>a e.symm;have g:¬m.length+s - m.length=j:=by omega
   simp[a,this,g]
theorem MM.cm(h:Cm m):Cm (MM many m f):=by
 refine h.app λ o e=>?_;rcases Qz.mp e with e | e
 .let⟨s,_,rfl⟩:=QB.mp e;exact aJ _ (iy _)
 .rw[QV] at e;subst e;show bq _ _=true;have:∀l:List Nat,(∀i∈l,i<many)->bq (m.length+(jF many f++[O.lst (iD m.length many)]).length) (l.map λ i=>W.ref (m.length+i))=true:=λ l=>by
   induction l with
   |nil=>intro _;rfl
   |cons a r j=>
    intro h;have k:=h a QM;erw[QF,bq,eY,j λ i g=>h i (QC _ g),Bool.and_true,QE];simp;omega
  exact this _ λ i g=>Q7.mp g
end
theorem Bh{s:Nat}{st:List Nat}:ku m (.int s) (st.map λ t:Nat=>W.int (t:Int))=.ok (decide (s∈st)) m:=by
 have g:∀l:List Nat,dJ (toD 60 m) (l.map λ t:Nat=>W.int (t:Int))=some (l.map λ t:Nat=>PyData.int (t:Int)):=λ l=>by
  induction l with
  |nil=>rfl
  |cons a r e=>erw[QF,dJ,e];rfl
 erw[ku,g];have f:toD 60 m (.int (s:Int))=some (.int s):=rfl;rw[f];dsimp only;congr 1;rw[Uk]
 induction st with
 |nil=>simp
 |cons a r e=>
  erw[Sz,e,RI,Function.comp]
  by_cases h:s=a
  .subst h;simp[PyData.eqv]
  .have:¬((a:Int)=(s:Int)):=by omega
   simp[PyData.eqv,h,this]
theorem stays{lt:W}(u:jG m p)(A:Cm m)(N:many<=4) :
  ∃(st:List Nat) (e:Mem),(∀s∈st,s<many)/\st.length<=4/\PS p m e/\ao (Cn pg (n+1)) (.frz (.comp (.gen @3 [3] (.rng @1) %[|.cmp .Eq (.call 12 %[@0,|@(2)]) @(1)] (.elt @3)))) [some (.ref p),some (.int many),some lt,o3,o4,o5,o6] m=.ok (.fz (st.map λ t:Nat=>W.int (t:Int))) e:=by
 have F:dw (Cn pg (n+1)) (.rng @1) [@(.ref p),@(.int many),some lt,o3,o4,o5,o6] m=.ok (.rng 0 many) m:=kL (by erw[EWs]) 'o';let⟨a,v,e,E,⟨o,R⟩,st,H,G,S,q⟩:=cz (get:=Src.get (.rng 0 many)) (t:=.var 3) (test:=fun Z m=>bD (Cn pg (n+1)) %[|.cmp .Eq (.call 12 %[@0,|@(2)]) @(1)] Z m) (body:=fun Z m a=>gZ (Cn pg (n+1)) (.elt @3) Z m a) (n:=many)
  (λ i Z m1 a=>(∃o,Z=[@(.ref p),@(.int many),some lt,o,o4,o5,o6])/\∃st:List Nat,a=st.map (λ t:Nat=>W.int (t:Int))/\(∀s∈st,s<many)/\st.length<=i/\PS p m m1) (λ i Z m1 a B=>by
   rintro⟨⟨o,rfl⟩,st,rfl,f,x,l⟩;let⟨d,j,I,r,K,J⟩:=draw (n:=n) (many:=2) (l.d9 u) 'd' 'd';refine⟨.int i,[@(.ref p),@(.int many),some lt,@(.int i),o4,o5,o6],by rw[aV B];simp,by simp[aD],?_⟩;have k:bD (Cn pg (n+1)) %[|.cmp .Eq (.call 12 %[@0,|@(2)]) @(1)] [@(.ref p),@(.int many),some lt,@(.int i),o4,o5,o6] m1=.ok (decide (d=1)) j:=by
    erw[cy,aX,EWs,I,aE,HZ]
    by_cases h:d=1<;>simp[h,cy]
   by_cases h:d=1
   .rw[QS h] at k;refine .inl ⟨j,(st++[i]).map (λ t:Nat=>W.int (t:Int)),[@(.ref p),@(.int many),some lt,@(.int i),o4,o5,o6],j,k,?_,⟨_,rfl⟩,st++[i],rfl,λ s g=>?_,by simp;omega,l.trans r⟩
    .have:(st.map λ t:Nat=>W.int (t:Int)).length<lim:=by simp[lim];omega
     erw[ic,EWs];rw[Qn this];simp
    .rcases Qz.mp g with g | g
     .exact f s g
     .rw[QV] at g;omega
   .rw[QH h] at k;exact .inr ⟨j,k,⟨_,rfl⟩,st,rfl,f,by omega,l.trans r⟩)
  (fun Z m a _=>aR 'o') many 0 [@(.ref p),@(.int many),some lt,none,o4,o5,o6] m [] 'o' ⟨⟨_,rfl⟩,[],rfl,by simp,by simp,u.refl⟩
 subst H;exact⟨st,e,G,by omega,q,bg (C:=Cn pg (n+1)) (m0:=e) (dS (js:=[3]) F E) q.len (q.cm A) (ko (λ _=>rfl) _)⟩
theorem Ih{lt:W}(B:jG m p)(x:Cm m)(E:2<=many)(G:many<=4) :
  ∃(st:List Nat) (A:Mem),(∀s∈st,s<many)/\st≠[]/\st.length<=4/\PS p m A/\∀r,aF (Cn pg (n+1)) (.cons (.asg (.pt @6) (.frz (.comp (.gen @3 [3] (.rng @1) %[|.cmp .Eq (.call 12 %[@0,|@(2)]) @(1)] (.elt @3))))) (.cons (.ife (.cmp .Eq @6 (.frz (.lst .nil))) %[|.asg (.pt @6) (.frz (.lst %[|.call 12 %[@0,|@1]]))] .nil) r)) [@(.ref p),@(.int many),some lt,o3,o4,o5,o6] m
   = aF (Cn pg (n+1)) r [@(.ref p),@(.int many),some lt,o3,o4,o5,@(.fz (st.map λ t:Nat=>W.int (t:Int)))] A:=by
 let⟨st,m1,q,g,e,j⟩:=stays (n:=n) (o3:=o3) (o4:=o4) (o5:=o5) (o6:=o6) (lt:=lt) B x G;have R:∀Z,ao (Cn pg (n+1)) (.frz (.lst .nil)) Z m1=.ok (.fz []) m1:=fun Z=>bg (m0:=m1) (by erw[EVs,Sl,new];rw[Qn (RB _)]) rfl (e.cm x) rfl;have k:br (Cn pg (n+1)) (.cmp .Eq @6 (.frz (.lst .nil))) [@(.ref p),@(.int many),some lt,o3,o4,o5,@(.fz (st.map λ t:Nat=>W.int (t:Int)))] m1=.ok (decide (st=[])) m1:=by
  erw[aX,bu,nj,nk,nq,nu,ay,R,aE];have q:∀l:List Nat,dJ (toD 59 m1) (l.map λ t:Nat=>W.int (t:Int))=some (l.map λ t:Nat=>PyData.int (t:Int)):=λ l=>by
   induction l with
   |nil=>rfl
   |cons a r H=>erw[QF,dJ,H];rfl
  have E:toD 60 m1 (.fz (st.map λ t:Nat=>W.int (t:Int)))=some (.list (st.map λ t:Nat=>PyData.int (t:Int))):=by
   show (dJ (toD 59 m1) _).map _=_;rw[q];rfl
  have K:toD 60 m1 (.fz [])=some (.list []):=rfl;erw[vd,E,K];cases st with
  |nil=>rfl
  |cons a r=>rfl
 cases f:st with
 |nil=>
  rw[f] at k j;let⟨d,h,N,u,F,S⟩:=draw (n:=n) (many:=many) (e.d9 B) 'o' 'o';refine⟨[d.toNat],h,λ s I=>by rw[QV] at I;omega,by simp,by simp,e.trans u,λ r=>?_⟩;have J:ao (Cn pg (n+1)) (.frz (.lst %[|.call 12 %[@0,|@1]])) [@(.ref p),@(.int many),some lt,o3,o4,o5,@(.fz [])] m1=.ok (.fz [.int d]) h:=by
   refine bg (m0:=h) ?_ u.len (u.cm (e.cm x)) rfl;erw[EWs,N,new,QO,Sl];rw[Qn 'd']
  rw[af (Z1:=[@(.ref p),@(.int many),some lt,o3,o4,o5,@(.fz [])]) (aH j rfl),af (Z1:=[@(.ref p),@(.int many),some lt,o3,o4,o5,@(.fz [.int d])]) (m1:=h) (by rw[cZ (m1:=m1) (~~~k),af (aH J rfl),ai];rfl)];simp[toNat_eq F]
 |cons a v=>
  rw[f] at k j q g;refine⟨a::v,m1,q,by simp,g,e,λ r=>?_⟩;rw[af (Z1:=[@(.ref p),@(.int many),some lt,o3,o4,o5,@(.fz ((a::v).map λ t:Nat=>W.int (t:Int)))]) (aH j rfl),af (Z1:=[@(.ref p),@(.int many),some lt,o3,o4,o5,@(.fz ((a::v).map λ t:Nat=>W.int (t:Int)))]) (m1:=m1) (by rw[bN (m1:=m1) (~~~k),ai])]
abbrev yz(st:List Nat):W:=.fz (st.map λ t:Nat=>W.int (t:Int))
theorem Bj(h:m[n]?=@(.lst xs)):aP m (.ref n)=some xs:=by erw[aP,getL,h]
theorem column{f:Nat->List Int}{st:List Nat}{lt:W}(B:jG m p)(pA:many<=4)(hst:∀s∈st,s<many)(H:st≠[])(hsl:st.length<=4)(I:∀s,s<many->(f s).length<=100) :
  ∃e a q,PS p m e/\aM (Cn pg (n+1)) (.for_ @3 (.rng @1) wg) [@(.ref p),@(.int many),some lt,o3,@(.ref (m.length+many)),o5,@(yz st)] (MM many m f)=.ok (.nx [@(.ref p),@(.int many),some lt,q,@(.ref (m.length+many)),o5,@(yz st)]) (MM many e a)/\
   ∀s,s<many->∃k∈st,a s=f s++[(k:Int)]/\(s∈st->k=s):=by
 let⟨V,M',hf,e,a,r,rfl,⟨q,rfl⟩,J,G⟩:=fW (C:=Cn pg (n+1)) (t:=.var 3) (it:=.rng @1) (b:=wg) (Z:=[@(.ref p),@(.int many),some lt,o3,@(.ref (m.length+many)),o5,@(yz st)]) (m:=MM many m f) (m1:=MM many m f) (s:=.rng 0 many) (n:=many) (kL (by erw[EWs]) 'o') rfl
  (λ i Z M=>∃e a,PS p m e/\M=MM many e a/\(∃o3,Z=[@(.ref p),@(.int many),some lt,o3,@(.ref (m.length+many)),o5,@(yz st)])/\(∀s,s<i->∃k∈st,a s=f s++[(k:Int)]/\(s∈st->k=s))/\∀s,i<=s->a s=f s)
  ⟨m,f,B.refl,rfl,⟨_,rfl⟩,by omega,λ _ _=>rfl⟩ (λ i Z M u=>by
   rintro⟨e,a,r,rfl,⟨o3,rfl⟩,J,G⟩;have F:e.length=m.length:=r.len;have e1:ao (Cn pg (n+1)) (.idx @4 @3) [@(.ref p),@(.int many),some lt,@(.int i),@(.ref (m.length+many)),o5,@(yz st)] (MM many e a)=.ok (.ref (m.length+i)) (MM many e a):=by
    have:=MM.refs (many:=many) (m:=e) (f:=a);rw[F] at this;have:=bH (i:=i) (Bj this) (~~~u);erw[EWs,this];simp
   have l:br (Cn pg (n+1)) (.cmp .In @3 @6) [@(.ref p),@(.int many),some lt,@(.int i),@(.ref (m.length+many)),o5,@(yz st)] (MM many e a)=.ok (decide (i∈st)) (MM many e a):=by
    erw[aX,bu,nj,nk,nq,nu,ay,aE,qX,Bh]
   have hv:∃k g,k∈st/\(i∈st->k=i)/\PS p e g/\ao (Cn pg (n+1)) (.ife (.cmp .In @3 @6) @3 (.idx @6 (.call 12 %[@0,|.blt .len %[|@6]]))) [@(.ref p),@(.int many),some lt,@(.int i),@(.ref (m.length+many)),o5,@(yz st)] (MM many e a)=.ok (.int (k:Int)) (MM many g a):=by
    by_cases E:i∈st
    .refine⟨i,e,E,λ _=>rfl,(r.d9 B).refl,?_⟩;rw[QS E] at l;rw[bT,l];erw[ay,Qx,bu,nj,nk,nq,nu]
    .have N:0<st.length:=Rt.mpr H;let⟨d,M2,d1,d2,X,y2⟩:=draw (n:=n) (many:=(st.length:Int)) (MM.d9 (many:=many) (f:=a) (r.d9 B)) 'o' 'o';let⟨g,A,rfl⟩:=MM.ps (by rw[F];exact B.lt) d2;have R:d.toNat<st.length:=by omega
     refine⟨st[d.toNat],g,QI R,λ h=>absurd h E,A,?_⟩;rw[QH E] at l;have T:=bH (m:=MM many g a) (w:=yz st) (xs:=st.map λ t:Nat=>W.int (t:Int)) (i:=d.toNat) rfl (~~~R);rw[toNat_eq X] at T;have e4:aY .len [yz st] (MM many e a)=.ok (.int st.length) (MM many e a):=by rw[bz (xs:=st.map λ t:Nat=>W.int (t:Int)) rfl,Qq]
     rw[bT,l];erw[ay,QJ,QY,EWs,e4,d1,T];simp
   let⟨k,g,k1,Y,A,ev⟩:=hv;have x:g.length=m.length:=by rw[A.len,F]
   have K:=MM.row (many:=many) (m:=g) (f:=a) u;have U:=MM.row (many:=many) (m:=e) (f:=a) u;rw[x] at K;rw[F] at U;have S:=MM.set (many:=many) (m:=g) (f:=a) (v:=a i++[(k:Int)]) u;rw[x] at S;refine⟨.int i,[@(.ref p),@(.int many),some lt,@(.int i),@(.ref (m.length+many)),o5,@(yz st)],[@(.ref p),@(.int many),some lt,@(.int i),@(.ref (m.length+many)),o5,@(yz st)],MM many g (λ j=>if j=i then a i++[(k:Int)] else a j),by rw[aV u];simp,by simp[aD],.inl ?_,g,_,r.trans A,rfl,⟨_,rfl⟩,λ s hs=>?_,λ s hs=>?_⟩
   .have e5:kB "append"=.lst:=by decide
    have e6:((a i).map W.int).length<lim:=by rw[Qq,G i (Qf _)];have:=I i u;simp[lim];omega
    rw[wg,af (bM (w:=.non) (m1:=MM many g (λ j=>if j=i then a i++[(k:Int)] else a j)) ?_),ai];rw[bG,e1];erw[ay,kdOf,U,e5,Qx,au,ev,aG,bx,K,eU,gj,e6];rw[<-S,QK];rfl
   .rcases Tt s i with h | h
    .let⟨k',a1,a2,a3⟩:=J s h;exact⟨k',a1,by erw[Qu (show ¬s=i by omega)];exact a2,a3⟩
    .have:s=i:=by omega
     subst this;exact⟨k,k1,by erw[Qx,G s (Qf _)],Y⟩
   .erw[Qu (show ¬s=i by omega)];exact G s 'o')
  (fun Z m _=>aR 'o')
 exact⟨e,a,q,r,hf,J⟩
theorem rows{lt:Nat}(F:jG m p)(hm:Cm m)(h2:2<=many)(S:many<=4)(hlt:lt<=4) :
  ∃l f,PS p m l/\D.runN pg (n+1+1) 15 [.ref p,.int many,.int lt] m=.ok (.ref (m.length+many)) (MM many l f)/\(∀s,s<many->(f s).length=lt)/\
   ∀j s,j<lt->s<many->∃k,k<many/\(f s)[j]?=some (k:Int)/\(f k)[j]?=some (k:Int):=by
 have hI:dw (Cn pg (n+1)) (.rng @1) [@(.ref p),@(.int many),@(.int lt),none,none,none,none] m=.ok (.rng 0 many) m:=kL (by erw[EWs]) 'o';let⟨a,Z1,m1,hc,⟨o,ho⟩,h1,rfl⟩:=cz (get:=Src.get (.rng 0 many)) (t:=.var 3) (test:=fun Z m=>bD (Cn pg (n+1)) .nil Z m) (body:=fun Z m a=>gZ (Cn pg (n+1)) (.elt (.lst .nil)) Z m a) (n:=many)
  (λ i Z m1 a=>(∃o,Z=[@(.ref p),@(.int many),@(.int lt),o,none,none,none])/\m1=m++jF i (λ _=>[])/\a=iD m.length i) (λ i Z m1 a J=>by
   rintro⟨⟨o,rfl⟩,rfl,rfl⟩;refine⟨.int i,[@(.ref p),@(.int many),@(.int lt),@(.int i),none,none,none],by rw[aV J];simp,by simp[aD],.inl ⟨m++jF i (λ _=>[]),iD m.length (i+1),[@(.ref p),@(.int many),@(.int lt),@(.int i),none,none,none],m++jF (i+1) (λ _=>[]),by erw[cy],?_,⟨_,rfl⟩,rfl,rfl⟩⟩;have B:(iD m.length i).length<lim:=by simp[lim];omega
   erw[ic,EVs,Sl,new];rw[Qn (RB _)];erw[ay,B,Qx];have r1:iD m.length (i+1)=iD m.length i++[W.ref (m.length+i)]:=by unfold iD;rw[range_succ,QK];rfl
   have r2:jF (i+1) (λ _=>[])=jF i (λ _=>[])++[O.lst []]:=by unfold jF;rw[range_succ,QK];rfl
   rw[r1,r2,Rc];simp)
  (fun Z m a _=>aR 'o') many 0 [@(.ref p),@(.int many),@(.int lt),none,none,none,none] m [] 'o' ⟨⟨_,rfl⟩,by simp,rfl⟩
 have H:=dS (js:=[3]) (ifs:=.nil) hI hc;have H:ao (Cn pg (n+1)) (.comp (.gen @3 [3] (.rng @1) .nil (.elt (.lst .nil)))) [@(.ref p),@(.int many),@(.int lt),none,none,none,none] m=.ok (.ref (m.length+many)) (MM many m (λ _=>[])):=by
  rw[H];subst h1;simp[MM]
 let⟨X,M',hf,l,f,u,rfl,⟨o3,o5,o6,rfl⟩,q,N⟩:=fW (C:=Cn pg (n+1)) (t:=.var 5) (it:=.rng @2) (b:=AY) (Z:=[@(.ref p),@(.int many),@(.int lt),none,@(.ref (m.length+many)),none,none]) (m:=MM many m (λ _=>[])) (m1:=MM many m (λ _=>[])) (s:=.rng 0 lt) (n:=lt) (kL (by erw[EWs]) 'o') rfl
  (λ i Z M=>∃l f,PS p m l/\M=MM many l f/\(∃o3 o5 o6,Z=[@(.ref p),@(.int many),@(.int lt),o3,@(.ref (m.length+many)),o5,o6])/\(∀s,s<many->(f s).length=i)/\∀j s,j<i->s<many->∃k,k<many/\(f s)[j]?=some (k:Int)/\(f k)[j]?=some (k:Int))
  ⟨m,_,F.refl,rfl,⟨_,_,_,rfl⟩,λ _ _=>rfl,λ j s h=>by omega⟩ (λ i Z M J=>by
   rintro⟨l,f,u,rfl,⟨o3,o5,o6,rfl⟩,q,N⟩;have U:l.length=m.length:=u.len;let⟨Y,M1,E,a2,a5,a3,a4⟩:=Ih (n:=n) (o3:=o3) (o4:=@(.ref (m.length+many))) (o5:=@(.int i)) (o6:=o6) (lt:=.int lt) (MM.d9 (many:=many) (f:=f) (u.d9 F)) (MM.cm (u.cm hm)) h2 S;let⟨m2,G,rfl⟩:=MM.ps (by rw[U];exact F.lt) a3;have K:m2.length=m.length:=by rw[G.len,U]
   let⟨T,V,I,s3,x,A⟩:=column (n:=n) (f:=f) (o3:=o3) (o5:=@(.int i)) (lt:=.int lt) (G.d9 (u.d9 F)) S E a2 a5 (λ s g=>by rw[q s g];omega);rw[K] at x;refine⟨.int i,[@(.ref p),@(.int many),@(.int lt),o3,@(.ref (m.length+many)),@(.int i),o6],[@(.ref p),@(.int many),@(.int lt),I,@(.ref (m.length+many)),@(.int i),@(yz Y)],MM many T V,by rw[aV J];simp,by simp[aD],.inl ?_,T,V,(u.trans G).trans s3,rfl,⟨_,_,_,rfl⟩,λ s g=>?_,λ j s hj g=>?_⟩
   .rw[AY,a4,af x,ai]
   .let⟨k,_,e,_⟩:=A s g;rw[e,QU,q s g];rfl
   .rcases Tt j i with h | h
    .let⟨k,r,k2,k3⟩:=N j s h g;let⟨_,_,B,_⟩:=A s g;let⟨_,_,R,_⟩:=A k r;exact⟨k,r,by rw[B,Qh (by rw[q s g];exact h)];exact k2,by rw[R,Qh (by rw[q k r];exact h)];exact k3⟩
    .have:j=i:=by omega
     subst this;let⟨k,r,B,_⟩:=A s g;let⟨v,k1',R,e3⟩:=A k (E k r);have:=e3 r;subst this;exact⟨v,E v r,by rw[B,Qy (by rw[q s g];omega),q s g];simp,by rw[R,Qy (by rw[q v (E v r)];omega),q v (E v r)];simp⟩)
  (fun Z m _=>aR 'o')
 refine⟨l,f,u,?_,q,N⟩;refine cF (d:=⟨3,7,Ma⟩) rfl rfl ?_;show aF _ Ma [@(.ref p),@(.int many),@(.int lt),none,none,none,none] m=_;rw[Ma,af (Z1:=[@(.ref p),@(.int many),@(.int lt),none,@(.ref (m.length+many)),none,none]) (aH H rfl),af hf,aO (bR (w:=.ref (m.length+many)) (m1:=MM many l f) (by erw[EWs]))]
def DP(R:List (List Int)):Prop:=∀(i:Nat) (g:i<R.length) (x:Nat) (e:x<R[i].length),∃(k:Nat) (f:k<R.length) (a:x<R[k].length),R[i][x]=k/\R[k][x]=k
structure TabOk(ks ss ls:List Str)(R L:List (List Int)):Prop where
 wd:∀z∈ks++ss++ls,Wd z
 nd:(ks++ss++ls).Nodup
 k2:ks.length<=2
 s2:2<=ss.length
 s4:ss.length<=4
 l2:ls.length<=2
 rl:R.length=ss.length
 tl:L.length=ss.length
 re:∀ns∈R,ns.length=2^ks.length/\∀x∈ns,0<=x/\x<(ss.length:Int)
 te:∀ns∈L,ns.length=ls.length/\∀x∈ns,0<=x/\x<(2:Int)
 st:DP R
abbrev sR(r:List Int):W:=.fz (r.map .int)
def told(ks ss ls:List Str)(R L:List (List Int)):W:=.fz [dQ ks,dQ ss,dQ ls,.fz (R.map sR),.fz (L.map tupI)]
theorem E2(R:List (List Int)):aC (R.map sR)=true:=ko (λ r=>by simp[aQ,iy]) R
theorem j4{R:List (List Int)}:aQ (told ks ss ls R L)=true:=by simp[told,aQ,aC,bE,iX,E2]
abbrev TK(m:Mem)(ws:List Str):Mem:=m++[.lst (ws.map .str)]
section
variable{m m' M:Mem}{ws zR:List Str}{p:Nat}
theorem TK.d9(h:jG m p):jG (TK m ws) p:=h.app
theorem TK.cm(h:Cm m):Cm (TK m ws):=h.push (aJ _ (bE _))
theorem TK.q:(TK m ws)[m.length]?=some (.lst (ws.map .str)):=by simp
theorem TK.ps(a:p<m.length)(h:PS p (TK m ws) M):∃m',PS p m m'/\M=TK m' ws:=by
 let⟨A,B,rfl⟩:=h;exact⟨m.set p (D.d9 A B),⟨A,B,rfl⟩,by rw[Us _ _ a]⟩
theorem TK.pq(f:p<m.length)(h:PQ p m.length zR (TK m ws) M):∃m',PS p m m'/\M=TK m' zR:=by
 let⟨m1,e,rfl⟩:=h;let⟨m',a,rfl⟩:=TK.ps f e;exact⟨m',a,by rw[<-a.len];simp⟩
end
theorem i9{e:E}{lo:Nat}(g:jG m p)(x:Cm m)(hw:∀z∈ws,Wd z)(K:ws.Nodup)(Y:ws.length+lo+2<=20)(S:Z[0]?=@(some (.ref p)))(R:Z[1]?=@(some (.ref m.length)))
  (h:∀d m1,aU (D.runN pg (n+1+1+1) 12) [.ref p,.int 3] (TK m ws)=.ok (.int d) m1->ao (Cn pg (n+1+1+1)) e Z (TK m ws)=.ok (.int (lo+d)) m1) :
  ∃vs v,PS p m v/\ao (Cn pg (n+1+1+1)) (.frz (.call 14 %[@0,e,|@1])) Z (TK m ws)=.ok (dQ vs) (TK v (ws++vs))/\lo<=vs.length/\vs.length<=lo+2/\(∀z∈ws++vs,Wd z)/\(ws++vs).Nodup:=by
 let⟨d,M1,T,F,V,U⟩:=draw (n:=n+1+1) (many:=3) (TK.d9 (ws:=ws) g) 'd' 'd';let⟨m1,f,rfl⟩:=TK.ps g.lt F;have j:m1.length=m.length:=f.len;have N:(lo:Int)+d=((lo+d.toNat:Nat):Int):=by omega
 have J:(TK m1 ws)[m.length]?=some (.lst (ws.map .str)):=by rw[<-j];exact TK.q
 have r:p≠m.length:=by have:=g.lt;omega
 let⟨vs,M2,I,u,X,H,G⟩:=words (n:=n) (many:=lo+d.toNat) (TK.d9 (ws:=ws) (f.d9 g)) (TK.cm (f.cm x)) r J hw K 'o';rw[<-j] at u;let⟨l,k,rfl⟩:=TK.pq (by rw[j];exact g.lt) u;have t:l.length=m.length:=by rw[k.len,j]
 refine⟨vs,l,f.trans k,?_,by omega,by omega,H,G⟩;have a:aU (D.runN pg (n+1+1+1) 14) [.ref p,.int ((lo+d.toNat:Nat):Int),.ref m.length] (TK m1 ws)=.ok (dQ vs) (TK l (ws++vs)):=by rw[bf rfl];exact I
 refine Dz ?_ (by simp[t]) (TK.cm (k.cm (f.cm x))) (by simp[aQ,bE]);have h:=h d _ T;rw[N] at h;have B:ao (Cn pg (n+1+1+1)) @0 Z (TK m ws)=.ok (.ref p) (TK m ws):=by rw[bu,S]
 have A:ao (Cn pg (n+1+1+1)) @1 Z (TK m1 ws)=.ok (.ref m.length) (TK m1 ws):=by rw[bu,R]
 erw[bO,au,B,ay,h,A,aG,a]
theorem Bk{f:Nat->List Int}:kP (nh (MM many m f) m.length 8) (.ref (m.length+many))=some (.fz (((List.range many).map f).map sR)):=by
 have q:∀d s,s<many->nh (MM many m f) m.length (d+1) (m.length+s)=some (sR (f s)):=λ d s e=>by
  erw[nh,MM.row e];rw[Qu 'o',eO _ (iy _)];rfl
 have k:∀l:List Nat,(∀s∈l,s<many)->eX (nh (MM many m f) m.length 7) (l.map λ i=>W.ref (m.length+i))=some (l.map λ s=>sR (f s)):=λ l=>by
  induction l with
  |nil=>intro _;rfl
  |cons a r g=>
   intro h;erw[QF,eX,kP,q 6 a (h a QM),g λ s e=>h s (QC _ e)]
 have j:nh (MM many m f) m.length (7+1) (m.length+many)=(eX (nh (MM many m f) m.length 7) (iD m.length many)).map .fz:=by
  rw[nh,Qu 'o',MM.refs]
 show nh (MM many m f) m.length (7+1) (m.length+many)=_;rw[j,k _ λ s e=>Q7.mp e];simp[R7,Sg]
theorem DQ{js:List Nat}{it:E}(u:jG m p)(N:Cm m)(T:dw (Cn pg (n+1)) it Z m=.ok (.tup xs) m)(hl:xs.length<=100)(V:∀x,((fY js Z).set i (some x))[0]?=@(some (.ref p))) :
  ∃ns:List Int,∃h,PS p m h/\ns.length=xs.length/\(∀x∈ns,0<=x/\x<(2:Int))/\ao (Cn pg (n+1)) (.blt .tuple %[|.frz (.comp (.gen (.var i) js it .nil (.elt (.call 12 %[@0,|@(2)]))))]) Z m=.ok (tupI ns) h:=by
 let⟨ws,A,h,v,k,a,g⟩:=mS (C:=Cn pg (n+1)) (f:=0) (get:=Src.get (.tup xs)) (i:=i) (e:=.call 12 %[@0,|@(2)]) (Z:=fY js Z) (n:=xs.length) (P:=λ w=>∃d:Int,w=.int d/\0<=d/\d<2) u (λ m j R=>⟨_,aW R⟩) (λ m=>aN 'o') 'l'
  (λ x m1 U=>by
   let⟨d,H,X,G,F,B⟩:=draw (n:=n) (many:=2) (U.d9 u) 'd' 'd';refine⟨.int d,H,?_,G,d,rfl,F,B⟩;erw[bO,au,bu,V,ay,bB,aG,X])
 obtain⟨ns,rfl,t⟩:∃ns:List Int,ws=ns.map W.int/\∀x∈ns,0<=x/\x<(2:Int):=by
  clear v a
  induction ws with
  |nil=>exact⟨[],rfl,by simp⟩
  |cons w r J=>
   let⟨d,rfl,d1,Y⟩:=g w QM;let⟨l,rfl,I⟩:=J λ w K=>g w (QC _ K);refine⟨d::l,rfl,λ x q=>?_⟩;rcases Qv.mp q with rfl | q
   .exact⟨d1,Y⟩
   .exact I x q
 refine⟨ns,h,k,~~~a,t,?_⟩;have S:=bg (C:=Cn pg (n+1)) (m0:=h) (dS (js:=js) (ifs:=.nil) T (by simpa only[Src.len] using v)) k.len (k.cm N) (iy ns);rw[bZ,au,S];erw[ay,aG,aY,aP,getL]
theorem table(N:jG m p)(S:Cm m) :
  ∃ks ss ls R L m' ws,TabOk ks ss ls R L/\PS p m m'/\D.runN pg (n+1+1+1+1) 16 [.ref p] m=.ok (told ks ss ls R L) (TK m' ws):=by
 let⟨ks,m1,u,e1,_,F,kw,kn⟩:=i9 (n:=n) (m:=m) (ws:=[]) (Z:=[@(.ref p),@(.ref m.length),none,none,none,none,none,none]) (e:=.call 12 %[@0,|@(3)]) (lo:=0) N S 's' 's' 's' rfl rfl (λ d m1 h=>by erw[EWs,h];simp);rw[TV] at e1 kw kn;have OG:=u.len;let⟨ss,m2,E,e2,x2,x4,sw,sn⟩:=i9 (n:=n) (m:=m1) (ws:=ks) (Z:=[@(.ref p),@(.ref m.length),@(dQ ks),none,none,none,none,none]) (e:=.bin .Add @(2) (.call 12 %[@0,|@(3)])) (lo:=2) (u.d9 N) (u.cm S) kw kn 'o' rfl (by rw[OG];rfl) (λ d m1 h=>by erw[EWs,h,binop];rfl);have hB2:=E.len;let⟨ls,m3,T,e3,_,l2,lw,ln⟩:=i9 (n:=n) (m:=m2) (ws:=ks++ss) (Z:=[@(.ref p),@(.ref m.length),@(dQ ks),@(dQ ss),none,none,none,none]) (e:=.call 12 %[@0,|@(3)]) (lo:=0) (E.d9 (u.d9 N)) (E.cm (u.cm S)) sw sn (by simp;omega) rfl (by rw[hB2,OG];rfl) (λ d m1 h=>by erw[EWs,h];simp);have U:=T.d9 (E.d9 (u.d9 N));have c3:=T.cm (E.cm (u.cm S));have N1:2^ks.length<=4:=mW 'o';let⟨M4,f,t4,e4,I,f2⟩:=rows (n:=n+1) (many:=ss.length) (lt:=2^ks.length) (TK.d9 (ws:=ks++ss++ls) U) (TK.cm c3) x2 'o' N1;have PJ:=t4.len;let⟨q,J,rfl⟩:=TK.ps U.lt t4;have K:=J.d9 U;have c4:=J.cm c3;have e5:ao (Cn pg (n+1+1+1)) (.frz (.call 15 %[@0,.blt .len %[|@3],|.bin .LShift @(1) (.blt .len %[|@2])])) [@(.ref p),@(.ref m.length),@(dQ ks),@(dQ ss),@(dQ ls),none,none,none] (TK m3 (ks++ss++ls))=.ok (.fz (((List.range ss.length).map f).map sR)) (TK q (ks++ss++ls)):=by
  refine mL (m0:=TK q (ks++ss++ls)) (l:=jF ss.length f++[.lst (iD (TK q (ks++ss++ls)).length ss.length)]) (w:=.ref ((TK q (ks++ss++ls)).length+ss.length)) ?_ (by simp[J.len]) (TK.cm c4) (Bk (m:=TK q (ks++ss++ls)));have l1:∀M z,aY .len [dQ z] M=.ok (.int z.length) M:=λ M z=>by rw[bz (xs:=z.map .str) rfl,Qq]
  have g1:(0:Int)<=ks.length/\(ks.length:Int)<=1000000/\(1:Int).natAbs<2^64:=⟨by omega,by omega,by decide⟩;have g2:(1:Int)*2^((ks.length:Int)).toNat=((2^ks.length:Nat):Int):=by simp
  have B:aU (D.runN pg (n+1+1+1) 15) [.ref p,.int ss.length,.int ((2^ks.length:Nat):Int)] (TK m3 (ks++ss++ls))=.ok (.ref ((TK q (ks++ss++ls)).length+ss.length)) (MM ss.length (TK q (ks++ss++ls)) f):=by
   rw[bf rfl,e4,PJ]
  erw[EWs,l1,binop,g1,and_self,Qx,g2,B];rfl
 let⟨g,ρ',M5,hc,⟨o6,o7,ho⟩,v,L,h1,h2,h3,r,rfl⟩:=cz (get:=Src.get (.tup (ss.map .str))) (t:=.var 6) (test:=fun Z m=>bD (Cn pg (n+1+1+1)) .nil Z m) (body:=fun Z m g=>gZ (Cn pg (n+1+1+1)) (.elt (.blt .tuple %[|.frz (.comp (.gen @7 [7] @4 .nil (.elt (.call 12 %[@0,|@(2)]))))])) Z m g) (n:=ss.length)
  (λ i Z M g=>(∃o6 o7,Z=[@(.ref p),@(.ref m.length),@(dQ ks),@(dQ ss),@(dQ ls),@(.fz (((List.range ss.length).map f).map sR)),o6,o7])/\∃(v:Mem) (L:List (List Int)),g=L.map tupI/\L.length=i/\(∀ns∈L,ns.length=ls.length/\∀x∈ns,0<=x/\x<(2:Int))/\PS p q v/\M=TK v (ks++ss++ls)) (λ i Z M g A=>by
   rintro⟨⟨o6,o7,rfl⟩,v,L,rfl,h2,h3,r,rfl⟩;have hi':i<(ss.map W.str).length:=by simpa using A
   let⟨ns,M6,t6,n1,n2,n3⟩:=DQ (n:=n+1+1) (i:=7) (Z:=[@(.ref p),@(.ref m.length),@(dQ ks),@(dQ ss),@(dQ ls),@(.fz (((List.range ss.length).map f).map sR)),@(.str ss[i]),o7]) (xs:=ls.map .str) (js:=[7]) (it:=.var 4) (TK.d9 (ws:=ks++ss++ls) (r.d9 K)) (TK.cm (r.cm c4)) (by erw[jj,bu,nj,nk,nq,nu,ay];rfl) (by simp;omega) (λ x=>rfl);let⟨m6,s6,rfl⟩:=TK.ps (by rw[r.len];exact K.lt) t6;refine⟨.str ss[i],[@(.ref p),@(.ref m.length),@(dQ ks),@(dQ ss),@(dQ ls),@(.fz (((List.range ss.length).map f).map sR)),@(.str ss[i]),o7],by rw[aW hi'];simp,by simp[aD],.inl ⟨TK v (ks++ss++ls),(L++[ns]).map tupI,[@(.ref p),@(.ref m.length),@(dQ ks),@(dQ ss),@(dQ ls),@(.fz (((List.range ss.length).map f).map sR)),@(.str ss[i]),o7],TK m6 (ks++ss++ls),by erw[cy],?_,⟨_,_,rfl⟩,m6,L++[ns],rfl,by simp[h2],λ x a=>?_,r.trans s6,rfl⟩⟩
   .have:(L.map tupI).length<lim:=by simp[lim];omega
    erw[ic,n3,ay];rw[Qn this];simp
   .rcases Qz.mp a with a | a
    .exact h3 x a
    .rw[QV] at a;subst a;exact⟨~~~n1,n2⟩)
  (fun Z m g _=>aN 's') ss.length 0 [@(.ref p),@(.ref m.length),@(dQ ks),@(dQ ss),@(dQ ls),@(.fz (((List.range ss.length).map f).map sR)),none,none] (TK q (ks++ss++ls)) [] 'o' ⟨⟨_,_,rfl⟩,q,[],rfl,rfl,by simp,K.refl,rfl⟩
 subst h1;have p5:=r.d9 K;have c5:=r.cm c4;have PK:dw (Cn pg (n+1+1+1)) @3 [@(.ref p),@(.ref m.length),@(dQ ks),@(dQ ss),@(dQ ls),@(.fz (((List.range ss.length).map f).map sR)),none,none] (TK q (ks++ss++ls))=.ok (.tup (ss.map .str)) (TK q (ks++ss++ls)):=by erw[jj,bu,nj,nk,nq,nu,ay];rfl
 have e6:=bg (C:=Cn pg (n+1+1+1)) (m0:=TK v (ks++ss++ls)) (dS (js:=[6]) (ifs:=.nil) PK (by erw[Src.len,Qq];exact hc)) (by simp[r.len]) (TK.cm c5) (iX L);refine⟨ks,ss,ls,(List.range ss.length).map f,L,v,ks++ss++ls,⟨lw,ln,by omega,x2,by omega,by omega,by simp,h2,?_,h3,?_⟩,(((u.trans E).trans T).trans J).trans r,?_⟩
 .intro ns X;let⟨s,H,rfl⟩:=QB.mp X;have H:=Q7.mp H;refine⟨I s H,λ x a=>?_⟩;let⟨j,Y,rfl⟩:=Rj.mp a;let⟨k,V,F,_⟩:=f2 j s (by rw[I s H] at Y;exact Y) H;rw[Qt Y] at F;have:=QN F;omega
 .intro i A x a;have A:i<ss.length:=by simpa using A
  erw[Rk,getElem_range] at a ⊢;let⟨k,V,F,k3⟩:=f2 x i (by rw[I i A] at a;exact a) A;have G:x<(f k).length:=by rw[I k V,<-I i A];exact a
  rw[Qt a] at F;rw[Qt G] at k3;exact⟨k,~~~V,~~~G,QN F,QN k3⟩
 .refine cF (d:=⟨1,8,Mb⟩) rfl rfl ?_;show aF _ Mb [@(.ref p),none,none,none,none,none,none,none] m=_;rw[Mb,af (Z1:=[@(.ref p),@(.ref m.length),none,none,none,none,none,none]) (m1:=TK m []) (aH (w:=.ref m.length) (by erw[EVs,Sl,new];rw[Qn (RB _)];rfl) rfl)];rw[af (Z1:=[@(.ref p),@(.ref m.length),@(dQ ks),none,none,none,none,none]) (aH e1 rfl)];rw[af (Z1:=[@(.ref p),@(.ref m.length),@(dQ ks),@(dQ ss),none,none,none,none]) (aH e2 rfl)];rw[af (Z1:=[@(.ref p),@(.ref m.length),@(dQ ks),@(dQ ss),@(dQ ls),none,none,none]) (aH e3 rfl)];rw[af (Z1:=[@(.ref p),@(.ref m.length),@(dQ ks),@(dQ ss),@(dQ ls),@(.fz (((List.range ss.length).map f).map sR)),none,none]) (aH e5 rfl)];refine aO (bR (bg (m0:=TK v (ks++ss++ls)) ?_ (by simp[r.len]) (TK.cm c5) (by erw[aC,aQ,bE,iX,E2,Bool.and_self])));erw[cY,au,bu,nj,nk,nq,nu,ay,e6,aG,QO,Sl,new];rw[Qn 'd']
section
variable{ks ss ls:List Str}{R L:List (List Int)}
theorem Wd.yg(h:Wd z):My.yg z=true:=by
 have g:=h.lo;have f:=h.hi;have e:z.cps.toList.all sG=true:=Ri.mpr λ c a=>by
  have:=h.az c a;erw[sG,Qe,QE];exact this
 erw[My.yg,e,Bool.and_true,Qe,QE];exact⟨g,f⟩
theorem Bl(o:TabOk ks ss ls R L):cV ks ss ls R L=none:=by
 have w:iV (iA (ks++ss++ls)) (ks++ss++ls).length 0=none:=kY λ j _ a=>by
  have a:j<(ks++ss++ls).length:=by omega
  have e:(ks++ss++ls).getD j ""=(ks++ss++ls)[j]:=by rw[RN,Qt a];rfl
  have t:=(o.wd _ (QI a)).yg;have q:=uD o.nd a;unfold iA;rw[e,t];simpa using q
 have m:gr ks.length ss.length ls.length=none:=by
  have:=o.k2;have:=o.s2;have:=o.s4;have:=o.l2;unfold gr;rw[Qu 'o',Qu 'o',Qu 'o']
 have r:bI R ss.length (2^ks.length) ss.length=none:=oV o.rl o.re;have l:bI L ss.length ls.length 2=none:=oV o.tl o.te;have u:iV (mU R) R.length 0=none:=kY λ j _ a=>by
  have a:j<R.length:=by omega
  have e:R.getD j []=R[j]:=by rw[RN,Qt a];rfl
  unfold mU;rw[e,UH];intro x f;have f:=Q7.mp f;let⟨k,h,g,A,v⟩:=o.st j a x f;have F:R[j].getD x 0=R[j][x]:=by rw[RN,Qt f];rfl
  have E:R.getD k []=R[k]:=by rw[RN,Qt h];rfl
  have B:R[k].getD x 0=R[k][x]:=by rw[RN,Qt g];rfl
  rw[F,A,RC,E,B,v];simp
 unfold cV;rw[w];erw[];rw[m];erw[];rw[r];erw[];rw[l];erw[];rw[u];rfl
theorem DR:∃d,toD 60 m ((cV ks ss ls R L).getD .non)=some d:=by
 have a:∀(z:Str) (i:Nat),z.cps.all (· < 0x110000)=true->∃d,toD 60 m (gR z i)=some d:=λ z i e=>by
  refine⟨.tuple [.str z,.int i],?_⟩;rw[toD];erw[dJ,jy e];rfl
 unfold cV;split
 .exact a _ _ 'k'
 .split
  .exact a _ _ 'k'
  .split
   .exact a _ _ 'k'
   .split
    .exact a _ _ 'k'
    .cases iV (mU R) R.length 0 with
     |none=>exact⟨.none,rfl⟩
     |some i=>exact a _ _ 'k'
theorem Ii:Rows m (.fz (R.map sR)) (R.map sR) R:=⟨rfl,by simp,λ i h a=>by simp[aP,getL]⟩
theorem Ij:Rows m (.fz (L.map tupI)) (L.map tupI) L:=⟨rfl,by simp,λ i h a=>by simp[aP]⟩
theorem nc:Parts m (dQ ks) (dQ ss) (dQ ls) (.fz (R.map sR)) (.fz (L.map tupI)) ks ss ls (R.map sR) (L.map tupI) R L:=⟨rfl,rfl,rfl,Ii,Ij⟩
theorem TabOk.bd(o:TabOk ks ss ls R L):Bd ks ss ls R L:=by
 have f:=mW o.k2;have:=o.k2;have:=o.s4;have:=o.l2;exact⟨λ z e=>⟨(o.wd z e).asc,by have:=(o.wd z e).hi;rw[uI];omega⟩,by omega,by omega,by omega,by rw[o.rl];omega,λ r a=>by rw[(o.re r a).1];omega,by rw[o.tl];omega,λ r a=>by rw[(o.te r a).1];omega⟩
theorem qC(o:TabOk ks ss ls R L):aU (D.runN pg (n+1+1+1+1+1) 21) [told ks ss ls R L] M=.ok .non M:=by
 let⟨l0,e,_⟩:=outcome (n:=n) (M:=[]) (tw:=told ks ss ls R L) Cm.nil rfl nc o.bd;rw[Bl o] at e;exact dP (by erw[aC,j4];rfl) e rfl
theorem yp(G:Cm M)(o:TabOk ks ss ls R L) :
  ∃l0 tp,aU (D.runN pg (n+1) 17) [told ks ss ls R L] M=.ok (.ref tp) (M++l0)/\ee 8 10 M.length (M++l0) tp:=by
 have b:=o.bd;let⟨l0,tp,t,l,k,B,x,Q,e,s,u,_⟩:=copy (n:=n) (M:=[]) (w:=told ks ss ls R L) Cm.nil rfl nc (Qk b.r 'o');have A:=Sh.up s G;refine⟨([]++l0).map (xZ M.length),M.length+tp,oR (by erw[aC,j4];rfl) e rfl,λ i=>[M.length+t,M.length+l,M.length+k].getD i 0,M.length+B,M.length+x,λ i=>[ks,ss,ls].getD i [],Q.map λ q=>(M.length+q.1,q.2),L,A,?_,?_,?_,?_,?_,?_,?_⟩
 .have:=o.k2;have:=o.s4;have:=o.l2;intro i f
  match i,f with
  |0,_=>show ks.length<=8;omega
  |1,_=>show ss.length<=8;omega
  |2,_=>show ls.length<=8;omega
 .have g:∀z∈ks++ss++ls,Gd 10 z:=λ z a=>⟨(o.wd z a).asc,by have:=(o.wd z a).hi;rw[uI];omega⟩;intro i f
  match i,f with
  |0,_=>intro z (a:z∈ks);exact g z (by simp[a])
  |1,_=>intro z (a:z∈ss);exact g z (by simp[a])
  |2,_=>intro z (a:z∈ls);exact g z (by simp[a])
 .have H:Q.length=R.length:=by rw[<-u];simp
  have:=o.s4;rw[Qq,H,o.rl];omega
 .intro q j;let⟨h,v,rfl⟩:=QB.mp j;have F:h.2∈R:=by rw[<-u];exact Sq v
  have I:=mW o.k2;show h.2.length<=8;rw[(o.re _ F).1];omega
 .have:=o.s4;rw[o.tl];omega
 .intro r E;have:=o.l2;rw[(o.te r E).1];omega
 .refine⟨by omega,λ i f=>?_,by omega,by omega,λ q j=>?_⟩
  .match i,f with
   |0,_=>show M.length<=M.length+t;omega
   |1,_=>show M.length<=M.length+l;omega
   |2,_=>show M.length<=M.length+k;omega
  .let⟨h,v,rfl⟩:=QB.mp j;show M.length<=M.length+h.1;omega
end
theorem LC{g f e ra ta:Nat}(s:Sh M tp g f e ra ta ks ss ls Q L)(hw:∀z∈ks++ss++ls,z.cps.all (· < 0x110000)=true) :
  toD 60 M (.ref tp)=some (.list [.list (ks.map .str),.list (ss.map .str),.list (ls.map .str),.list ((gx Q).map λ r=>.list (r.map .int)),.list (L.map λ t=>.tuple (t.map .int))]):=by
 have B:toD 59 M (.ref g)=some (.list (ks.map .str)):=dU (k:=58) s.w0 (eS (n:=57) λ z a=>hw z (by simp[a]));have A:toD 59 M (.ref f)=some (.list (ss.map .str)):=dU (k:=58) s.w1 (eS (n:=57) λ z a=>hw z (by simp[a]));have x:toD 59 M (.ref e)=some (.list (ls.map .str)):=dU (k:=58) s.w2 (eS (n:=57) λ z a=>hw z (by simp[a]));have v:toD 59 M (.ref ra)=some (.list ((gx Q).map λ r=>.list (r.map .int))):=by
  have:=dU (k:=58) s.r (sO (k:=56) λ q h=>by
   let⟨i,j,rfl⟩:=Rj.mp h;exact s.q j)
  rw[this];simp[gx,Sg]
 have u:toD 59 M (.ref ta)=some (.list (L.map λ t=>.tuple (t.map .int))):=dU (k:=58) s.l (jz λ r _=>by
  rw[toD,gq];rfl)
 exact dU (k:=59) s.t (by erw[dJ,B,A,x,v,u])
theorem N2{k:Nat}(l:k<100):∃A B,D.runN pg (n+1) 11 [.fz (ns.map .int),.int k] []=.ok (.ref 0) [d9 A B]:=by
 have a:∃c:Int,ao (Cn pg n) (.ife (.cmp .Lt @1 (.blt .len %[|@0])) (.idx @0 @1) @(0)) [@(.fz (ns.map .int)),@(.int k),none] []=.ok (.int c) []:=by
  have f:aY .len [.fz (ns.map .int)] []=.ok (.int ns.length) []:=by rw[bz (xs:=ns.map .int) rfl,Qq]
  by_cases h:k<ns.length
  .refine⟨ns[k],?_⟩;have e:(k:Int)<ns.length:=by omega
   have j:=bH (m:=[]) (w:=.fz (ns.map .int)) (xs:=ns.map .int) (i:=k) rfl (~~~h);erw[EVs,eZ,fc,fh,fj,fm,fq,fu,fB,cD,cJ,fC,cM,cN,cP,eG,fD,fE,cQ,fF,cR,dH,fS,dI,aX,bK,eK,nj,nk,nq,nu,f,aE,e,UA,Qx,j,Rk]
  .refine⟨0,?_⟩;have e:¬(k:Int)<ns.length:=by omega
   erw[EVs,eZ,fc,fh,fj,fm,fq,fu,fB,cD,cJ,fC,cM,cN,cP,eG,fD,fE,cQ,fF,cR,dH,fS,dI,aX,bK,eK,nj,nk,nq,nu,f,aE,e,Uo,QJ,QY]
 let⟨c,a⟩:=a;have g:j8 31 k=true:=by simp[j8]
 refine⟨if (if c<0 then -c else c) - 10^18>0 then (if c<0 then -c else c) - 10^18 else 0,(if c<0 then -c else c)%2147483587+31*k+5,?_⟩;refine cF (d:=⟨2,3,L6⟩) rfl rfl ?_;show aF _ L6 [@(.fz (ns.map .int)),@(.int k),none] []=_;rw[L6,af (Z1:=[@(.fz (ns.map .int)),@(.int k),@(.int c)]) (aH a rfl),aO (bR (w:=.ref 0) (m1:=_) ?_)];simp[bu,bB,cH,gk,fk,jN,fV,bY,bT,dY,cY,bU,fy,bO,bZ,gO,bG,eE,dG,mQ,dM,mP,dN,aG,au,g9,ia,ay,aY,binop,g,new,lim]
abbrev Ik:Type:=Nat×Nat×Nat×Nat
def MD(m:Mem)(A B:Int)(sl:List Ik):Mem:=m++[d9 A B,.lst (sl.map kM)]
section
variable{m:Mem}{A B:Int}{sl:List Ik}
theorem MD.d9:jG (MD m A B sl) m.length:=⟨A,B,by simp[MD]⟩
theorem MD.N3:(MD m A B sl)[m.length+1]?=some (.lst (sl.map kM)):=by simp[MD]
theorem MD.ps(h:PS m.length (MD m A B sl) M):∃a B',M=MD m a B' sl:=by
 let⟨a,B',rfl⟩:=h;refine⟨a,B',?_⟩;unfold MD;rw[S8 _ _ (Qf _)];simp
theorem MD.set(a:List Ik):(MD m A B sl).set (m.length+1) (.lst (a.map kM))=MD m A B a:=by
 unfold MD;rw[S8 _ _ 'o'];simp
theorem Il(sl:List Ik):aC (sl.map kM)=true:=ko (λ r=>by simp[aQ,aC]) sl
theorem MD.cm(h:Cm m):Cm (MD m A B sl):=by
 have:MD m A B sl=(m++[D.d9 A B])++[.lst (sl.map kM)]:=by simp[MD]
 rw[this];exact(h.push (o:=D.d9 A B) rfl).push (o:=.lst (sl.map kM)) (aJ _ (Il sl))
theorem MD.len:(MD m A B sl).length=m.length+2:=by simp[MD]
theorem sS(k:0<many)(j:many<1000):∃(d:Nat) (a B':Int),aU (D.runN pg (n+1) 12) [.ref m.length,.int (many:Nat)] (MD m A B sl)=.ok (.int (d:Nat)) (MD m a B' sl)/\d<many:=by
 let⟨d,g,e,s,f,h⟩:=draw (n:=n) (m:=MD m A B sl) (p:=m.length) (many:=many) MD.d9 'o' 'o';let⟨a,B',rfl⟩:=MD.ps s;refine⟨d.toNat,a,B',?_,by omega⟩;rw[e,toNat_eq f]
abbrev LZ(ns:List Int)(k p:Nat)(o3 o4 o5 o6 o7 o8:Option W):D.Loc:=[@(.fz (ns.map .int)),@(.int (k:Nat)),@(.ref p),o3,o4,o5,o6,o7,o8]
theorem sU{k:Nat}:∃(x B':Int) (sl:List Ik) (E:Option W),aM (Cn pg (n+1)) (.for_ @4 (.rng (.bin .Add @(1) (.call 12 %[@2,|@(3)]))) wA) (LZ ns k m.length @(.ref (m.length+1)) o4 o5 o6 o7 o8) (MD m A B [])=.ok (.nx (LZ ns k m.length @(.ref (m.length+1)) E o5 o6 o7 o8)) (MD m x B' sl)/\sl.length<=3/\∀p∈sl,p.1<23:=by
 let⟨d,l,j,e,hd⟩:=sS (n:=n) (m:=m) (A:=A) (B:=B) (sl:=[]) (many:=3) 'd' 'd';have e':aU (D.runN pg (n+1) 12) [.ref m.length,.int 3] (MD m A B [])=.ok (.int (d:Nat)) (MD m l j []):=e;have hI:dw (Cn pg (n+1)) (.rng (.bin .Add @(1) (.call 12 %[@2,|@(3)]))) (LZ ns k m.length @(.ref (m.length+1)) o4 o5 o6 o7 o8) (MD m A B [])=.ok (.rng 0 (d+1)) (MD m l j []):=kL (by
  have:(1:Int)+d=((d+1:Nat):Int):=by omega
  erw[EWs,e',binop,this]) 'o'
 let⟨U,m',H,⟨E,rfl⟩,v,u,sl,rfl,K,F⟩:=fW (C:=Cn pg (n+1)) (t:=.var 4) (b:=wA) (n:=d+1) hI rfl (λ i Z M=>(∃o4,Z=LZ ns k m.length @(.ref (m.length+1)) o4 o5 o6 o7 o8)/\∃A B sl,M=MD m A B sl/\sl.length=i/\∀p∈sl,p.1<23) ⟨⟨_,rfl⟩,l,j,[],rfl,rfl,by simp⟩ (λ i Z M hi=>by
   rintro⟨⟨o4,rfl⟩,A,B,sl,rfl,K,F⟩
   let a:D.Loc:=LZ ns k m.length @(.ref (m.length+1)) @(.int (i:Nat)) o5 o6 o7 o8
   let⟨T,l,j,e1,H⟩:=sS (n:=n) (m:=m) (A:=A) (B:=B) (sl:=sl) (many:=23) 'd' 'd';let⟨S,v,u,e2,_⟩:=sS (n:=n) (m:=m) (A:=l) (B:=j) (sl:=sl) (many:=120) 'd' 'd';let⟨R,J,I,e3,_⟩:=sS (n:=n) (m:=m) (A:=v) (B:=u) (sl:=sl) (many:=120) 'd' 'd';let⟨N,g,f,e4,_⟩:=sS (n:=n) (m:=m) (A:=J) (B:=I) (sl:=sl) (many:=120) 'd' 'd'
   let p:Ik:=(T,S,R,N)
   have v2:∀M,ao (Cn pg (n+1)) @2 a M=.ok (.ref m.length) M:=λ M=>rfl;have v3:∀M,ao (Cn pg (n+1)) @3 a M=.ok (.ref (m.length+1)) M:=λ M=>rfl;have c:∀{many:Nat} {A B x B':Int} {d:Nat},aU (D.runN pg (n+1) 12) [.ref m.length,.int (many:Nat)] (MD m A B sl)=.ok (.int (d:Nat)) (MD m x B' sl)->ao (Cn pg (n+1)) (.call 12 %[@2,|.cst (.int (many:Nat))]) a (MD m A B sl)=.ok (.int (d:Nat)) (MD m x B' sl):=λ h=>by
    rw[bO,au,v2];erw[ay,au,aG,bB];exact h
   have kA:kB "append"=.lst:=by decide
   have G:bx (.ref (m.length+1)) "append" [kM p] (MD m g f sl)=.ok .non (MD m g f (sl++[p])):=by
    have h0:gj (m.length+1) (sl.map kM) [kM p] (MD m g f sl)=.ok .non (MD m g f (sl++[p])):=by
     erw[gj,Qq];rw[Qn 'l',<-MD.set (sl:=sl) (sl++[p]),QK];rfl
    erw[bx,MD.N3,eU];rw[Qn trivial];exact h0
   have hx:ao (Cn pg (n+1)) (.meth @3 "append" %[|.tup %[.call 12 %[@2,|@(23)],.call 12 %[@2,|@(120)],.call 12 %[@2,|@(120)],|.call 12 %[@2,|@(120)]]]) a (MD m A B sl)=.ok .non (MD m g f (sl++[p])):=by
    have z1:ao (Cn pg (n+1)) (.call 12 %[@2,|@(23)]) a (MD m A B sl)=.ok (.int (T:Nat)) (MD m l j sl):=c e1;have z2:ao (Cn pg (n+1)) (.call 12 %[@2,|@(120)]) a (MD m l j sl)=.ok (.int (S:Nat)) (MD m v u sl):=c e2;have Y:ao (Cn pg (n+1)) (.call 12 %[@2,|@(120)]) a (MD m v u sl)=.ok (.int (R:Nat)) (MD m J I sl):=c e3;have X:ao (Cn pg (n+1)) (.call 12 %[@2,|@(120)]) a (MD m J I sl)=.ok (.int (N:Nat)) (MD m g f sl):=c e4;have V:ao (Cn pg (n+1)) (.tup %[.call 12 %[@2,|@(23)],.call 12 %[@2,|@(120)],.call 12 %[@2,|@(120)],|.call 12 %[@2,|@(120)]]) a (MD m A B sl)=.ok (kM p) (MD m g f sl):=by
     rw[dY,au,z1];erw[ay];rw[au,z2];erw[ay];rw[au,Y];erw[ay];rw[au,X];erw[ay,aG];rfl
    rw[bG,v3];erw[ay,kA,iC MD.N3,Qx];rw[au,V];erw[ay,aG];exact G
   refine⟨.int i,a,a,MD m g f (sl++[p]),by rw[aV hi];simp,by simp[LZ,a,aD],.inl (by rw[wA,af (bM hx),ai]),⟨_,rfl⟩,g,f,sl++[p],rfl,by simp[K],λ q r=>?_⟩;rcases Qz.mp r with r | r
   .exact F q r
   .rw[QV] at r;subst r;exact H)
  (fun Z m _=>aR 'o')
 exact⟨v,u,sl,E,H,by omega,F⟩
end
theorem St.bd{ra ta:Nat}{a:Nat->Nat}{f:Nat->List Str}(t:St 71 270 b M tp a ra ta f Q L):Bd (f 0) (f 1) (f 2) (gx Q) L:=by
 have l0:=t.lw 0 'd';have l1:=t.lw 1 'd';have l2:=t.lw 2 'd';have g:∀z∈f 0++f 1++f 2,Bx z:=λ z e=>by
  have:Gd 270 z:=by
   rcases Qz.mp e with e | e
   .rcases Qz.mp e with e | e
    .exact t.gw 0 'd' z e
    .exact t.gw 1 'd' z e
   .exact t.gw 2 'd' z e
  exact⟨this.a,Qk this.l 'o'⟩
 refine⟨g,by omega,by omega,by omega,?_,λ r h=>?_,Qk t.lL 'o',λ r h=>Qk (t.lt r h) 'o'⟩
 .rw[Qq];exact Qk t.lq 'o'
 .let⟨q,j,rfl⟩:=QB.mp h;exact Qk (t.lr q j) 'o'
structure qD(M:Mem)(tp hp:Nat):Prop where
 e:∃a ra ta b f Q L k0 k1 k2 r2 t2 Q2,St 71 270 b M tp a ra ta f Q L/\Sh M hp k0 k1 k2 r2 t2 (f 0) (f 1) (f 2) Q2 L/\gx Q2=gx Q
theorem qD.app{g:Nat}(h:qD M tp g)(j:Cm (M++l0)):qD (M++l0) tp g:=by
 let⟨a,q,k,b,f,Q,L,x,v,u,r,l,A,t,s,e⟩:=h.e;exact⟨a,q,k,b,f,Q,L,x,v,u,r,l,A,t.app j,s.app j,e⟩
theorem qD.cm{g:Nat}(h:qD M tp g):Cm M:=by
 let⟨a,l,j,b,f,Q,L,v,u,r,q,k,x,t,s,e⟩:=h.e;exact s.cm
section
variable{M:Mem}{tp hp:Nat}{Z:D.Loc}
theorem Bm(h:qD M tp hp)(u:Z[6]?=@(some (.ref tp)))(r:Z[8]?=@(some (.ref hp))) :
  ∃l0,br (Cn pg (n+1+1+1+1+1)) (.cmp .NotEq (.call 21 %[|@8]) (.call 20 %[|@6])) Z M=.ok false (M++l0)/\qD (M++l0) tp hp:=by
 let⟨a,F,B,b,f,Q,L,J,I,H,G,E,K,t,s,e⟩:=h.e;have l:=t.bd;have j:=s.told.p;rw[e] at j;let⟨l0,A,g⟩:=outcome (n:=n) (tw:=.ref hp) s.cm (by erw[aP,getL,s.t]) j l;have v:=h.app g;have q:=t.app (l0:=l0) g;have x:=yj (n:=n+1+1+1) g (Sh.told q.s) l;let⟨d,k⟩:=DR (ks:=f 0) (ss:=f 1) (ls:=f 2) (R:=gx Q) (L:=L) (m:=M++l0);refine⟨l0,?_,v⟩;rw[aX,bO,au];erw[bu,r,ay,aG];rw[bf rfl,A];erw[ay];rw[bO,au];erw[bu,u,ay,aG,x];erw[aE,wc k k,ay,T3]
theorem alike(h:qD M tp hp)(q:Z[6]?=@(some (.ref tp)))(l:Z[8]?=@(some (.ref hp))):br (Cn pg n) (.cmp .NotEq @8 @6) Z M=.ok false M:=by
 let⟨a,x,u,b,f,Q,L,F,E,B,A,v,G,t,s,e⟩:=h.e;have g:∀z∈f 0++f 1++f 2,z.cps.all (· < 0x110000)=true:=λ z k=>(t.bd.wd z k).small;have r:=LC t.s g;have j:=LC s g;rw[e] at j;erw[aX,bu,q,l,ay,aE,wc j r,T3]
theorem handed(h:ee 71 270 b M tp):∃l0 hp,aU (D.runN pg (n+1) 17) [.ref tp] M=.ok (.ref hp) (M++l0)/\qD (M++l0) tp hp:=by
 let⟨a,k,g,f,Q,L,t⟩:=h;have v:(gx Q).length<=1000:=by rw[Qq];exact Qk t.lq 'o'
 let⟨l0,hp,u,r,q,l,j,A,e,s,x,_⟩:=copy (n:=n) (w:=.ref tp) (Sh.cm t.s) (by erw[aP,getL,Sh.t t.s]) (Sh.told t.s).p v;exact⟨l0,hp,by rw[bf rfl,e],⟨a,k,g,b,f,Q,L,u,r,q,l,j,A,t.app s.cm,s,x⟩⟩
theorem DS{k a:Nat}{sl:List Ik}(h:ee 8 10 b M tp)(F:M[a]?=@(.lst (sl.map kM)))(H:a<b)(T:sl.length<=3)(S:∀q∈sl,q.1<23) :
  ∃f g,aM (Cn pg (n+1+1)) (.for_ @7 @3 wB) (LZ ns k p @(.ref a) o4 o5 @(.ref tp) o7 o8) M=.ok (.nx (LZ ns k p @(.ref a) o4 o5 @(.ref tp) g o8)) f/\ee 71 270 b f tp:=by
 have I:getL M (.ref a)=some (sl.map kM):=aL F;let⟨x,A,_,K⟩:=mO (aK I);have DL:x=.lst a:=by
  erw[kC,nE,srcOf,I] at A;cases A;rfl
 subst DL;have U:dw (Cn pg (n+1+1)) @3 (LZ ns k p @(.ref a) o4 o5 @(.ref tp) o7 o8) M=.ok (.lst a) M:=by
  rw[jj];exact A
 have l:∀i,i<=3->∀{f:Mem},ee (9*2^i - 1) (10*3^i) b f tp->ee 71 270 b f tp:=λ i r f h=>h.mono (by
  match i,r with
  |0,_=>decide
  |1,_=>decide
  |2,_=>decide
  |3,_=>decide) (by
  match i,r with
  |0,_=>decide
  |1,_=>decide
  |2,_=>decide
  |3,_=>decide)
 let⟨J,N,V,⟨g,rfl⟩,E,_⟩:=fW (C:=Cn pg (n+1+1)) (t:=.var 7) (b:=wB) (n:=sl.length) U (by rw[K,Qq]) (λ i Z m=>(∃o7,Z=LZ ns k p @(.ref a) o4 o5 @(.ref tp) o7 o8)/\ee (9*2^i - 1) (10*3^i) b m tp/\Kp b M m)
  ⟨⟨_,rfl⟩,h,Kp.refl⟩ (λ i Z m r=>by
   rintro⟨⟨o7,rfl⟩,E,G⟩;have j:m[a]?=some (.lst (sl.map kM)):=by rw[G a H];exact F
   obtain⟨g1,g2,g3,g4,Y,X⟩:8<=9*2^i - 1/\9*2^i - 1<=100/\10<=10*3^i/\10*3^i<=1000/\2*(9*2^i - 1)+1=9*2^(i+1) - 1/\3*(10*3^i)=10*3^(i+1):=by
    match i,(show i<3 by omega) with
    |0,_=>decide
    |1,_=>decide
    |2,_=>decide
   let⟨f,e,v,B⟩:=NV (n:=n) (p:=sl[i]) E g1 g2 g3 g4 (S _ (QI r));rw[Y,X] at v;have u:Src.get (.lst a) m i=.it (kM sl[i]):=by
    rw[qj j,aW (~~~r)];simp
   refine⟨kM sl[i],LZ ns k p @(.ref a) o4 o5 @(.ref tp) @(kM sl[i]) o8,LZ ns k p @(.ref a) o4 o5 @(.ref tp) @(kM sl[i]) o8,f,u,by simp[LZ,aD],.inl ?_,⟨_,rfl⟩,v,G.trans B⟩;have R:ao (Cn pg (n+1+1)) (.call 26 %[@6,|@7]) (LZ ns k p @(.ref a) o4 o5 @(.ref tp) @(kM sl[i]) o8) m=.ok .non f:=by
    erw[EWs];exact e
   rw[wB,af (bM R),ai])
  (fun Z m h=>by
   have j:m[a]?=some (.lst (sl.map kM)):=by rw[h.2.2 a H];exact F
   rw[qj j];exact aN 's')
 exact⟨N,g,V,l _ T E⟩
end
theorem E3{C:D.Cx}{x y:E}{m2:Mem}(h:br C x Z m=.ok false m1)(a:br C y Z m1=.ok false m2):br C (.or x y) Z m=.ok false m2:=by rw[fS,h];exact a
theorem turn{k:Nat}{o2:Option W}(hk:k<100)(Y:Cm m) :
  ∃I H f By G a F X,aF (Cn pg (n+1+1+1+1+1)) wC [@(.fz (ns.map .int)),@(.int (k:Nat)),o2,o3,o4,o5,o6,o7,o8] m=.ok (.nx [@(.fz (ns.map .int)),@(.int (k:Nat)),I,H,f,By,G,a,F]) X/\Cm X:=by
 let⟨A,B,u⟩:=N2 (n:=n+1+1+1+1) (ns:=ns) hk;have PL:aU (D.runN pg (n+1+1+1+1+1) 11) [.fz (ns.map .int),.int k] m=.ok (.ref m.length) (m++[d9 A B]):=by
  rw[oR (by simp[aC,aQ,iy]) u rfl];rfl
 have a1:aM (Cn pg (n+1+1+1+1+1)) (.asg (.pt @2) (.call 11 %[@0,|@1])) [@(.fz (ns.map .int)),@(.int (k:Nat)),o2,o3,o4,o5,o6,o7,o8] m=.ok (.nx (LZ ns k m.length o3 o4 o5 o6 o7 o8)) (m++[d9 A B]):=aH (w:=.ref m.length) (by erw[EWs,PL]) rfl;have a2:aM (Cn pg (n+1+1+1+1+1)) (.asg (.pt @3) (.lst .nil)) (LZ ns k m.length o3 o4 o5 o6 o7 o8) (m++[d9 A B])=.ok (.nx (LZ ns k m.length @(.ref (m.length+1)) o4 o5 o6 o7 o8)) (MD m A B []):=aH (w:=.ref (m.length+1)) (by
  rw[cY,aG];have e1:(m++[d9 A B]).length=m.length+1:=by simp
  have e2:(m++[d9 A B])++[O.lst []]=MD m A B []:=by simp[MD]
  show R.ok (W.ref (m++[d9 A B]).length) ((m++[d9 A B])++[O.lst []])=_;rw[e1,e2]) rfl
 let⟨U,T,sl,f,a3,hl,hs⟩:=sU (n:=n+1+1+1+1) (k:=k) (ns:=ns) (m:=m) (A:=A) (B:=B) (o4:=o4) (o5:=o5) (o6:=o6) (o7:=o7) (o8:=o8);let⟨ks,ss,ls,R,L,m3,ws,V,s3,e4⟩:=table (n:=n+1) (MD.d9 (m:=m) (A:=U) (B:=T) (sl:=sl)) (MD.cm Y);let⟨r,q,rfl⟩:=MD.ps s3;have Mj:Cm (MD m r q sl):=MD.cm Y
 let N:D.Loc:=LZ ns k m.length @(.ref (m.length+1)) f @(told ks ss ls R L) o6 o7 o8
 have a4:aM (Cn pg (n+1+1+1+1+1)) (.asg (.pt @5) (.frz (.call 16 %[|@2]))) (LZ ns k m.length @(.ref (m.length+1)) f o5 o6 o7 o8) (MD m U T sl)=.ok (.nx N) (MD m r q sl):=by
  refine aH (w:=told ks ss ls R L) ?_ rfl;refine mL (m0:=MD m r q sl) (l:=[.lst (ws.map .str)]) (w:=told ks ss ls R L) ?_ (by rw[MD.len,MD.len]) Mj (mJ _ j4);have:aU (D.runN pg (n+1+1+1+1+1) 16) [.ref m.length] (MD m U T sl)=.ok (told ks ss ls R L) (MD m r q sl++[.lst (ws.map .str)]):=by
   rw[bf rfl];exact e4
  erw[EWs,this]
 let⟨l5,tp,e5,hS⟩:=yp (n:=n+1+1+1+1) Mj V
 let S:=MD m r q sl++l5
 let Z6:D.Loc:=LZ ns k m.length @(.ref (m.length+1)) f @(told ks ss ls R L) @(.ref tp) o7 o8
 have a5:aM (Cn pg (n+1+1+1+1+1)) (.asg (.pt @6) (.call 17 %[|@5])) N (MD m r q sl)=.ok (.nx Z6) S:=aH (w:=.ref tp) (by erw[N,EWs,e5,S]) rfl;have h3:S[m.length+1]?=some (.lst (sl.map kM)):=by
  rw[Qh (by rw[MD.len];omega)];exact MD.N3
 let⟨e,a,a6,K⟩:=DS (n:=n+1+1+1) (k:=k) (ns:=ns) (p:=m.length) (o4:=f) (o5:=@(told ks ss ls R L)) (o7:=o7) (o8:=o8) hS h3 (by rw[MD.len];omega) hl hs;let⟨g,J,e7,hB⟩:=handed (n:=n+1+1+1+1) K
 let j:D.Loc:=LZ ns k m.length @(.ref (m.length+1)) f @(told ks ss ls R L) @(.ref tp) a @(.ref J)
 have a7:aM (Cn pg (n+1+1+1+1+1)) (.asg (.pt @8) (.call 17 %[|@6])) (LZ ns k m.length @(.ref (m.length+1)) f @(told ks ss ls R L) @(.ref tp) a o8) e=.ok (.nx j) (e++g):=aH (w:=.ref J) (by erw[EWs,e7]) rfl;let⟨h,t8,v⟩:=Bm (n:=n) (Z:=j) hB rfl rfl;have t9:=alike (n:=n+1+1+1+1+1) (Z:=j) v rfl rfl;have PM:=qC (n:=n) (M:=e++g++h) V;have PN:br (Cn pg (n+1+1+1+1+1)) (.cmp .IsNot (.call 21 %[|@5]) (.cst .non)) j (e++g++h)=.ok false (e++g++h):=by
  rw[aX,bO,au];have v5:ao (Cn pg (n+1+1+1+1+1)) @5 j (e++g++h)=.ok (told ks ss ls R L) (e++g++h):=rfl;rw[v5];erw[ay,aG,PM,bB];rfl
 let⟨t,E,x⟩:=Bm (n:=n) (Z:=j) v rfl rfl;refine⟨some (.ref m.length),@(.ref (m.length+1)),f,@(told ks ss ls R L),@(.ref tp),a,@(.ref J),e++g++h++t,?_,x.cm⟩;rw[wC,af a1,af a2,af a3,af a4,af a5,af a6,af a7,af (Z1:=j) (m1:=e++g++h) (by rw[bN (E3 t8 t9),ai]),af (Z1:=j) (m1:=e++g++h++t) (by rw[bN (E3 PN E),ai]),ai]
theorem DT:∃f,D.runN pg (n+1+1+1+1+1+1) 27 [.fz (ns.map .int)] []=.ok (.bl true) f:=by
 obtain⟨e,j,J⟩:∃e:Nat,(if (if (3:Int)<ns.length then (3:Int) else ns.length)>1 then (if (3:Int)<ns.length then (3:Int) else ns.length) else 1)=(e:Int)/\e<=3:=by
  refine⟨(if (if (3:Int)<ns.length then (3:Int) else ns.length)>1 then (if (3:Int)<ns.length then (3:Int) else ns.length) else 1).toNat,?_,?_⟩<;>(split<;>(try split)<;>omega)
 have H:dw (Cn pg (n+1+1+1+1+1)) (.rng (.blt .max %[@(1),|.blt .min %[.blt .len %[|@0],|@(3)]])) [@(.fz (ns.map .int)),none,none,none,none,none,none,none,none] []=.ok (.rng 0 e) []:=by
  refine kL ?_ 'o';have l1:aY .len [.fz (ns.map .int)] []=.ok (.int ns.length) []:=by rw[bz (xs:=ns.map .int) rfl,Qq]
  have mn:∀a b M,aY .min [.int a,.int b] M=.ok (.int (if b<a then b else a)) M:=λ _ _ _=>rfl;have B:∀a b M,aY .max [.int a,.int b] M=.ok (.int (if b>a then b else a)) M:=λ _ _ _=>rfl;erw[EWs,l1,mn,B,j]
 let⟨q,f,G,_,g,o2,o3,o4,o5,o6,o7,o8,rfl⟩:=fW (t:=.var 1) (b:=wC) (n:=e) H rfl
  (λ i Z m=>Cm m/\∃g o2 o3 o4 o5 o6 o7 o8,Z=[@(.fz (ns.map .int)),g,o2,o3,o4,o5,o6,o7,o8]) ⟨Cm.nil,_,_,_,_,_,_,_,_,rfl⟩ (λ i Z m F=>by
   rintro⟨E,g,o2,o3,o4,o5,o6,o7,o8,rfl⟩;let⟨A,x,I,K,v,u,r,f,h,l⟩:=turn (n:=n) (k:=i) (ns:=ns) (m:=m) (o2:=o2) (o3:=o3) (o4:=o4) (o5:=o5) (o6:=o6) (o7:=o7) (o8:=o8) 'o' E;exact⟨.int i,[@(.fz (ns.map .int)),@(.int i),o2,o3,o4,o5,o6,o7,o8],_,f,by rw[aV F];simp,by simp[aD],.inl h,l,_,_,_,_,_,_,_,_,rfl⟩)
  (fun Z m _=>aR 'o')
 refine⟨f,cF (d:=⟨1,9,Mi⟩) rfl rfl ?_⟩;show aF _ Mi [@(.fz (ns.map .int)),none,none,none,none,none,none,none,none] []=_;rw[Mi,af G,aO (bR (w:=.bl true) (m1:=f) (by erw[EVs]))]
theorem yq:∀ns:List Int,ns.length<=63->∃a,D.runN pg 40 27 [.fz (ns.map .int)] []=.ok (.bl true) a:=λ ns _=>DT (n:=34)
end My
end
section
open PySem PySem.W PyProof.Rows My List
theorem PySem.Challenge.cw_relayholds_k52_tables_refused_holds : PySem.Challenge.rw_relayholds_k52_tables_refused.Holds := by
 refine PySem.W.holds_law My.OP λ said=>?_
 refine PySem.W.holds_open (q:=My.qv) (loose:=[]) (Xt:=λ s=>PySem.W.xlAt My.qv [] s&&PySem.W.recOk (PySem.W.RowW.records (PySem.W.OpenRow.toRowW (PySem.W.OpenLaw.row PySem.Challenge.rw_relayholds_k52_tables_refused))) s) (XP:=PySem.W.XL My.qv []) (Yf:=(PySem.W.kHook kk ka (λ _=>by kernel_rfl)).obs) (Ya:=(PySem.W.kHook kk ka (λ _=>by kernel_rfl)).val) (YP:=(PySem.W.kHook kk ka (λ _=>by kernel_rfl)).says) (N:=7840) My.hdl (PySem.W.kHook kk ka (λ _=>by kernel_rfl)).of (PySem.W.kHook kk ka (λ _=>by kernel_rfl)).keeps (λ s e=>PySem.W.xl_of s (Bool.and_eq_true_iff.mp e).1) PySem.W.XL.keeps (by rfl) (by rfl) (by rfl) (λ s e=>PySem.W.recFacts_of (Bool.and_eq_true_iff.mp e).2) (by rfl) (by first | assumption | decide +kernel) (by decide +kernel) ⟨rfl,rfl,rfl,rfl,rfl,by decide +kernel⟩ ?hw ?hc
 (case hw=>w_witness2)
 k_fill
 refine D.AL (l:=PySem.Challenge.rw_relayholds_k52_tables_refused) (p:=My.pg) (i:=27) (x:="_law_script") rfl rfl (λ w h Y=>PySem.W.kIn_of Y) ?F My.yq
 case F=>
  intro w mg fa h KX G hmg
  exact D.Lu (t:=My.tf 46) KX G hmg My.stat rfl rfl (by kernel_rfl) (by kernel_rfl) (by kernel_rfl) (by kernel_rfl)
end
end
