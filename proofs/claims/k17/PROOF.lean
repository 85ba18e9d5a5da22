import PyProof.Rows.All
import KE.KDictOf
import KE.KIsAll
import KE.KSortTup
import KE.KIntText
import KE.KFromBytes
import PyProof.StationsW
import PyProof.RulesAs
import PyProof.NsDelKeeps
import PyProof.IsiBase
import PyProof.InstStoreFacts
import PyProof.ExcClass3
import PyProof.ExcBaseAll.ValueError
import PyProof.ExcArgsOwn
import PySem.Challenge.RW_relayholds_k17_refusals
set_option genSizeOfSpec false
set_option genSizeOf false
set_option Elab.async false
set_option linter.all false
set_option maxRecDepth 1000000
set_option maxHeartbeats 4000000
set_option hygiene false
inductive EX1_2(A B:α->Prop):Prop
|mk(x:α)(_:A x)(_:B x)
inductive EX1_3(A B C:α->Prop):Prop
|mk(x:α)(_:A x)(_:B x)(_:C x)
inductive EX1_5(A B C D E:α->Prop):Prop
|mk(x:α)(_:A x)(_:B x)(_:C x)(_:D x)(_:E x)
inductive EX1_6(A B C D E F:α->Prop):Prop
|mk(x:α)(_:A x)(_:B x)(_:C x)(_:D x)(_:E x)(_:F x)
inductive EX2_1(A:α->β->Prop):Prop
|mk(x:α)(y:β)(_:A x y)
inductive EX2_2(A B:α->β->Prop):Prop
|mk(x:α)(y:β)(_:A x y)(_:B x y)
inductive EX2_3(A B C:α->β->Prop):Prop
|mk(x:α)(y:β)(_:A x y)(_:B x y)(_:C x y)
inductive EX2_4(A B C D:α->β->Prop):Prop
|mk(x:α)(y:β)(_:A x y)(_:B x y)(_:C x y)(_:D x y)
inductive EX2_5(A B C D E:α->β->Prop):Prop
|mk(x:α)(y:β)(_:A x y)(_:B x y)(_:C x y)(_:D x y)(_:E x y)
inductive EX2_6(A B C D E F:α->β->Prop):Prop
|mk(x:α)(y:β)(_:A x y)(_:B x y)(_:C x y)(_:D x y)(_:E x y)(_:F x y)
inductive EX3_1(A:α->β->γ->Prop):Prop
|mk(x:α)(y:β)(z:γ)(_:A x y z)
inductive EX3_2(A B:α->β->γ->Prop):Prop
|mk(x:α)(y:β)(z:γ)(_:A x y z)(_:B x y z)
inductive EX3_3(A B C:α->β->γ->Prop):Prop
|mk(x:α)(y:β)(z:γ)(_:A x y z)(_:B x y z)(_:C x y z)
inductive EX3_4(A B C D:α->β->γ->Prop):Prop
|mk(x:α)(y:β)(z:γ)(_:A x y z)(_:B x y z)(_:C x y z)(_:D x y z)
inductive EX3_5(A B C D E:α->β->γ->Prop):Prop
|mk(x:α)(y:β)(z:γ)(_:A x y z)(_:B x y z)(_:C x y z)(_:D x y z)(_:E x y z)
inductive EX3_6(A B C D E F:α->β->γ->Prop):Prop
|mk(x:α)(y:β)(z:γ)(_:A x y z)(_:B x y z)(_:C x y z)(_:D x y z)(_:E x y z)(_:F x y z)
inductive EX4_4(A B C D:α->β->γ->δ->Prop):Prop
|mk(x:α)(y:β)(z:γ)(u:δ)(_:A x y z u)(_:B x y z u)(_:C x y z u)(_:D x y z u)
inductive EX4_5(A B C D E:α->β->γ->δ->Prop):Prop
|mk(x:α)(y:β)(z:γ)(u:δ)(_:A x y z u)(_:B x y z u)(_:C x y z u)(_:D x y z u)(_:E x y z u)
inductive EX4_6(A B C D E F:α->β->γ->δ->Prop):Prop
|mk(x:α)(y:β)(z:γ)(u:δ)(_:A x y z u)(_:B x y z u)(_:C x y z u)(_:D x y z u)(_:E x y z u)(_:F x y z u)
inductive EX4_7(A B C D E F G:α->β->γ->δ->Prop):Prop
|mk(x:α)(y:β)(z:γ)(u:δ)(_:A x y z u)(_:B x y z u)(_:C x y z u)(_:D x y z u)(_:E x y z u)(_:F x y z u)(_:G x y z u)
inductive EX5_4(A B C D:α->β->γ->δ->ε->Prop):Prop
|mk(x:α)(y:β)(z:γ)(u:δ)(v:ε)(_:A x y z u v)(_:B x y z u v)(_:C x y z u v)(_:D x y z u v)
inductive EX5_6(A B C D E F:α->β->γ->δ->ε->Prop):Prop
|mk(x:α)(y:β)(z:γ)(u:δ)(v:ε)(_:A x y z u v)(_:B x y z u v)(_:C x y z u v)(_:D x y z u v)(_:E x y z u v)(_:F x y z u v)
inductive EX9_3(A B C:α->β->γ->δ->ε->ζ->η->θ->ι->Prop):Prop
|mk(x:α)(y:β)(z:γ)(u:δ)(v:ε)(w:ζ)(a:η)(b:θ)(c:ι)(_:A x y z u v w a b c)(_:B x y z u v w a b c)(_:C x y z u v w a b c)
def exConj:Nat->Lean.TSyntax `term->Array (Lean.TSyntax `term)
 | 0,t=>#[t]
 | n+1,t=>match t with
  | `($a ∧ $b)=>#[a] ++ exConj n b
  | _=>#[t]
def exBs (xs:Lean.TSyntax ``Lean.explicitBinders):Lean.MacroM (Array (Lean.TSyntax ``Lean.binderIdent × Option (Lean.TSyntax `term))):=do
 let x:=xs.raw[0]
 if x.getKind == ``Lean.unbracketedExplicitBinders then
  let ids:=x[0].getArgs.map fun i=>(⟨i⟩:Lean.TSyntax ``Lean.binderIdent)
  let ty:Option (Lean.TSyntax `term):=if x[1].getNumArgs == 0 then none else some ⟨x[1][1]⟩
  return ids.map fun i=>(i,ty)
 else
  let mut r:=#[]
  for g in x.getArgs do
   for i in g[1].getArgs do r:=r.push (⟨i⟩,some ⟨g[3]⟩)
  return r
def idsIn:Nat->Lean.Syntax->List Lean.Name
 | 0,_=>[]
 | n+1,s=>match s with
  | .ident _ _ v _=>[v]
  | .node _ _ as=>as.toList.flatMap (idsIn n)
  | _=>[]
local macro_rules
 | `(∃ $xs:explicitBinders,$b)=>do
  let bs<-exBs xs
  let cs:=exConj 20 b
  if bs.size == 1 && cs.size == 1 then Lean.Macro.throwUnsupported
  if !("12 13 15 16 21 22 23 24 25 26 31 32 33 34 35 36 44 45 46 47 54 56 93".splitOn " ").contains s!"{bs.size}{cs.size}" then Lean.Macro.throwUnsupported
  let mut seen:List Lean.Name:=[]
  for (i,t) in bs do
   if let some t:=t then
    if (idsIn 40 t).any (fun x=>seen.contains x.getRoot) then Lean.Macro.throwUnsupported
   if i.raw[0].isIdent then seen:=i.raw[0].getId :: seen
  let mut args:Array (Lean.TSyntax `term):=#[]
  for c in cs do
   let mut t:=c
   for (i,ty) in bs.reverse do
    let nm:Lean.TSyntax `term:=if i.raw[0].isIdent then ⟨i.raw[0]⟩ else ⟨Lean.mkHole i.raw⟩
    match ty with
    | some ty=>if i.raw[0].isIdent then t<-`(fun ($(⟨i.raw[0]⟩):ident:$ty)=>$t) else t<-`(fun (_:$ty)=>$t)
    | none=>if i.raw[0].isIdent then t<-`(fun $(⟨i.raw[0]⟩):ident=>$t) else t<-`(fun _=>$t)
   args:=args.push t
  let f:=Lean.mkIdent (Lean.Name.mkSimple s!"EX{bs.size}_{cs.size}")
  `($f $args*)
local macro_rules
|`(@$n:num)=>`(.var $n)
|`(@$n:str)=>`(.cst (.str $n))
|`(@($n:num))=>`(.cst (.int $n))
|`(@($t))=>`(some ($t))
local macro_rules
|`('o')=>`(by lia)
|`('s')=>`(by simp)
|`('k')=>`(by decide +kernel)
|`('d')=>`(by decide)
|`('l')=>`(by simp[lim];lia)
|`('m')=>`(by simp[lim])
|`(~~~$e)=>`(by simpa using $e)
|`($s⁻¹)=>`(($s).heap.objs.size)
local macro_rules
|`(%[$xs,*|$t])=>do
 if xs.elemsAndSeps.size%2==1 then Lean.Macro.throwUnsupported
 let mut r<-`(.cons $t .nil)
 for x in xs.getElems.reverse do r<-`(.cons $x $r)
 return r
def cvP:Nat->Lean.TSyntax `term->Lean.MacroM (Lean.TSyntax `rcasesPat)
|0,_=>Lean.Macro.throwUnsupported
|n+1,t=>match t with
 |`(⟨$xs,*⟩)=>do
  let ys<-xs.getElems.mapM (cvP n)
  let ys<-ys.mapM fun y=>`(Lean.Parser.Tactic.rcasesPatLo|$y:rcasesPat)
  `(rcasesPat|⟨$ys,*⟩)
 |`($i:ident)=>`(rcasesPat|$i:ident)
 |_=>`(rcasesPat|_)
local macro_rules
|`(tactic|let $p:term := $e)=>do
 let q<-cvP 9 p
 `(tactic|obtain $q:rcasesPat := $e)
local macro_rules
|`(tactic|ext $[$ps]*)=>do
 let mut xs:Array (Lean.TSyntax ``Lean.binderIdent):=#[]
 for p in ps do match p with
  |`(rintroPat|$i:ident)=>xs:=xs.push (<-`(Lean.binderIdent|$i:ident))
  |`(rintroPat|_)=>xs:=xs.push (<-`(Lean.binderIdent|_))
  |_=>Lean.Macro.throwUnsupported
 `(tactic|rename_i $xs*)
local macro_rules
|`(tactic|erw[$rs,*] $[$l]?)=>do
 let mut xs:Array (Lean.TSyntax ``Lean.Parser.Tactic.simpLemma):=#[]
 for r in rs.getElems do
  if r.raw[1].getId==`EWs||r.raw[1].getId==`EVs then
   for x in "aZ bN gF qu qw yU mL gZ qA iG gG gH qC bL iJ qD iK oX bO Kc oY Ka kI bh aN Dr Ds aU".splitOn " "++(if r.raw[1].getId==`EWs then "lF lG lH lI".splitOn " " else []) do xs:=xs.push (<-`(Lean.Parser.Tactic.simpLemma|$(Lean.mkIdent x.toName):ident))
  else match r with
  |`(Lean.Parser.Tactic.rwRule|<-$t)=>xs:=xs.push (<-`(Lean.Parser.Tactic.simpLemma|<-$t))
  |`(Lean.Parser.Tactic.rwRule|$t:term)=>xs:=xs.push (<-`(Lean.Parser.Tactic.simpLemma|$t:term))
  |_=>Lean.Macro.throwUnsupported
 `(tactic|simp only[$[$xs],*] $[$l]?)
local macro_rules
|`(def $i:declId $s:optDeclSig $v:declVal)=>`(noncomputable def $i:declId $s:optDeclSig $v:declVal)
noncomputable section
abbrev ae:=PySem.W.Frag
def Mt:=@Option.map_eq_some_iff
def Mu:=@PySem.wpAny_bind
def Mv:=@PySem.Heap.get?_push_of_some
def Mw:=@List.getElem?_eq_some_iff
def Mx:=@PySem.Heap.lt_size
def Mz:=@Bool.and_eq_true
def MA:=@PySem.wpAny_pure
def MB:=@Nat.le_refl
def MC:=@PySem.Heap.get?_push_size
def MD:=@Nat.ne_of_lt
def ME:=@List.size_toArray
def MF:=@Bool.and_eq_true_iff
def MG:=@Nat.lt_of_lt_of_le
def MH:=@List.lookup_cons
def MI:=@List.getElem?_append_left
def MJ:=@List.mem_cons
def MK:=@PySem.wpAny_mono
def ML:=@List.getElem?_append_right
def MM:=@PySem.wpAny_loadPart_at
def MN:=@if_neg
def MO:=@if_pos
def MP:=@List.mem_cons_of_mem
def MQ:=@Nat.le_trans
def MR:=@if_false
def MS:=@Bool.false_eq_true
def MT:=@Bool.not_eq_true
def MU:=@List.not_mem_nil
def MV:=@List.all_eq_true
def MW:=@PySem.wpAny_Call_Name_kw
def MX:=@List.length_cons
def MY:=@PySem.mem_of_lookup
def MZ:=@beq_iff_eq
def M0:=@Option.some.inj
def M1:=@PySem.W.kia_one
def M3:=@List.mem_of_getElem?
def M4:=@Bool.not_eq_true'
def M5:=@Bool.false_ne_true
def M6:=@List.getElem?_eq_getElem
def M7:=@List.mem_append
def Na:=@List.getElem?_set_ne
def Nb:=@List.mem_append_right
def Nc:=@List.mem_cons_self
def Nd:=@List.getElem?_set_self
def Nf:=@PySem.W.looks_findIn
def Ng:=@PySem.Heap.size_push
def Nh:=@PySem.wpAny_standAt
def Ni:=@PySem.wpAny_field
def Nj:=@List.map_cons
def Nk:=@List.length_map
def Nl:=@PySem.wpAny_holding
def Nm:=@List.length_append
def Nn:=@PySem.wpAny_truthy_bool
def Np:=@PySem.wpAny_newObj_type
def Nq:=@List.mem_cons
def Nr:=@or_false
def Nt:=@decide_eq_false
def Nu:=@PySem.W.callWith_K
def Nv:=@PySem.wpAny_callSpecial?_slot
def Ny:=@beq_self_eq_true
def Nz:=@List.mem_singleton
def NB:=@Nat.ne_of_gt
def NC:=@PySem.codeAny_mono
def ND:=@if_true
def NF:=@PySem.Heap.get?_update_other
def NG:=@Nat.lt_succ_of_lt
def NH:=@Array.length_toList
def NI:=@PySem.wpAny_isSubtype_exc
def NJ:=@PyProof.Rows.slot_tuple_getitem
def NK:=@Nat.lt_succ_self
def NL:=@PySem.W.Looks.at
def NN:=@List.append_assoc
def NO:=@List.mem_append_left
def NP:=@List.append_nil
def NQ:=@beq_eq_false_iff_ne
def NR:=@PyProof.Rows.callWith_type1
def NS:=@PySem.sizeLine_eq
def NT:=@PySem.W.mg_of
def NU:=@PySem.wpAny_pyIter_tuple
def NV:=@PySem.F.slot_tuple_iterator_next
def NW:=@Array.getElem?_eq_some_iff
def NX:=@PySem.F.excBase_ValueError
def NY:=@PySem.Heap.get?_update_self
def NZ:=@List.getD_eq_getElem?_getD
def N1:=@PySem.wpAny_passesOwn
def N2:=@PySem.codeAny_call_builtin
def N3:=@Nat.lt_irrefl
def N4:=@Option.isSome_iff_exists
def N5:=@List.getElem?_take_of_lt
def N6:=@PySem.wpAny_call_entry
def N7:=@decide_eq_true
def N8:=@PySem.cellsFrom.eq_def
def N9:=@PySem.wpAny_getItem_str_slice
def Oa:=@Nat.add_sub_cancel_left
def Ob:=@Nat.le_succ
def Oc:=@List.getElem?_map
def Od:=@PySem.wpAny_setField_rec
def Of:=@PySem.F.slot_enumerate_next
def Og:=@List.contains_iff_mem
def Oh:=@of_decide_eq_true
def Oi:=@PySem.F.typeOf_object_class
def Oj:=@decide_eq_true_eq
def Ol:=@List.length_take
def Om:=@List.mem_map
def Oo:=@List.getElem?_eq_none_iff
def Oq:=@PySem.F.args_tuple_add_2
def Ot:=@Bool.or_eq_true
def Ou:=@List.find?_cons
def Ov:=@PySem.Code.quiet_builtin
def Ow:=@PySem.Obj.data_mapFields
def Ox:=@PySem.F.entry_tuple_add
def Oz:=@PySem.F.plainAttrs_list
def OA:=@congrArg
def OB:=@PySem.wpAny_pyIter_list
def OC:=@PySem.W.cellsFrom_some
def OD:=@PySem.F.slot_tuple_add
def OE:=@PySem.wpAny_pyIter_enum
def OF:=@Int.toNat_natCast
def OG:=@List.nodup_append
def OH:=@PySem.W.KeysLit.eq_def
def OI:=@PySem.plainObj_wpAny_Assign_Attribute
def OJ:=@PySem.Obj.isFreed_of_fields
def OL:=@PySem.call_meets
def OM:=@List.contains_cons
def ON:=@List.any_cons
def OO:=@List.mem_filter
def OP:=@PySem.wpAny_execs_nil
def OQ:=@List.nodup_cons
def OR:=@PySem.post_val_or_str
def OS:=@PySem.F.args_tuple_iterator_next_1
def OT:=@PySem.Value.isStrOf_shape
def OU:=@PySem.W.plainGet_of
def OV:=@PySem.W.callWith_K0
def OW:=@PySem.F.entry_tuple_iterator_next
def OX:=@Bool.or_true
def OY:=@List.filterMap_cons
def OZ:=@PySem.Calls.Name_function_global
def O0:=@PyProof.Rows.assignInOrder_cons
def O1:=@PySem.wpAny_rule
def O2:=@Int.fdiv_eq_ediv_of_nonneg
def O3:=@Int.fmod_eq_emod_of_nonneg
def O4:=@PySem.wpAny_call
def O5:=@PySem.typeIs_str
def O6:=@PySem.wpAny_letOwnedTupleGo_enum
def O7:=@not_or
def O8:=@PySem.wpAny_setField
def O9:=@PySem.F.args_str_split_2
def Pa:=@List.mem_singleton
def Pb:=@Int.emod_lt_of_pos
def Pc:=@Nat.zero_le
def Pd:=@PySem.W.kitx_list
def Pe:=@Option.isSome_map
def Pf:=@PySem.F.entry_str_split
def Ph:=@List.all_eq_true
def Pj:=@PySem.noFill_tuple_add
def Pk:=@List.all_cons
def Pn:=@Nat.le_of_not_lt
def Po:=@PySem.F.args_enumerate_next_1
def Pp:=@PySem.F.slot_str_split
def Pq:=@Nat.le_of_lt
def Pr:=@PySem.wpAny_pyNext_list_item
def Pu:=@PyProof.noPylong_small
def Pw:=@PySem.concat_meets
def Py:=@List.length_set
def Pz:=@Nat.not_lt
def PC:=@PySem.F.entry_enumerate_next
def PD:=@List.nodup_append
def PF:=@PySem.Calls.callWith_builtin
def PJ:=@PySem.F.plainAttrs_str
def PK:=@PySem.codeAny_of_tree
def PL:=@PySem.W.mapOf_K
def PM:=@List.getElem?_of_mem
def PN:=@Option.map_some
def PR:=@Int.emod_nonneg
def PV:=@PySem.F.entry_bexc_ga
def PY:=@List.getElem_inj
def PZ:=@PySem.wpAny_notIn_of
def P9:=@PySem.intItems_at
def Qa:=@List.getElem_mem
def Qc:=@List.all_map
def Qd:=@PySem.Paired.length
def Qe:=@PySem.seq_tuple_add
def Qf:=@Prod.mk.injEq
def Qg:=@List.length_nil
def Qh:=@List.countP_map
def Qi:=@Nat.le_of_eq
def Qj:=@PySem.wpAny_typeOf
def Qk:=@List.map_nil
def Ql:=@PySem.seqIndex_neg
def Qm:=@Nat.lt_trans
def Qn:=@List.getElem?_set
namespace My
open PySem List
def top(i:Nat):Stmt:=PySem.Challenge.pw_relayholds_k17_refusals.main.body.getD i (.Pass ⟨0,0,0,0⟩)
noncomputable abbrev VS(x:Str)(t:Tok):Value:=.str x t
noncomputable abbrev VI(x:Int)(t:Tok):Value:=.int x t
noncomputable abbrev VR(x:Addr):Value:=.ref x
noncomputable abbrev VN:Value:=.none
noncomputable abbrev VT(x:String):Value:=.type x
noncomputable abbrev VB(x:String):Value:=.builtin x
noncomputable abbrev KE(P:Params)(x:Str)(t:Tok)(v:Value):DictEntry:=⟨PyData.keyHash P x,.str x t,v⟩
noncomputable abbrev hI(i j:Nat):Stmt:=match top i with
 |.ClassDef _ _ _ b _ _ _ _ _ _ _=>b.getD j (top i)
 |s=>s
noncomputable abbrev Lb(st:Stmt)(q:Str)(g:Addr)(i:List (Str×Addr))(d c a b:Value)(h:Option Addr)(code ct:Value)(e:Addr):Data:=match st with
 |.FunctionDef nm f body _ _ _ sc _ _ _=>.func ⟨nm,q,f,.stmts body,sc,g,i,d,c,a,b,h,code,ct,e⟩
 |_=>.plain
noncomputable abbrev hf(t:Tok):Value:=VS "/claim/cut.py" t
noncomputable abbrev hO(A:Addr)(n q:Str)(t a b r u v:Nat)(x y z:Value):Addr×Obj:=(A,⟨VT "code",none,.fields #[VS n t,VS q (t+1),hf (t+2),VI a 0,VI b 0,VI 0 0,VI 0 0,VI 3 0,VR r,.bool true,VI 181 0,VR (r+1),VN,x,y,z,VI u 0,VI a 0,hf v],#[]⟩)
noncomputable abbrev hC(A:Addr)(n q:Str)(t b a r u v:Nat):Addr×Obj:=hO A n q t b a r u v (VR (r+2)) (VR (r+3)) (VR (r+4))
noncomputable abbrev hc(A:Addr)(n q:Str)(t b a r u v:Nat):Addr×Obj:=hO A n q t b a r u v VN VN (VR (r+2))
noncomputable abbrev hF(A:Addr)(st:Stmt)(q:Str)(a:Value)(c:Addr):Addr×Obj:=(A,⟨VT "function",none,Lb st q 3 [] VN VN VN a none (VR c) VN 0,#[]⟩)
noncomputable abbrev jf:Value:=VS "relayholds.nets" 417
noncomputable abbrev n6:Value:=VS "relayholds.errors" 194
noncomputable abbrev ye:Value:=VS "law_relayholds_k17_refusals" 722
noncomputable abbrev AE:Value:=VS "relayholds.nettexts" 664
def kk:Params->ae:=λ P=>[(2,⟨VN,none,(.dict #[] 0),#[]⟩),
 (3,⟨(VT "dict"),none,(.dict #[KE P "__name__" 165 ye,KE P "__doc__" 166 VN,KE P "__package__" 167 VN,KE P "__loader__" 168 (VB "__main__.__loader__#opaque"),KE P "__spec__" 169 VN,KE P "__annotations__" 170 (VR 6),KE P "__builtins__" 171 (VR 4),KE P "__file__" 173 (VS "/claim/cut.py" 172),KE P "__cached__" 174 VN,KE P "_wall" 193 (VR 21),KE P "RelayError" 213 (VR 31),KE P "NoNet" 238 (VR 51),KE P "NoText" 254 (VR 63),KE P "NoTable" 279 (VR 82),KE P "NoNames" 295 (VR 94),KE P "NoName" 311 (VR 106),KE P "NoPiece" 327 (VR 118),KE P "NoPosition" 343 (VR 130),KE P "NoState" 359 (VR 142),KE P "NotResting" 375 (VR 154),KE P "Raced" 400 (VR 173),KE P "NotSure" 416 (VR 185),KE P "MOST_SIGNS" 420 (VI 8 419),KE P "MOST_KEYS" 422 (VI 2 421),KE P "MOST_RELAYS" 424 (VI 4 423),KE P "MOST_LAMPS" 426 (VI 2 425),KE P "LEAST_NODES" 428 (VI 2 427),KE P "MOST_NODES" 430 (VI 640 429),KE P "MOST_PIECES" 432 (VI 800 431),KE P "LEAST_TIME" 434 (VI 1 433),KE P "MOST_TIME" 436 (VI 4 435),KE P "MANY_ENDS" 455 (VR 188),KE P "Net" 536 (VR 247),KE P "check_net" 548 (VR 258),KE P "check_words" 558 (VR 265),KE P "first_wrong_word" 568 (VR 272),KE P "is_word" 574 (VR 277),KE P "check_many" 587 (VR 284),KE P "check_sizes" 595 (VR 291),KE P "check_pieces" 610 (VR 298),KE P "is_piece" 621 (VR 305),KE P "ends_of" 628 (VR 312),KE P "are_unlike_nodes" 634 (VR 317),KE P "is_whole" 641 (VR 324),KE P "check_just_one" 647 (VR 329),KE P "check_times" 657 (VR 336),KE P "are_times" 663 (VR 341),KE P "FIGURES" 667 (VS "0123456789" 666),KE P "MOST_FIGURES" 669 (VI 12 668),KE P "read_net" 675 (VR 346),KE P "split_rows" 681 (VR 351),KE P "count_relay_rows" 689 (VR 358),KE P "read_relay" 695 (VR 363),KE P "read_nodes" 702 (VR 370),KE P "read_piece" 708 (VR 375),KE P "read_number" 715 (VR 382),KE P "is_number" 721 (VR 387),KE P "_law_pot" 732 (VR 394),KE P "_law_take" 741 (VR 401),KE P "_law_kinds" 749 (VR 408),KE P "_law_all" 758 (VR 415),KE P "_law_bare" 765 (VR 422),KE P "_law_right" 771 (VR 427),KE P "_law_caught" 779 (VR 434),KE P "law" 785 (VR 439)] 65),#[]⟩),
 (30,⟨(VT "dict"),none,(.dict #[KE P "__module__" 203 n6,KE P "__firstlineno__" 207 (VI 5 206),KE P "__static_attributes__" 208 (VR 29),KE P "__weakref__" 210 (VR 32),KE P "__doc__" 211 VN] 3),#[]⟩),
 (31,⟨(VT "type"),none,(.cls {name:="RelayError",bases:=[.type "ValueError"],mro:=[.ref 31,.type "ValueError",.type "Exception",.type "BaseException",.type "object"],ns:=30,qualname:="RelayError",subclasses:=[.ref 51,.ref 63,.ref 82,.ref 94,.ref 106,.ref 118,.ref 130,.ref 142,.ref 154,.ref 173,.ref 185]}),#[@(VR 22),none,@(VS "RelayError" 196),@(VS "RelayError" 204),@(VB "ValueError.__new__"),@(.bool true)]⟩),
 hC 47 "__init__" "NoNet.__init__" 226 9 2 42 231 232,
 hF 48 (hI 3 0) "NoNet.__init__" n6 47,
 (50,⟨(VT "dict"),none,(.dict #[KE P "__module__" 221 n6,KE P "__firstlineno__" 225 (VI 7 224),KE P "__init__" 233 (VR 48),KE P "__static_attributes__" 235 (VR 49),KE P "__doc__" 236 VN] 2),#[]⟩),
 (51,⟨(VT "type"),none,(.cls {name:="NoNet",bases:=[.ref 31],mro:=[.ref 51,.ref 31,.type "ValueError",.type "Exception",.type "BaseException",.type "object"],ns:=50,qualname:="NoNet"}),#[@(VR 35),none,@(VS "NoNet" 214),@(VS "NoNet" 222),@(VB "ValueError.__new__"),@(.bool true)]⟩),
 (62,⟨(VT "dict"),none,(.dict #[KE P "__module__" 246 n6,KE P "__firstlineno__" 250 (VI 11 249),KE P "__static_attributes__" 251 (VR 61),KE P "__doc__" 252 VN] 2),#[]⟩),
 (63,⟨(VT "type"),none,(.cls {name:="NoText",bases:=[.ref 31],mro:=[.ref 63,.ref 31,.type "ValueError",.type "Exception",.type "BaseException",.type "object"],ns:=62,qualname:="NoText"}),#[@(VR 54),none,@(VS "NoText" 239),@(VS "NoText" 247),@(VB "ValueError.__new__"),@(.bool true)]⟩),
 hC 78 "__init__" "NoTable.__init__" 267 15 2 73 272 273,
 hF 79 (hI 5 0) "NoTable.__init__" n6 78,
 (81,⟨(VT "dict"),none,(.dict #[KE P "__module__" 262 n6,KE P "__firstlineno__" 266 (VI 13 265),KE P "__init__" 274 (VR 79),KE P "__static_attributes__" 276 (VR 80),KE P "__doc__" 277 VN] 2),#[]⟩),
 (82,⟨(VT "type"),none,(.cls {name:="NoTable",bases:=[.ref 31],mro:=[.ref 82,.ref 31,.type "ValueError",.type "Exception",.type "BaseException",.type "object"],ns:=81,qualname:="NoTable"}),#[@(VR 66),none,@(VS "NoTable" 255),@(VS "NoTable" 263),@(VB "ValueError.__new__"),@(.bool true)]⟩),
 (93,⟨(VT "dict"),none,(.dict #[KE P "__module__" 287 n6,KE P "__firstlineno__" 291 (VI 17 290),KE P "__static_attributes__" 292 (VR 92),KE P "__doc__" 293 VN] 2),#[]⟩),
 (94,⟨(VT "type"),none,(.cls {name:="NoNames",bases:=[.ref 31],mro:=[.ref 94,.ref 31,.type "ValueError",.type "Exception",.type "BaseException",.type "object"],ns:=93,qualname:="NoNames"}),#[@(VR 85),none,@(VS "NoNames" 280),@(VS "NoNames" 288),@(VB "ValueError.__new__"),@(.bool true)]⟩),
 (105,⟨(VT "dict"),none,(.dict #[KE P "__module__" 303 n6,KE P "__firstlineno__" 307 (VI 19 306),KE P "__static_attributes__" 308 (VR 104),KE P "__doc__" 309 VN] 2),#[]⟩),
 (106,⟨(VT "type"),none,(.cls {name:="NoName",bases:=[.ref 31],mro:=[.ref 106,.ref 31,.type "ValueError",.type "Exception",.type "BaseException",.type "object"],ns:=105,qualname:="NoName"}),#[@(VR 97),none,@(VS "NoName" 296),@(VS "NoName" 304),@(VB "ValueError.__new__"),@(.bool true)]⟩),
 (117,⟨(VT "dict"),none,(.dict #[KE P "__module__" 319 n6,KE P "__firstlineno__" 323 (VI 21 322),KE P "__static_attributes__" 324 (VR 116),KE P "__doc__" 325 VN] 2),#[]⟩),
 (118,⟨(VT "type"),none,(.cls {name:="NoPiece",bases:=[.ref 31],mro:=[.ref 118,.ref 31,.type "ValueError",.type "Exception",.type "BaseException",.type "object"],ns:=117,qualname:="NoPiece"}),#[@(VR 109),none,@(VS "NoPiece" 312),@(VS "NoPiece" 320),@(VB "ValueError.__new__"),@(.bool true)]⟩),
 (129,⟨(VT "dict"),none,(.dict #[KE P "__module__" 335 n6,KE P "__firstlineno__" 339 (VI 23 338),KE P "__static_attributes__" 340 (VR 128),KE P "__doc__" 341 VN] 2),#[]⟩),
 (130,⟨(VT "type"),none,(.cls {name:="NoPosition",bases:=[.ref 31],mro:=[.ref 130,.ref 31,.type "ValueError",.type "Exception",.type "BaseException",.type "object"],ns:=129,qualname:="NoPosition"}),#[@(VR 121),none,@(VS "NoPosition" 328),@(VS "NoPosition" 336),@(VB "ValueError.__new__"),@(.bool true)]⟩),
 (141,⟨(VT "dict"),none,(.dict #[KE P "__module__" 351 n6,KE P "__firstlineno__" 355 (VI 25 354),KE P "__static_attributes__" 356 (VR 140),KE P "__doc__" 357 VN] 2),#[]⟩),
 (142,⟨(VT "type"),none,(.cls {name:="NoState",bases:=[.ref 31],mro:=[.ref 142,.ref 31,.type "ValueError",.type "Exception",.type "BaseException",.type "object"],ns:=141,qualname:="NoState"}),#[@(VR 133),none,@(VS "NoState" 344),@(VS "NoState" 352),@(VB "ValueError.__new__"),@(.bool true)]⟩),
 (153,⟨(VT "dict"),none,(.dict #[KE P "__module__" 367 n6,KE P "__firstlineno__" 371 (VI 27 370),KE P "__static_attributes__" 372 (VR 152),KE P "__doc__" 373 VN] 2),#[]⟩),
 (154,⟨(VT "type"),none,(.cls {name:="NotResting",bases:=[.ref 31],mro:=[.ref 154,.ref 31,.type "ValueError",.type "Exception",.type "BaseException",.type "object"],ns:=153,qualname:="NotResting"}),#[@(VR 145),none,@(VS "NotResting" 360),@(VS "NotResting" 368),@(VB "ValueError.__new__"),@(.bool true)]⟩),
 hC 169 "__init__" "Raced.__init__" 388 31 2 164 393 394,
 hF 170 (hI 12 0) "Raced.__init__" n6 169,
 (172,⟨(VT "dict"),none,(.dict #[KE P "__module__" 383 n6,KE P "__firstlineno__" 387 (VI 29 386),KE P "__init__" 395 (VR 170),KE P "__static_attributes__" 397 (VR 171),KE P "__doc__" 398 VN] 2),#[]⟩),
 (173,⟨(VT "type"),none,(.cls {name:="Raced",bases:=[.ref 31],mro:=[.ref 173,.ref 31,.type "ValueError",.type "Exception",.type "BaseException",.type "object"],ns:=172,qualname:="Raced"}),#[@(VR 157),none,@(VS "Raced" 376),@(VS "Raced" 384),@(VB "ValueError.__new__"),@(.bool true)]⟩),
 (184,⟨(VT "dict"),none,(.dict #[KE P "__module__" 408 n6,KE P "__firstlineno__" 412 (VI 33 411),KE P "__static_attributes__" 413 (VR 183),KE P "__doc__" 414 VN] 2),#[]⟩),
 (185,⟨(VT "type"),none,(.cls {name:="NotSure",bases:=[.ref 31],mro:=[.ref 185,.ref 31,.type "ValueError",.type "Exception",.type "BaseException",.type "object"],ns:=184,qualname:="NotSure"}),#[@(VR 176),none,@(VS "NotSure" 401),@(VS "NotSure" 409),@(VB "ValueError.__new__"),@(.bool true)]⟩),
 (188,⟨(VT "dict"),none,(.dict #[KE P "wire" 437 (VI 2 438),KE P "made" 439 (VI 2 440),KE P "broken" 441 (VI 2 442),KE P "swap" 443 (VI 3 444),KE P "coil" 445 (VI 2 446),KE P "lamp" 447 (VI 2 448)] 6),#[]⟩),
 hC 201 "__init__" "Net.__init__" 468 48 7 196 478 479,
 hF 202 (hI 25 0) "Net.__init__" jf 201,
 hC 215 "relays" "Net.relays" 488 60 1 210 492 493,
 hF 216 (hI 25 2) "Net.relays" jf 215,
 hC 222 "lamps" "Net.lamps" 495 63 1 217 499 500,
 hF 223 (hI 25 3) "Net.lamps" jf 222,
 hC 229 "nodes" "Net.nodes" 502 66 1 224 506 507,
 hF 230 (hI 25 4) "Net.nodes" jf 229,
 hC 236 "pieces" "Net.pieces" 509 69 1 231 513 514,
 hF 237 (hI 25 5) "Net.pieces" jf 236,
 hC 243 "times" "Net.times" 516 72 1 238 520 521,
 hF 244 (hI 25 6) "Net.times" jf 243,
 (246,⟨(VT "dict"),none,(.dict #[KE P "__module__" 463 jf,KE P "__firstlineno__" 467 (VI 46 466),KE P "__init__" 480 (VR 202),KE P "key_words" 487 (VR 209),KE P "relays" 494 (VR 216),KE P "lamps" 501 (VR 223),KE P "nodes" 508 (VR 230),KE P "pieces" 515 (VR 237),KE P "times" 522 (VR 244),KE P "__static_attributes__" 529 (VR 245),KE P "__dict__" 531 (VR 248),KE P "__weakref__" 533 (VR 249),KE P "__doc__" 534 VN] 4),#[]⟩),
 (247,⟨(VT "type"),none,(.cls {name:="Net",bases:=[.type "object"],mro:=[.ref 247,.type "object"],ns:=246,qualname:="Net"}),#[none,none,@(VS "Net" 456),@(VS "Net" 464),@(VB "object.__new__"),@(.bool true)]⟩),
 hC 257 "check_net" "check_net" 537 74 6 252 546 547,
 hF 258 (top 26) "check_net" jf 257,
 hC 264 "check_words" "check_words" 549 82 3 259 556 557,
 hF 265 (top 27) "check_words" jf 264,
 hC 271 "first_wrong_word" "first_wrong_word" 559 86 1 266 566 567,
 hF 272 (top 28) "first_wrong_word" jf 271,
 hc 276 "is_word" "is_word" 569 93 1 273 572 573,
 hF 277 (top 29) "is_word" jf 276,
 hC 283 "check_many" "check_many" 575 95 3 278 585 586,
 hF 284 (top 30) "check_many" jf 283,
 hC 290 "check_sizes" "check_sizes" 588 100 2 285 593 594,
 hF 291 (top 31) "check_sizes" jf 290,
 hC 297 "check_pieces" "check_pieces" 596 105 5 292 608 609,
 hF 298 (top 32) "check_pieces" jf 297,
 hC 304 "is_piece" "is_piece" 611 111 3 299 619 620,
 hF 305 (top 33) "is_piece" jf 304,
 hC 311 "ends_of" "ends_of" 622 119 1 306 626 627,
 hF 312 (top 34) "ends_of" jf 311,
 hc 316 "are_unlike_nodes" "are_unlike_nodes" 629 121 2 313 632 633,
 hF 317 (top 35) "are_unlike_nodes" jf 316,
 hC 323 "is_whole" "is_whole" 635 123 1 318 639 640,
 hF 324 (top 36) "is_whole" jf 323,
 hc 328 "check_just_one" "check_just_one" 642 125 3 325 645 646,
 hF 329 (top 37) "check_just_one" jf 328,
 hC 335 "check_times" "check_times" 648 130 2 330 655 656,
 hF 336 (top 38) "check_times" jf 335,
 hc 340 "are_times" "are_times" 658 136 1 337 661 662,
 hF 341 (top 39) "are_times" jf 340,
 hc 345 "read_net" "read_net" 670 143 1 342 673 674,
 hF 346 (top 43) "read_net" AE 345,
 hc 350 "split_rows" "split_rows" 676 160 1 347 679 680,
 hF 351 (top 44) "split_rows" AE 350,
 hC 357 "count_relay_rows" "count_relay_rows" 682 164 1 352 687 688,
 hF 358 (top 45) "count_relay_rows" AE 357,
 hc 362 "read_relay" "read_relay" 690 169 1 359 693 694,
 hF 363 (top 46) "read_relay" AE 362,
 hC 369 "read_nodes" "read_nodes" 696 173 1 364 700 701,
 hF 370 (top 47) "read_nodes" AE 369,
 hc 374 "read_piece" "read_piece" 703 177 1 371 706 707,
 hF 375 (top 48) "read_piece" AE 374,
 hC 381 "read_number" "read_number" 709 179 1 376 713 714,
 hF 382 (top 49) "read_number" AE 381,
 hc 386 "is_number" "is_number" 716 183 1 383 719 720,
 hF 387 (top 50) "is_number" AE 386,
 hC 393 "_law_pot" "_law_pot" 724 188 2 388 730 731,
 hF 394 (top 52) "_law_pot" ye 393,
 hC 400 "_law_take" "_law_take" 733 193 2 395 739 740,
 hF 401 (top 53) "_law_take" ye 400,
 hC 407 "_law_kinds" "_law_kinds" 742 199 1 402 747 748,
 hF 408 (top 54) "_law_kinds" ye 407,
 hC 414 "_law_all" "_law_all" 750 204 2 409 756 757,
 hF 415 (top 55) "_law_all" ye 414,
 hC 421 "_law_bare" "_law_bare" 759 208 0 416 763 764,
 hF 422 (top 56) "_law_bare" ye 421,
 hc 426 "_law_right" "_law_right" 766 211 1 423 769 770,
 hF 427 (top 57) "_law_right" ye 426,
 hC 433 "_law_caught" "_law_caught" 772 219 2 428 777 778,
 hF 434 (top 58) "_law_caught" ye 433,
 hc 438 "law" "law" 780 230 1 435 783 784,
 hF 439 (top 59) "law" ye 438]
def ka:List Addr:=[2,3,30,31,47,48,50,51,62,63,78,79,81,82,93,94,105,106,117,118,129,130,141,142,153,154,169,170,172,173,184,185,188,201,202,215,216,222,223,229,230,236,237,243,244,246,247,257,258,264,265,271,272,276,277,283,284,290,291,297,298,304,305,311,312,316,317,323,324,328,329,335,336,340,341,345,346,350,351,357,358,362,363,369,370,374,375,381,382,386,387,393,394,400,401,407,408,414,415,421,422,426,427,433,434,438,439]
theorem Ld:PySem.W.OpenLaw.wellSaid PySem.Challenge.rw_relayholds_k17_refusals=true:=by kernel_rfl
end My
section
set_option hygiene false
set_option genSizeOfSpec false
set_option genSizeOf false
inductive Fd{α0:Sort _}(P0 P1:α0->Prop):Prop | mk (x0:α0) (h0:P0 x0) (h1:P1 x0):Fd P0 P1
inductive Fe{α0:Sort _}(P0 P1 P2:α0->Prop):Prop | mk (x0:α0) (h0:P0 x0) (h1:P1 x0) (h2:P2 x0):Fe P0 P1 P2
inductive Ff{α0:Sort _}(P0 P1 P2 P3:α0->Prop):Prop | mk (x0:α0) (h0:P0 x0) (h1:P1 x0) (h2:P2 x0) (h3:P3 x0):Ff P0 P1 P2 P3
inductive Fg{α0:Sort _}(P0 P1 P2 P3 P4:α0->Prop):Prop | mk (x0:α0) (h0:P0 x0) (h1:P1 x0) (h2:P2 x0) (h3:P3 x0) (h4:P4 x0):Fg P0 P1 P2 P3 P4
inductive Fj{α0:Sort _}(P0 P1 P2 P3 P4 P5:α0->Prop):Prop | mk (x0:α0) (h0:P0 x0) (h1:P1 x0) (h2:P2 x0) (h3:P3 x0) (h4:P4 x0) (h5:P5 x0):Fj P0 P1 P2 P3 P4 P5
inductive Fl{α0 α1:Sort _}(P0:α0->α1->Prop):Prop | mk (x0:α0) (x1:α1) (h0:P0 x0 x1):Fl P0
inductive Fo{α0 α1:Sort _}(P0 P1:α0->α1->Prop):Prop | mk (x0:α0) (x1:α1) (h0:P0 x0 x1) (h1:P1 x0 x1):Fo P0 P1
inductive Fp{α0 α1:Sort _}(P0 P1 P2:α0->α1->Prop):Prop | mk (x0:α0) (x1:α1) (h0:P0 x0 x1) (h1:P1 x0 x1) (h2:P2 x0 x1):Fp P0 P1 P2
inductive Fq{α0 α1:Sort _}(P0 P1 P2 P3:α0->α1->Prop):Prop | mk (x0:α0) (x1:α1) (h0:P0 x0 x1) (h1:P1 x0 x1) (h2:P2 x0 x1) (h3:P3 x0 x1):Fq P0 P1 P2 P3
inductive Ft{α0 α1:Sort _}(P0 P1 P2 P3 P4:α0->α1->Prop):Prop | mk (x0:α0) (x1:α1) (h0:P0 x0 x1) (h1:P1 x0 x1) (h2:P2 x0 x1) (h3:P3 x0 x1) (h4:P4 x0 x1):Ft P0 P1 P2 P3 P4
inductive Fv{α0 α1:Sort _}(P0 P1 P2 P3 P4 P5:α0->α1->Prop):Prop | mk (x0:α0) (x1:α1) (h0:P0 x0 x1) (h1:P1 x0 x1) (h2:P2 x0 x1) (h3:P3 x0 x1) (h4:P4 x0 x1) (h5:P5 x0 x1):Fv P0 P1 P2 P3 P4 P5
inductive Fw{α0 α1:Sort _}(P0 P1 P2 P3 P4 P5 P6 P7:α0->α1->Prop):Prop | mk (x0:α0) (x1:α1) (h0:P0 x0 x1) (h1:P1 x0 x1) (h2:P2 x0 x1) (h3:P3 x0 x1) (h4:P4 x0 x1) (h5:P5 x0 x1) (h6:P6 x0 x1) (h7:P7 x0 x1):Fw P0 P1 P2 P3 P4 P5 P6 P7
inductive Fx{α0 α1 α2:Sort _}(P0:α0->α1->α2->Prop):Prop | mk (x0:α0) (x1:α1) (x2:α2) (h0:P0 x0 x1 x2):Fx P0
inductive Fy{α0 α1 α2:Sort _}(P0 P1:α0->α1->α2->Prop):Prop | mk (x0:α0) (x1:α1) (x2:α2) (h0:P0 x0 x1 x2) (h1:P1 x0 x1 x2):Fy P0 P1
inductive Fz{α0 α1 α2:Sort _}(P0 P1 P2:α0->α1->α2->Prop):Prop | mk (x0:α0) (x1:α1) (x2:α2) (h0:P0 x0 x1 x2) (h1:P1 x0 x1 x2) (h2:P2 x0 x1 x2):Fz P0 P1 P2
inductive FE{α0 α1 α2:Sort _}(P0 P1 P2 P3:α0->α1->α2->Prop):Prop | mk (x0:α0) (x1:α1) (x2:α2) (h0:P0 x0 x1 x2) (h1:P1 x0 x1 x2) (h2:P2 x0 x1 x2) (h3:P3 x0 x1 x2):FE P0 P1 P2 P3
inductive FF{α0 α1 α2:Sort _}(P0 P1 P2 P3 P4:α0->α1->α2->Prop):Prop | mk (x0:α0) (x1:α1) (x2:α2) (h0:P0 x0 x1 x2) (h1:P1 x0 x1 x2) (h2:P2 x0 x1 x2) (h3:P3 x0 x1 x2) (h4:P4 x0 x1 x2):FF P0 P1 P2 P3 P4
inductive FG{α0 α1 α2:Sort _}(P0 P1 P2 P3 P4 P5:α0->α1->α2->Prop):Prop | mk (x0:α0) (x1:α1) (x2:α2) (h0:P0 x0 x1 x2) (h1:P1 x0 x1 x2) (h2:P2 x0 x1 x2) (h3:P3 x0 x1 x2) (h4:P4 x0 x1 x2) (h5:P5 x0 x1 x2):FG P0 P1 P2 P3 P4 P5
inductive FH{α0 α1 α2:Sort _}(P0 P1 P2 P3 P4 P5 P6:α0->α1->α2->Prop):Prop | mk (x0:α0) (x1:α1) (x2:α2) (h0:P0 x0 x1 x2) (h1:P1 x0 x1 x2) (h2:P2 x0 x1 x2) (h3:P3 x0 x1 x2) (h4:P4 x0 x1 x2) (h5:P5 x0 x1 x2) (h6:P6 x0 x1 x2):FH P0 P1 P2 P3 P4 P5 P6
inductive FI{α0 α1 α2 α3:Sort _}(P0:α0->α1->α2->α3->Prop):Prop | mk (x0:α0) (x1:α1) (x2:α2) (x3:α3) (h0:P0 x0 x1 x2 x3):FI P0
inductive FJ{α0 α1 α2 α3:Sort _}(P0 P1:α0->α1->α2->α3->Prop):Prop | mk (x0:α0) (x1:α1) (x2:α2) (x3:α3) (h0:P0 x0 x1 x2 x3) (h1:P1 x0 x1 x2 x3):FJ P0 P1
inductive FL{α0 α1 α2 α3:Sort _}(P0 P1 P2:α0->α1->α2->α3->Prop):Prop | mk (x0:α0) (x1:α1) (x2:α2) (x3:α3) (h0:P0 x0 x1 x2 x3) (h1:P1 x0 x1 x2 x3) (h2:P2 x0 x1 x2 x3):FL P0 P1 P2
inductive FN{α0 α1 α2 α3:Sort _}(P0 P1 P2 P3:α0->α1->α2->α3->Prop):Prop | mk (x0:α0) (x1:α1) (x2:α2) (x3:α3) (h0:P0 x0 x1 x2 x3) (h1:P1 x0 x1 x2 x3) (h2:P2 x0 x1 x2 x3) (h3:P3 x0 x1 x2 x3):FN P0 P1 P2 P3
inductive FO{α0 α1 α2 α3:Sort _}(P0 P1 P2 P3 P4:α0->α1->α2->α3->Prop):Prop | mk (x0:α0) (x1:α1) (x2:α2) (x3:α3) (h0:P0 x0 x1 x2 x3) (h1:P1 x0 x1 x2 x3) (h2:P2 x0 x1 x2 x3) (h3:P3 x0 x1 x2 x3) (h4:P4 x0 x1 x2 x3):FO P0 P1 P2 P3 P4
inductive FP{α0 α1 α2 α3:Sort _}(P0 P1 P2 P3 P4 P5:α0->α1->α2->α3->Prop):Prop | mk (x0:α0) (x1:α1) (x2:α2) (x3:α3) (h0:P0 x0 x1 x2 x3) (h1:P1 x0 x1 x2 x3) (h2:P2 x0 x1 x2 x3) (h3:P3 x0 x1 x2 x3) (h4:P4 x0 x1 x2 x3) (h5:P5 x0 x1 x2 x3):FP P0 P1 P2 P3 P4 P5
inductive FQ{α0 α1 α2 α3:Sort _}(P0 P1 P2 P3 P4 P5 P6:α0->α1->α2->α3->Prop):Prop | mk (x0:α0) (x1:α1) (x2:α2) (x3:α3) (h0:P0 x0 x1 x2 x3) (h1:P1 x0 x1 x2 x3) (h2:P2 x0 x1 x2 x3) (h3:P3 x0 x1 x2 x3) (h4:P4 x0 x1 x2 x3) (h5:P5 x0 x1 x2 x3) (h6:P6 x0 x1 x2 x3):FQ P0 P1 P2 P3 P4 P5 P6
inductive FT{α0 α1 α2 α3:Sort _}(P0 P1 P2 P3 P4 P5 P6 P7:α0->α1->α2->α3->Prop):Prop | mk (x0:α0) (x1:α1) (x2:α2) (x3:α3) (h0:P0 x0 x1 x2 x3) (h1:P1 x0 x1 x2 x3) (h2:P2 x0 x1 x2 x3) (h3:P3 x0 x1 x2 x3) (h4:P4 x0 x1 x2 x3) (h5:P5 x0 x1 x2 x3) (h6:P6 x0 x1 x2 x3) (h7:P7 x0 x1 x2 x3):FT P0 P1 P2 P3 P4 P5 P6 P7
inductive FU{α0 α1 α2 α3:Sort _}(P0 P1 P2 P3 P4 P5 P6 P7 P8:α0->α1->α2->α3->Prop):Prop | mk (x0:α0) (x1:α1) (x2:α2) (x3:α3) (h0:P0 x0 x1 x2 x3) (h1:P1 x0 x1 x2 x3) (h2:P2 x0 x1 x2 x3) (h3:P3 x0 x1 x2 x3) (h4:P4 x0 x1 x2 x3) (h5:P5 x0 x1 x2 x3) (h6:P6 x0 x1 x2 x3) (h7:P7 x0 x1 x2 x3) (h8:P8 x0 x1 x2 x3):FU P0 P1 P2 P3 P4 P5 P6 P7 P8
inductive FW{α0 α1 α2 α3 α4:Sort _}(P0:α0->α1->α2->α3->α4->Prop):Prop | mk (x0:α0) (x1:α1) (x2:α2) (x3:α3) (x4:α4) (h0:P0 x0 x1 x2 x3 x4):FW P0
inductive FY{α0 α1 α2 α3 α4:Sort _}(P0 P1 P2 P3:α0->α1->α2->α3->α4->Prop):Prop | mk (x0:α0) (x1:α1) (x2:α2) (x3:α3) (x4:α4) (h0:P0 x0 x1 x2 x3 x4) (h1:P1 x0 x1 x2 x3 x4) (h2:P2 x0 x1 x2 x3 x4) (h3:P3 x0 x1 x2 x3 x4):FY P0 P1 P2 P3
inductive F3{α0 α1 α2 α3 α4:Sort _}(P0 P1 P2 P3 P4 P5:α0->α1->α2->α3->α4->Prop):Prop | mk (x0:α0) (x1:α1) (x2:α2) (x3:α3) (x4:α4) (h0:P0 x0 x1 x2 x3 x4) (h1:P1 x0 x1 x2 x3 x4) (h2:P2 x0 x1 x2 x3 x4) (h3:P3 x0 x1 x2 x3 x4) (h4:P4 x0 x1 x2 x3 x4) (h5:P5 x0 x1 x2 x3 x4):F3 P0 P1 P2 P3 P4 P5
inductive F4{α0 α1 α2 α3 α4:Sort _}(P0 P1 P2 P3 P4 P5 P6 P7 P8:α0->α1->α2->α3->α4->Prop):Prop | mk (x0:α0) (x1:α1) (x2:α2) (x3:α3) (x4:α4) (h0:P0 x0 x1 x2 x3 x4) (h1:P1 x0 x1 x2 x3 x4) (h2:P2 x0 x1 x2 x3 x4) (h3:P3 x0 x1 x2 x3 x4) (h4:P4 x0 x1 x2 x3 x4) (h5:P5 x0 x1 x2 x3 x4) (h6:P6 x0 x1 x2 x3 x4) (h7:P7 x0 x1 x2 x3 x4) (h8:P8 x0 x1 x2 x3 x4):F4 P0 P1 P2 P3 P4 P5 P6 P7 P8
inductive F5{α0 α1 α2 α3 α4 α5:Sort _}(P0 P1 P2 P3 P4 P5:α0->α1->α2->α3->α4->α5->Prop):Prop | mk (x0:α0) (x1:α1) (x2:α2) (x3:α3) (x4:α4) (x5:α5) (h0:P0 x0 x1 x2 x3 x4 x5) (h1:P1 x0 x1 x2 x3 x4 x5) (h2:P2 x0 x1 x2 x3 x4 x5) (h3:P3 x0 x1 x2 x3 x4 x5) (h4:P4 x0 x1 x2 x3 x4 x5) (h5:P5 x0 x1 x2 x3 x4 x5):F5 P0 P1 P2 P3 P4 P5
inductive F6{α0 α1 α2 α3 α4 α5 α6:Sort _}(P0 P1 P2 P3 P4 P5 P6 P7 P8:α0->α1->α2->α3->α4->α5->α6->Prop):Prop | mk (x0:α0) (x1:α1) (x2:α2) (x3:α3) (x4:α4) (x5:α5) (x6:α6) (h0:P0 x0 x1 x2 x3 x4 x5 x6) (h1:P1 x0 x1 x2 x3 x4 x5 x6) (h2:P2 x0 x1 x2 x3 x4 x5 x6) (h3:P3 x0 x1 x2 x3 x4 x5 x6) (h4:P4 x0 x1 x2 x3 x4 x5 x6) (h5:P5 x0 x1 x2 x3 x4 x5 x6) (h6:P6 x0 x1 x2 x3 x4 x5 x6) (h7:P7 x0 x1 x2 x3 x4 x5 x6) (h8:P8 x0 x1 x2 x3 x4 x5 x6):F6 P0 P1 P2 P3 P4 P5 P6 P7 P8
inductive F7{α0 α1 α2 α3 α4 α5 α6 α7:Sort _}(P0 P1 P2 P3 P4 P5 P6 P7 P8:α0->α1->α2->α3->α4->α5->α6->α7->Prop):Prop | mk (x0:α0) (x1:α1) (x2:α2) (x3:α3) (x4:α4) (x5:α5) (x6:α6) (x7:α7) (h0:P0 x0 x1 x2 x3 x4 x5 x6 x7) (h1:P1 x0 x1 x2 x3 x4 x5 x6 x7) (h2:P2 x0 x1 x2 x3 x4 x5 x6 x7) (h3:P3 x0 x1 x2 x3 x4 x5 x6 x7) (h4:P4 x0 x1 x2 x3 x4 x5 x6 x7) (h5:P5 x0 x1 x2 x3 x4 x5 x6 x7) (h6:P6 x0 x1 x2 x3 x4 x5 x6 x7) (h7:P7 x0 x1 x2 x3 x4 x5 x6 x7) (h8:P8 x0 x1 x2 x3 x4 x5 x6 x7):F7 P0 P1 P2 P3 P4 P5 P6 P7 P8
inductive F8{α0 α1 α2 α3 α4 α5 α6 α7 α8:Sort _}(P0 P1 P2:α0->α1->α2->α3->α4->α5->α6->α7->α8->Prop):Prop | mk (x0:α0) (x1:α1) (x2:α2) (x3:α3) (x4:α4) (x5:α5) (x6:α6) (x7:α7) (x8:α8) (h0:P0 x0 x1 x2 x3 x4 x5 x6 x7 x8) (h1:P1 x0 x1 x2 x3 x4 x5 x6 x7 x8) (h2:P2 x0 x1 x2 x3 x4 x5 x6 x7 x8):F8 P0 P1 P2
inductive F9{α0 α1 α2 α3 α4 α5 α6 α7 α8:Sort _}(P0 P1 P2 P3 P4 P5 P6 P7:α0->α1->α2->α3->α4->α5->α6->α7->α8->Prop):Prop | mk (x0:α0) (x1:α1) (x2:α2) (x3:α3) (x4:α4) (x5:α5) (x6:α6) (x7:α7) (x8:α8) (h0:P0 x0 x1 x2 x3 x4 x5 x6 x7 x8) (h1:P1 x0 x1 x2 x3 x4 x5 x6 x7 x8) (h2:P2 x0 x1 x2 x3 x4 x5 x6 x7 x8) (h3:P3 x0 x1 x2 x3 x4 x5 x6 x7 x8) (h4:P4 x0 x1 x2 x3 x4 x5 x6 x7 x8) (h5:P5 x0 x1 x2 x3 x4 x5 x6 x7 x8) (h6:P6 x0 x1 x2 x3 x4 x5 x6 x7 x8) (h7:P7 x0 x1 x2 x3 x4 x5 x6 x7 x8):F9 P0 P1 P2 P3 P4 P5 P6 P7
end
namespace L2
open PySem PySem.Spec PyProof.Rows List
abbrev Key:=Sum Int Str
def g8:Key->Value->Bool
 |.inl k,v=>Value.isInt k v
 |.inr x,v=>Value.isStrOf x v
def IQ(w:World):Key->Int
 |.inl k=>hashInt k
 |.inr x=>hashStr w x
theorem aL:∀{k:Key} {v:Value},g8 k v=true->(∃i t,k=Sum.inl i/\v=Value.int i t)\/(∃x t,k=Sum.inr x/\v=Value.str x t)
 |.inl i,v,h=>by
  let⟨t,e⟩:=Value.isInt_shape (k:=i) (v:=v) h;exact .inl ⟨i,t,rfl,e⟩
 |.inr x,v,h=>by
  let⟨t,e⟩:=OT (x:=x) (v:=v) h;exact .inr ⟨x,t,rfl,e⟩
theorem jq(i:Int)(t:Tok):g8 (.inl i) (.int i t)=true:=by simp[g8,Value.isInt]
theorem jr(x:Str)(t:Tok):g8 (.inr x) (.str x t)=true:=by simp[g8,Value.isStrOf]
theorem BW(a b:Int):decide ((Sum.inl a:Key)=Sum.inl b)=(a==b):=by
 by_cases e:a=b
 .subst e;simp
 .have h:¬(Sum.inl a:Key)=Sum.inl b:=λ q=>e (Sum.inl.inj q);rw[Nt h];exact(NQ.mpr e).symm
theorem BX(a b:Str):decide ((Sum.inr a:Key)=Sum.inr b)=decide (a=b):=by
 by_cases e:a=b
 .subst e;simp
 .have h:¬(Sum.inr a:Key)=Sum.inr b:=λ q=>e (Sum.inr.inj q);rw[Nt h,Nt e]
theorem BY(a:Int)(b:Str):decide ((Sum.inl a:Key)=Sum.inr b)=false:=Nt (λ q=>nomatch q)
theorem BZ(a:Str)(b:Int):decide ((Sum.inr a:Key)=Sum.inl b)=false:=Nt (λ q=>nomatch q)
def aB(prog:Program)(w:World):PySem.KeyKind prog w Key where
 is:=g8
 hash:=IQ w
 inj:=λ v a b ha f=>by
  rcases aL ha with⟨i,t,rfl,rfl⟩ | ⟨x,t,rfl,rfl⟩
  .rcases aL f with⟨j,u,rfl,e⟩ | ⟨y,u,rfl,e⟩
   .injection e with c _;rw[c]
   .exact nomatch e
  .rcases aL f with⟨j,u,rfl,e⟩ | ⟨y,u,rfl,e⟩
   .exact nomatch e
   .injection e with c _;rw[c]
 byValue:=λ k v h=>by
  rcases aL h with⟨i,t,rfl,rfl⟩ | ⟨x,t,rfl,rfl⟩<;>rfl
 pyHash:=λ d h=>by
  rcases aL d with⟨i,t,rfl,rfl⟩ | ⟨x,t,rfl,rfl⟩
  .exact wpAny_pyHash_int h
  .exact wpAny_pyHash_str h
 eqBool:=λ g d h=>by
  rcases aL g with⟨i,t,rfl,rfl⟩ | ⟨x,t,rfl,rfl⟩
  .rcases aL d with⟨j,u,rfl,rfl⟩ | ⟨y,u,rfl,rfl⟩
   .rw[BW] at h;exact wpAny_eqBool_int h
   .rw[BY] at h;exact SeqAt.EqAt.int_str i t y u _ _ _ _ h
  .rcases aL d with⟨j,u,rfl,rfl⟩ | ⟨y,u,rfl,rfl⟩
   .rw[BZ] at h;exact SeqAt.EqAt.str_int x t j u _ _ _ _ h
   .rw[BX] at h;exact wpAny_eqBool_str h
 «strs»:=λ k x t v h=>by
  rcases aL h with⟨i,u,rfl,e⟩ | ⟨y,u,rfl,e⟩
  .exact nomatch e
  .injection e with c _
   subst c;cases v<;>rfl
theorem gw(prog:Program)(w:World)(i:Int)(t:Tok):(aB prog w).is (.inl i) (.int i t)=true:=jq i t
theorem gx(prog:Program)(w:World)(x:Str)(t:Tok):(aB prog w).is (.inr x) (.str x t)=true:=jr x t
variable{b:Addr}{h:Heap}
inductive V where
 |non | bl (b:Bool) | int (i:Int) | str (x:Str) | byt (b:Array UInt8) | flt (b:UInt64) | ref (a:Addr) | ty (n:String)
 deriving DecidableEq
def RelV:V->Value->Prop
 |.non,u=>u=Value.none
 |.bl b,u=>u=Value.bool b
 |.int i,u=>∃t,u=Value.int i t
 |.str x,u=>∃t,u=Value.str x t
 |.byt b,u=>∃t,u=Value.bytes b t
 |.flt b,u=>∃t,u=Value.float b t
 |.ref a,u=>u=Value.ref a
 |.ty n,u=>u=Value.type n
abbrev Vals:List V->List Value->Prop:=Paired RelV
theorem Vals.length{xs:List V}{us:List Value}(r:Vals xs us):xs.length=us.length:=Qd r
theorem Vals.get:∀{xs:List V} {us:List Value} {i:Nat} {x:V},Vals xs us->xs[i]?=some x->∃u,us[i]?=some u/\RelV x u
 |_,_,_,_,.nil,e=>by simp at e
 |_,_,0,_,.cons r _,e=>by simp at e;subst e;exact⟨_,rfl,r⟩
 |_,_,i+1,x,.cons _ t,e=>by
  let⟨u,c,a⟩:=Vals.get (i:=i) (x:=x) t (~~~e);exact⟨u,~~~c,a⟩
theorem Vals.set{x:V}{u:Value}(r:RelV x u):∀{xs:List V} {us:List Value} (i:Nat),Vals xs us->Vals (xs.set i x) (us.set i u)
 |_,_,_,.nil=>.nil
 |_,_,0,.cons _ t=>.cons r t
 |_,_,i+1,.cons q t=>.cons q (Vals.set r i t)
theorem Vals.append:∀{xs a:List V} {us ws:List Value},Vals xs us->Vals a ws->Vals (xs++a) (us++ws)
 |_,_,_,_,.nil,s=>s
 |_,_,_,_,.cons r t,s=>.cons r (Vals.append t s)
theorem Vals.take:∀{xs:List V} {us:List Value} (n:Nat),Vals xs us->Vals (xs.take n) (us.take n)
 |_,_,0,_=>.nil
 |_,_,_+1,.nil=>.nil
 |_,_,n+1,.cons r t=>.cons r (Vals.take n t)
theorem Vals.drop:∀{xs:List V} {us:List Value} (n:Nat),Vals xs us->Vals (xs.drop n) (us.drop n)
 |_,_,0,r=>r
 |_,_,_+1,.nil=>.nil
 |_,_,n+1,.cons _ t=>Vals.drop n t
def cC:Option V->Option Value->Prop
 |some v,some u=>RelV v u
 |none,none=>True
 |_,_=>False
def KV{a:Type}:List (a×V)->List (a×Value)->Prop:=Paired λ (p:a×V) (q:a×Value)=>p.1=q.1/\RelV p.2 q.2
def kV:Key->V
 |.inl i=>.int i
 |.inr x=>.str x
inductive HO where
 |lst (xs:List V)
 |tup (xs:List V)
 |dK (kvs:List (Key×V)) | dT (kvs:List (List Key×V))
 |set (S:Int->Bool) (n:Nat)
 |ins (C dx:Addr) (fs:List (Str×V))
 |own (x:Addr)
 |xd (fs:List (Str×V))
 |met (f x:Addr)
 |rng (lo hi:Int)
 |frz (o:Obj) (u:HO)
 |tbl (ps:Array Value)
 |ext (φ:Heap->Prop)
abbrev Hp:=Addr->Option HO
def upd(H:Hp)(a:Addr)(o:HO):Hp:=λ b=>if b=a then some o else H b
theorem aq{H:Hp}{a:Addr}{o:HO}:upd H a o a=some o:=by unfold upd;rw[MO rfl]
theorem ai{H:Hp}{a:Addr}{o:HO}(h:b≠a):upd H a o b=H b:=by unfold upd;rw[MN h]
theorem au{H:Hp}{a:Addr}{o:HO}(h:H a=some o)(h':H b=none):a≠b:=by
 intro e;subst e;rw[h] at h';cases h'
def jg(h:Heap)(a:Addr)(items:Array Value):Prop:=∃o,h.get? a=some o/\(o.cls=.type "tuple"/\o.dict=none)/\∃n,o.data=.seq items n
theorem jg.t{a:Addr}{items:Array Value}(x:jg h a items):IsTup h a items:=let ⟨o,e,c,d⟩:=x;⟨o,e,c.1,d⟩
theorem jg.lt{a:Addr}{items:Array Value}(x:jg h a items):a<h.objs.size:=x.t.lt
theorem jg.new(h:Heap)(items:Array Value):jg (h.push {cls:=.type "tuple",data:=.seq items}) h.objs.size items:=⟨_,MC _ rfl,⟨rfl,rfl⟩,_,rfl⟩
section
variable(P:Program)(w:World)
def aC(H:Hp)(h:Heap)(a:Addr):HO->Prop
 |.lst xs=>xs.length<=sizeLine/\∃(its:List Value) (n:Nat),Vals xs its/\h.get? a=some {cls:=.type "list",data:=.seq its.toArray n}
 |.tup xs=>xs.length<=sizeLine/\∃its:List Value,Vals xs its/\jg h a its.toArray
 |.dK c=>c.length<=sizeLine/\(a==sysModules)=false/\∃vs,KV c vs/\h.DictOf (aB P w) a vs
 |.dT c=>c.length<=sizeLine/\(a==sysModules)=false/\∃xs:List (List Key×Addr×Value),
   Paired (λ (p:List Key×V) (q:List Key×Addr×Value)=>p.1=q.1/\H q.2.1=some (.tup (p.1.map kV))/\RelV p.2 q.2.2) c xs/\
   ∃o es j,h.get? a=some o/\o.ExactDict/\o.data=.dict es j/\es.toList=xs.map (entryOfKey (tupleKind (aB P w)))/\(xs.map (·.1)).Nodup
 |.set S n=>h.SetOf (intKind P w) a S n
 |.ins C dx fs=>H dx=some (.own a)/\fs.length<=1000/\dx≠a/\h.get? a=some (PySem.W.instObj C dx)/\
   ∃d,h.Ns1 dx d/\(∀f,cC (fs.lookup f) (d f))/\PySem.Within d (fs.map (·.1))
 |.own _=>∃o,h.get? a=some o
 |.xd fs=>∃d,h.Ns1 a d/\∀f,cC (fs.lookup f) (d f)
 |.rng lo hi=>∃t u v,h.get? a=some {cls:=.type "range",data:=.fields #[.int lo t,.int hi u,.int 1 v]}
 |.frz o u=>h.get? a=some o/\aC H h a u
 |.tbl ps=>h.get? a=some {cls:=.none,data:=.fields ps}
 |.met f x=>h.get? a=@(PySem.W.methodObj (.ref f) (.ref x))
 |.ext e=>e h/\(∃o,h.get? a=some o)/\∀i g:Heap,e i->(∀o,i.get? a=some o->g.get? a=some o)->e g
def cZ(H:Hp)(h:Heap):Prop:=∀a o,H a=some o->aC P w H h a o
end
section
variable{P:Program}{w:World}{H H':Hp}{h h':Heap}{a:Addr}{o:HO}
theorem aC.lt(x:aC P w H h a o):a<h.objs.size:=by
 cases o with
 |lst xs=>let⟨_,_,_,_,e⟩:=x;exact Mx e
 |tup xs=>let⟨_,_,_,p⟩:=x;exact p.lt
 |dK c=>let⟨_,_,_,_,o,_,_,e,_⟩:=x;exact Mx e
 |dT c=>let⟨_,_,_,_,o,_,_,e,_⟩:=x;exact Mx e
 |set S n=>let⟨o,_,_,_,e,_⟩:=x;exact Mx e
 |ins C i fs=>let⟨_,_,_,e,_⟩:=x;exact Mx e
 |own y=>let⟨_,e⟩:=x;exact Mx e
 |xd fs=>let⟨_,⟨_,_,_,e,_⟩,_⟩:=x;exact Mx e
 |rng lo hi=>let⟨_,_,_,e⟩:=x;exact Mx e
 |frz g u=>let⟨e,_⟩:=x;exact Mx e
 |tbl ps=>exact Mx (show h.get? a=some _ from x)
 |met f y=>exact Mx (show h.get? a=some _ from x)
 |ext d=>let⟨_,⟨_,e⟩,_⟩:=x;exact Mx e
theorem Paired.B8{e J:Type}{F G:e->J->Prop}:∀{d:List e} {c:List J},Paired F d c->(∀a b,F a b->G a b)->Paired G d c
 |_,_,.nil,_=>.nil
 |_,_,.cons r t,f=>.cons (f _ _ r) (Paired.B8 t f)
theorem aC.stay(x:aC P w H h a o)(k:∀b u,(b=a\/H b=@(.own a))->h.get? b=some u->h'.get? b=some u)
  (ho:∀b,H b=some (.own a)->H' b=@(.own a)) (I:∀b xs,H b=some (.tup xs)->H' b=@(.tup xs)):aC P w H' h' a o:=by
 induction o with
 |lst xs=>let⟨z,l,n,r,e⟩:=x;exact⟨z,l,n,r,k _ _ (.inl rfl) e⟩
 |tup xs=>let⟨z,l,r,g,e,c,d⟩:=x;exact⟨z,l,r,g,k _ _ (.inl rfl) e,c,d⟩
 |dK A=>let⟨z,y,D,r,g,i,j,e,c⟩:=x;exact⟨z,y,D,r,g,i,j,k _ _ (.inl rfl) e,c⟩
 |dT A=>
  let⟨z,y,xs,r,g,i,j,e,c,M,L,K⟩:=x;exact⟨z,y,xs,Paired.B8 r λ p q z=>⟨z.1,I _ _ z.2.1,z.2.2⟩,g,i,j,k _ _ (.inl rfl) e,c,M,L,K⟩
 |set S n=>let⟨g,i,j,t,e,c⟩:=x;exact⟨g,i,j,t,k _ _ (.inl rfl) e,c⟩
 |ins C O fs=>
  let⟨d,z,F,e,s,⟨m,i,j,J,c⟩,r,E⟩:=x;exact⟨ho _ d,z,F,k _ _ (.inl rfl) e,s,⟨m,i,j,k _ _ (.inr d) J,c⟩,r,E⟩
 |own y=>let⟨g,e⟩:=x;exact⟨g,k _ _ (.inl rfl) e⟩
 |xd fs=>let⟨s,⟨m,i,j,e,c⟩,r⟩:=x;exact⟨s,⟨m,i,j,k _ _ (.inl rfl) e,c⟩,r⟩
 |rng lo hi=>let⟨t,u,v,e⟩:=x;exact⟨t,u,v,k _ _ (.inl rfl) e⟩
 |frz g u G=>let⟨e,q⟩:=x;exact⟨k _ _ (.inl rfl) e,G q⟩
 |tbl ps=>
  have e:h.get? a=some {cls:=.none,data:=.fields ps}:=x;show h'.get? a=some {cls:=.none,data:=.fields ps};exact k a _ (.inl rfl) e
 |met f y=>
  have e:h.get? a=some (PySem.W.methodObj (.ref f) (.ref y)):=x;show h'.get? a=@(PySem.W.methodObj (.ref f) (.ref y));exact k a _ (.inl rfl) e
 |ext N=>let⟨p,⟨o,e⟩,B⟩:=x;exact⟨B _ _ p λ o q=>k _ _ (.inl rfl) q,⟨o,k _ _ (.inl rfl) e⟩,B⟩
theorem cZ.lt(x:cZ P w H h)(e:H a=some o):a<h.objs.size:=(x a o e).lt
theorem cZ.fresh(x:cZ P w H h)(e:h.objs.size<=a):H a=none:=by
 cases q:H a with
 |none=>rfl
 |some u=>exact absurd (MG (x.lt q) e) (N3 _)
theorem cZ.kept(x:cZ P w H h)(k:∀b u,h.get? b=some u->h'.get? b=some u):cZ P w H h':=λ a o e=>
 (x a o e).stay (λ b u _ q=>k b u q) (λ _ q=>q) λ _ _ q=>q
theorem cZ.laid(x:cZ P w H h)(k:∀b u,h.get? b=some u->h'.get? b=some u)(i:h.objs.size<=a)(d:aC P w (upd H a o) h' a o):cZ P w (upd H a o) h':=λ b u e=>by
 have f:=x.fresh i
 by_cases g:b=a
 .subst g;rw[aq] at e;cases e;exact d
 .rw[ai g] at e;exact(x b u e).stay (λ c v _ q=>k c v q) (λ c q=>by rw[ai (au q f)];exact q) λ c j q=>by rw[ai (au q f)];exact q
end
def Rd(H:Hp)(a:Addr)(u:HO):Prop:=H a=some u\/∃o,H a=@(.frz o u)
theorem Rd.ok{P:Program}{w:World}{H:Hp}{a:Addr}{u:HO}(r:Rd H a u)(x:cZ P w H h):aC P w H h a u:=by
 rcases r with r | ⟨o,r⟩
 .exact x a u r
 .let⟨_,q⟩:=x a _ r;exact q
def Ga:Option HO->Prop
 |some (.lst _)=>True
 |some (.dK _)=>True
 |some (.dT _)=>True
 |some (.set _ _)=>True
 |some (.ins _ _ _)=>True
 |some (.ext _)=>True
 |_=>False
section
variable{P:Program}{w:World}{H:Hp}{h h':Heap}{x e:Addr}{o':HO}
theorem cZ.write(o:cZ P w H h)(f:Ga (H x))(m:e=x\/H e=@(.own x))(k:∀b u,b≠e->h.get? b=some u->h'.get? b=some u)(t:∃u,h'.get? e=some u)
  (j:aC P w (upd H x o') h' x o'):cZ P w (upd H x o') h':=λ b u q=>by
 have n:∀c y,H c=some (.own y)->c≠x:=λ c y r z=>by subst z;rw[r] at f;exact f
 have s:∀c d,H c=some (.tup d)->c≠x:=λ c d r z=>by subst z;rw[r] at f;exact f
 by_cases i:b=x
 .subst i;rw[aq] at q;cases q;exact j
 .rw[ai i] at q
  by_cases a:b=e
  .have l:H b=some (.own x):=by
    rcases m with z | z
    .exact absurd (a.trans z) i
    .rw[a];exact z
   rw[q] at l;cases l;let⟨v,p⟩:=t;exact⟨v,by rw[a];exact p⟩
  .refine(o b u q).stay (λ c v g r=>k c v ?_ r) (λ c r=>by rw[ai (n c b r)];exact r) λ c d r=>by rw[ai (s c d r)];exact r
   rcases g with rfl | g
   .exact a
   .rintro rfl;rcases m with z | z
    .exact n c b g z
    .rw[g] at z;cases z;exact i rfl
end
structure Un(fs ex:List Addr)(H H':Hp)(h h':Heap):Prop where
 keep:∀b o,h.get? b=some o->H b=none->b∉fs->b∉ex->h'.get? b=some o
 slot:∀b o,h.get? b=some o->H b=none->b∈fs->b∉ex->∃sl,h'.get? b=some {o with slots:=sl}
 free:∀b o,h.get? b=some o->H b=none->b∉ex->H' b=none
 there:∀b o,h.get? b=some o->b∉ex->∃o',h'.get? b=some o'
 tups:∀b xs,H b=some (.tup xs)->H' b=@(.tup xs)
 dM:∀b o u,H b=some (.frz o u)->H' b=@(.frz o u)
 eN:∀b ps,H b=some (.tbl ps)->∃more,H' b=@(.tbl (ps++more))
section
variable{fs fs' ex ex':List Addr}{H H1 H2:Hp}{h h1 h2 h':Heap}{a x e:Addr}{o:HO}
theorem Un.any(u:Un fs ex H H1 h h1){c:Obj}(q:h.get? b=some c)(n:H b=none)(d:b∉ex):∃g,h1.get? b=some {c with slots:=g}:=by
 by_cases f:b∈fs
 .exact u.slot b c q n f d
 .exact⟨c.slots,u.keep b c q n f d⟩
theorem Un.kept(k:∀b u,h.get? b=some u->h'.get? b=some u):Un fs ex H H h h':=
 ⟨λ b c q _ _ _=>k b c q,λ b c q _ _ _=>⟨c.slots,k b c q⟩,λ _ _ _ n _=>n,λ b c q _=>⟨c,k b c q⟩,λ _ _ q=>q,λ _ _ _ q=>q,λ _ d q=>⟨#[],by rw[q];simp⟩⟩
theorem Un.refl:Un fs ex H H h h:=Un.kept λ _ _ q=>q
theorem Un.laid(k:∀b u,h.get? b=some u->h'.get? b=some u)(c:h.objs.size<=a)(hn:H a=none):Un fs ex H (upd H a o) h h' where
 keep:=λ b u q _ _ _=>k b u q
 slot:=λ b u q _ _ _=>⟨u.slots,k b u q⟩
 free:=λ b u q n _=>by rw[ai (MD (MG (Mx q) c))];exact n
 there:=λ b u q _=>⟨u,k b u q⟩
 tups:=λ b xs q=>by rw[ai (au q hn)];exact q
 dM:=λ b u xs q=>by rw[ai (au q hn)];exact q
 eN:=λ b ps q=>⟨#[],by rw[ai (au q hn),q];simp⟩
theorem Un.write(d:Ga (H x))(m:e=x\/H e=@(.own x))(k:∀b u,b≠e->h.get? b=some u->h'.get? b=some u)(p:∃u,h'.get? e=some u):Un fs ex H (upd H x o) h h':=by
 have g:∀b,H b=none->b≠x:=λ b n z=>by subst z;rw[n] at d;exact d
 have i:∀b,H b=none->b≠e:=λ b n z=>by
  subst z;rcases m with r | r
  .exact g b n r
  .rw[n] at r;cases r
 have f:∀b u,H b=some u->¬Ga (some u)->b≠x:=λ b u q l z=>by subst z;rw[q] at d;exact l d
 refine⟨λ b u q n _ _=>k b u (i b n) q,λ b u q n _ _=>⟨u.slots,k b u (i b n) q⟩,λ b u q n _=>by rw[ai (g b n)];exact n,λ b u q _=>?_,
  λ b j q=>by rw[ai (f b _ q λ z=>z)];exact q,λ b u j q=>by rw[ai (f b _ q λ z=>z)];exact q,λ b s q=>⟨#[],by rw[ai (f b _ q λ z=>z),q];simp⟩⟩
 by_cases c:b=e
 .subst c;exact p
 .exact⟨u,k b u c q⟩
end
def Io(h:Heap)(H:Hp):List Addr:=(List.range h.objs.size).filter λ a=>(H a).isSome
def kc(h:Heap)(H:Hp):Heap:=PySem.W.hideAll h (Io h H)
theorem rR(h:Heap)(H:Hp):(kc h H).objs.size=h.objs.size:=PySem.W.hideAll_size _ _
theorem t9{H:Hp}{o:Obj}(e:h.get? b=some o)(n:H b=none):(kc h H).get? b=some o:=
 PySem.W.hideAll_get _ e λ a=>by
  have q:(H b).isSome=true:=(OO.mp a).2;rw[n] at q;simp at q
theorem yf{H:Hp}{o:Obj}(e:(kc h H).get? b=some o):h.get? b=some o/\H b=none:=by
 have a:h.get? b=some o:=PySem.W.of_hideAll (Io h H) e;refine⟨a,?_⟩;cases q:H b with
 |none=>rfl
 |some x=>
  have c:b∈Io h H:=OO.mpr ⟨List.mem_range.mpr (Mx a),by simp[q]⟩;have z:(kc h H).get? b=none:=PySem.W.hideAll_none (Io h H) c;rw[z] at e;cases e
end L2
namespace L2
open PySem PySem.Spec PyProof.Rows List
variable{M:Model}{ch:List Addr}{i t':Nat}
structure Mod(K:ae)(mg:Str->Option Value)(base:Heap):Prop where
 kin:K.In base
 glob:base.Ns mainGlobals mg
 blt:∃mb,base.Ns builtinsNs mb/\∀x:Str,x≠"__name__"->mb x=bootBuiltins x
 nolimit:base.NoLimit
set_option genInjectivity false in
structure Cx where
 prog:Program
 w:World
 K:ae
 mg:Str->Option Value
 base:Heap
 A:Around
 N:List Str
 s₀:Shared
 H₀:Hp
 env:Env
 outer:List Env
 stack:List Env
 ex:List Addr
 fn:Str->Bool
 calm:Bool
 pn:List (Addr×Obj)
 xe:Value->Shared->Prop
def frs(l:List Env):List Addr:=l.filterMap (·.frame)
abbrev Cx.fs(X:Cx):List Addr:=frs X.outer
def yg(a:Scope)(x:Str):Prop:=a.names.lookup x=some .local\/a.names.lookup x=some .cell\/a.names.lookup x=some .free
def Loc(a:Scope)(x:Str):Prop:=a.names.lookup x=some .local\/a.names.lookup x=some .cell
def Look(env:Env)(h:Heap)(m:Str->Option Value)(x:Str)(u:Value):Prop:=
 (env.kindOf x=some .local/\m x=some u)\/((env.kindOf x=some .cell\/env.kindOf x=some .free)/\∃c,env.cells.lookup x=some c/\h.IsCell c (some u))
structure Cx.Ok(X:Cx):Prop where
 mod:Mod X.K X.mg X.base
 kind:X.env.scope.kind=.function
 glob:X.env.globals=mainGlobals
 blt:X.env.builtins=builtinsNs
 above:X.s₀⁻¹<=X.env.locals
 inj:∀x y c,X.env.cells.lookup x=some c->X.env.cells.lookup y=some c->x=y
 has:∀x,(X.env.kindOf x=some .cell\/X.env.kindOf x=some .free)->∃c,X.env.cells.lookup x=some c
 cab:∀x c,X.fn x=true->X.env.cells.lookup x=some c->X.s₀⁻¹<=c
 hd:X.calm=true->X.A.handled=none
 frames:X.A.frames=some X.stack
 stk:X.stack=X.outer\/(X.stack=X.env::X.outer/\X.env.frame=some X.env.locals)
 exf:∀b∈X.ex,b≠X.env.locals/\∀x c,X.env.cells.lookup x=some c->c≠b
 bs:∀b o,X.base.get? b=some o->X.s₀.heap.get? b=some o/\X.H₀ b=none
 bsz:X.base.objs.size<=X.s₀⁻¹
 noex:∀b o,X.base.get? b=some o->b∉X.ex
 exfs:∀b∈X.ex,b∉X.fs
 eX:X.s₀.heap.FunFrames X.base X.outer
 frf:∀b∈X.fs,X.H₀ b=none
structure Inv(X:Cx)(aa:List (Addr×Obj))(Y:List (Option V))(H:Hp)(s:Shared):Prop where
 ok:X.Ok
 os:s.os=X.s₀.os
 bare:AllBare s.gens
 base:Un X.fs X.ex X.H₀ H X.s₀.heap s.heap
 loc:∃m,s.heap.Ns X.env.locals m/\∀(i:Nat) (x:Str) (v:V),X.N[i]?=some x->Y[i]?=some (some v)->yg X.env.scope x->∃u,RelV v u/\Look X.env s.heap m x u
 cell:∀x c,X.env.cells.lookup x=some c->∃v,s.heap.IsCell c v
 free:H X.env.locals=none
 freeC:∀x c,X.env.cells.lookup x=some c->H c=none
 pin:∀p∈X.pn++aa,s.heap.get? p.1=some p.2/\H p.1=none/\p.1≠X.env.locals/\p.1∉X.fs/\∀v,p.2.data≠.cell v
 hok:cZ X.prog X.w H s.heap
 len:Y.length=X.N.length
section
variable{X:Cx}{aa:List (Addr×Obj)}{Y:List (Option V)}{H H':Hp}{s:Shared}{h':Heap}
theorem Cx.Ok.ua(a:X.Ok){b:Addr}{o:Obj}(e:X.base.get? b=some o):b∉X.fs:=λ c=>by
 have:=(a.eX.mem c).1;rw[e] at this;cases this
theorem Inv.bs(I:Inv X aa Y H s):∀b o,X.base.get? b=some o->s.heap.get? b=some o/\H b=none:=λ b o e=>
 ⟨I.base.keep b o (I.ok.bs b o e).1 (I.ok.bs b o e).2 (I.ok.ua e) (I.ok.noex b o e),I.base.free b o (I.ok.bs b o e).1 (I.ok.bs b o e).2 (I.ok.noex b o e)⟩
theorem Inv.bk(I:Inv X aa Y H s):∀b o,X.base.get? b=some o->s.heap.get? b=some o:=λ b o e=>(I.bs b o e).1
theorem Inv.mod(I:Inv X aa Y H s):Mod X.K X.mg X.base:=I.ok.mod
theorem Inv.bA(I:Inv X aa Y H s):X.K.In s.heap:=I.ok.mod.kin.keeps I.bk
theorem Inv.fr(I:Inv X aa Y H s):∃m,Fr X.base X.env.locals s.heap m:=
 let ⟨m,a,_⟩:=I.loc
 ⟨m,a,I.bk,MQ I.ok.bsz I.ok.above⟩
theorem Inv.lt(I:Inv X aa Y H s):X.env.locals<s⁻¹:=let ⟨_,a,_⟩:=I.loc;a.lt
theorem Inv.sz(I:Inv X aa Y H s):X.s₀⁻¹<=s⁻¹:=MQ I.ok.above (Pq I.lt)
theorem Inv.IU(I:Inv X aa Y H s){a:Addr}(h:s⁻¹<=a):a∉X.fs:=λ c=>by
 let⟨_,o,b,_⟩:=I.ok.eX.mem c;exact absurd (MG (Mx b) (MQ I.sz h)) (N3 _)
theorem Inv.uc(I:Inv X aa Y H s):∀x c,X.env.cells.lookup x=some c->c≠X.env.locals:=λ x c e z=>by
 let⟨v,o,d,f⟩:=I.cell x c e;let⟨m,⟨g,h,j,a,b,_⟩,_⟩:=I.loc;rw[z,a] at d;cases d;rw[b] at f;cases f
theorem Inv.eX(I:Inv X aa Y H s):s.heap.FunFrames X.base X.outer:=by
 have f:∀(l:List Env),(∀b∈frs l,b∈X.fs)->X.s₀.heap.FunFrames X.base l->s.heap.FunFrames X.base l:=by
  intro l
  induction l with
  |nil=>intro _ _;trivial
  |cons env r h=>
   intro g n;let⟨p,⟨L,o,a,m,k,q⟩,j⟩:=n;have d:L∈X.fs:=g L (by unfold frs;rw[OY,a];exact Nc);let⟨t,e⟩:=I.base.slot L o k (I.ok.frf L d) d λ z=>I.ok.exfs L z d;exact⟨p,⟨L,_,a,m,e,q⟩,h (λ b c=>g b (by unfold frs;rw[OY,a];exact MP _ c)) j⟩
 exact f X.outer (λ _ c=>c) I.ok.eX
theorem Inv.stack(I:Inv X aa Y H s):s.heap.FunFrames X.base X.stack:=by
 rcases I.ok.stk with e | ⟨e,hf⟩
 .rw[e];exact I.eX
 .rw[e];let⟨m,a,_⟩:=I.loc;refine .cons (by rw[I.ok.kind];decide) hf a ?_ I.eX;exact Heap.get?_none_of_le (MQ I.ok.bsz I.ok.above)
theorem Inv.fS(I:Inv X aa Y H s):∀b∈frs X.stack,b∈X.env.locals::X.fs:=λ b a=>by
 rcases I.ok.stk with e | ⟨e,hf⟩
 .rw[e] at a;exact MP _ a
 .rw[e] at a;unfold frs at a;rw[OY,hf] at a;exact a
theorem Inv.gW(I:Inv X aa Y H s):∀b∈frs X.stack,H b=none:=λ b a=>by
 rcases MJ.mp (I.fS b a) with e | a
 .rw[e];exact I.free
 .let⟨_,o,c,_⟩:=I.ok.eX.mem a;exact I.base.free b o c (I.ok.frf b a) λ z=>I.ok.exfs b z a
theorem Inv.step{g':Array GenState}{d':Drawn}(I:Inv X aa Y H s)
  (h:∀b∈ch,(b∈X.ex\/X.s₀⁻¹<=b)/\b≠X.env.locals/\(∀x c,X.env.cells.lookup x=some c->c≠b)/\∀p∈X.pn++aa,p.1≠b)
  (g:∀b o,b≠X.env.locals->b∉X.fs->b∉ch->s.heap.get? b=some o->H b=none->h'.get? b=some o)
  (A:∀b o,b≠X.env.locals->b∈X.fs->b∉ch->s.heap.get? b=some o->H b=none->∃P,h'.get? b=some {o with slots:=P}) (f:∀b o,b∉ch->s.heap.get? b=some o->H b=none->H' b=none)
  (B:∀b o,b∉ch->s.heap.get? b=some o->∃F,h'.get? b=some F)
  (E:∀b y,H b=some (.tup y)->H' b=@(.tup y)) (dM:∀b o u,H b=some (.frz o u)->H' b=@(.frz o u)) (eN:∀b L,H b=some (.tbl L)->∃G,H' b=@(.tbl (L++G)))
  (ns:∀m,s.heap.Ns X.env.locals m->h'.Ns X.env.locals m) (Q:cZ X.prog X.w H' h') (hg:AllBare g') :
  Inv X aa Y H' {s with heap:=h',gens:=g',drawn:=d',toks:=t'}:=by
 have Z:∀b o,X.s₀.heap.get? b=some o->b≠X.env.locals:=λ b o e=>MD (MG (Mx e) I.ok.above);have N:∀b o,X.s₀.heap.get? b=some o->b∉X.ex->b∉ch:=λ b o e a C=>by
  rcases (h b C).1 with z | z
  .exact a z
  .exact absurd (MG (Mx e) z) (N3 _)
 have j:∀x c,X.env.cells.lookup x=some c->∀v,s.heap.IsCell c v->h'.IsCell c v:=λ x c e v ⟨o,D,R⟩=>by
  have K:c∉ch:=λ z=>(h c z).2.2.1 x c e rfl
  by_cases W:c∈X.fs
  .let⟨P,q⟩:=A c o (I.uc x c e) W K D (I.freeC x c e);exact⟨_,q,R⟩
  .exact⟨o,g c o (I.uc x c e) W K D (I.freeC x c e),R⟩
 refine⟨I.ok,I.os,hg,⟨λ b o e n C a=>?_,λ b o e n C a=>?_,λ b o e n a=>?_,λ b o e a=>?_,λ b y e=>E b y (I.base.tups b y e),λ b o y e=>dM b o y (I.base.dM b o y e),λ b L e=>?_⟩,?_,λ x c e=>?_,?_,λ x c e=>?_,λ p U=>?_,Q,I.len⟩
 .exact g b o (Z b o e) C (N b o e a) (I.base.keep b o e n C a) (I.base.free b o e n a)
 .let⟨P,t⟩:=I.base.slot b o e n C a;let⟨O,J⟩:=A b _ (Z b o e) C (N b o e a) t (I.base.free b o e n a);exact⟨O,J⟩
 .let⟨F,t⟩:=I.base.there b o e a;exact f b F (N b o e a) t (I.base.free b o e n a)
 .let⟨F,t⟩:=I.base.there b o e a;exact B b F (N b o e a) t
 .let⟨m1,t⟩:=I.base.eN b L e;let⟨m2,J⟩:=eN b _ t;exact⟨m1++m2,by rw[J,Array.append_assoc]⟩
 .let⟨m,hn,hl⟩:=I.loc;refine⟨m,ns m hn,λ i x v t J e3=>?_⟩;let⟨u,r,l⟩:=hl i x v t J e3;refine⟨u,r,?_⟩;rcases l with l | ⟨k,c,e,z⟩
  .exact .inl l
  .exact .inr ⟨k,c,e,j x c e _ z⟩
 .let⟨v,z⟩:=I.cell x c e;exact⟨v,j x c e v z⟩
 .let⟨m,⟨o,_,_,D,_⟩,_⟩:=I.loc;exact f _ o (λ z=>(h _ z).2.1 rfl) D I.free
 .let⟨v,o,D,R⟩:=I.cell x c e;exact f c o (λ z=>(h c z).2.2.1 x c e rfl) D (I.freeC x c e)
 .let⟨e,n,T,S,d⟩:=I.pin p U;have K:p.1∉ch:=λ z=>(h p.1 z).2.2.2 p U rfl;exact⟨g p.1 p.2 T S K e n,f p.1 p.2 K e n,T,S,d⟩
theorem Inv.un(I:Inv X aa Y H s)(u:Un X.fs [] H H' s.heap h')(c:cZ X.prog X.w H' h'):Inv X aa Y H' {s with heap:=h',toks:=t'}:=by
 let⟨m,⟨o,v,x,h,r⟩,_⟩:=id I.loc;let⟨p,l⟩:=u.any h I.free 's';exact I.step (g':=s.gens) (d':=s.drawn) (ch:=[]) (λ _ z=>nomatch z) (λ b o _ d _ e n=>u.keep b o e n d 's') (λ b o _ d _ e n=>u.slot b o e n d 's') (λ b o _ e n=>u.free b o e n 's') (λ b o _ e=>u.there b o e 's') u.tups u.dM u.eN (λ t k=>by
  let⟨q,f,g,a,j⟩:=k;rw[h] at a;cases a;exact⟨_,f,g,l,j⟩) c I.bare
theorem Inv.call{g':Array GenState}{d':Drawn}(I:Inv X aa Y H s)(u:Un (frs X.stack) ch H H' s.heap h')(g:cZ X.prog X.w H' h')(v:AllBare g')
  (f:∀b∈ch,(b∈X.ex\/X.s₀⁻¹<=b)/\b≠X.env.locals/\(∀x c,X.env.cells.lookup x=some c->c≠b)/\∀p∈X.pn++aa,p.1≠b) :
  Inv X aa Y H' {s with heap:=h',gens:=g',drawn:=d',toks:=t'}:=by
 let⟨m,⟨o,D,E,l,r⟩,_⟩:=id I.loc;let⟨A,h⟩:=u.any l I.free λ z=>(f _ z).2.1 rfl;exact I.step (ch:=ch) f (λ b o h y a e n=>u.keep b o e n (λ z=>(MJ.mp (I.fS b z)).elim h y) a) (λ b o _ _ a e n=>u.any e n a) (λ b o a e n=>u.free b o e n a) (λ b o a e=>u.there b o e a) u.tups u.dM u.eN (λ C t=>by
  let⟨B,j,k,d,q⟩:=t;rw[l] at d;cases d;exact⟨_,j,k,h,q⟩) g v
theorem Inv.turned{it:Addr}(I:Inv X aa Y H s)(k:∀b o,b≠it->s.heap.get? b=some o->h'.get? b=some o)(h:H it=none)(d:it≠X.env.locals)
  (y:it∈X.ex\/X.s₀⁻¹<=it) (w:∀x c,X.env.cells.lookup x=some c->c≠it) (t:∀p∈X.pn++aa,p.1≠it):Inv X aa Y H {s with heap:=h',toks:=t'}:=by
 have f:∀b u,H b=some u->b≠it:=λ b u e z=>by rw[z,h] at e;cases e
 refine I.step (g':=s.gens) (d':=s.drawn) (ch:=[it]) (λ b l=>?_) (λ b o _ _ a e _=>k b o (λ z=>a (by simp[z])) e) (λ b o _ _ a e _=>⟨o.slots,k b o (λ z=>a (by simp[z])) e⟩) (λ _ _ _ _ n=>n)
  (λ b o a e=>⟨o,k b o (λ z=>a (by simp[z])) e⟩) (λ _ _ e=>e) (λ _ _ _ e=>e) (λ b C e=>⟨#[],by rw[e];simp⟩) (λ m j=>?_) (λ b u e=>?_) I.bare
 .have e:b=it:=by simpa using l
  subst e;exact⟨y,d,w,t⟩
 .let⟨o,A,B,g,r⟩:=j;exact⟨o,A,B,k _ o (Ne.symm d) g,r⟩
 .refine(I.hok b u e).stay (λ c v a q=>k c v ?_ q) (λ _ q=>q) λ _ _ q=>q;rcases a with z | z
  .rw[z];exact f b u e
  .exact f c _ z
theorem Inv.tok(I:Inv X aa Y H s)(t:Nat):Inv X aa Y H {s with toks:=t}:=I.un (h':=s.heap) (t':=t) Un.refl I.hok
theorem Inv.kept(I:Inv X aa Y H s)(k:∀b u,s.heap.get? b=some u->h'.get? b=some u):Inv X aa Y H {s with heap:=h',toks:=t'}:=I.un (Un.kept k) (I.hok.kept k)
theorem Inv.laid{a:Addr}{o:HO}(I:Inv X aa Y H s)(k:∀b u,s.heap.get? b=some u->h'.get? b=some u)(d:s⁻¹<=a)(c:aC X.prog X.w (upd H a o) h' a o) :
  Inv X aa Y (upd H a o) {s with heap:=h',toks:=t'}:=I.un (Un.laid k d (I.hok.fresh d)) (I.hok.laid k d c)
theorem Inv.write{x e:Addr}{o:HO}(I:Inv X aa Y H s)(c:Ga (H x))(d:e=x\/H e=@(.own x))(k:∀b u,b≠e->s.heap.get? b=some u->h'.get? b=some u)(f:∃u,h'.get? e=some u)
  (a:aC X.prog X.w (upd H x o) h' x o):Inv X aa Y (upd H x o) {s with heap:=h',toks:=t'}:=I.un (Un.write c d k f) (I.hok.write c d k f a)
theorem Inv.pX{a:List (Addr×Obj)}(I:Inv X aa Y H s)(h:∀p∈a,s.heap.get? p.1=some p.2/\H p.1=none/\p.1≠X.env.locals/\p.1∉X.fs/\∀v,p.2.data≠.cell v):Inv X a Y H s:=
 ⟨I.ok,I.os,I.bare,I.base,I.loc,I.cell,I.free,I.freeC,λ p b=>(M7.mp b).elim (λ z=>I.pin p (NO _ z)) (h p),I.hok,I.len⟩
theorem ia{N:List Str}(c:N.Nodup){j:Nat}{x:Str}(a:N[i]?=some x)(b:N[j]?=some x):i=j:=by
 let⟨g,e⟩:=Mw.mp a;let⟨f,d⟩:=Mw.mp b;exact(PY c).mp (e.trans d.symm)
theorem jt{A:Around}{E:Value->Shared->Prop}{x:Str}{v:V}{u:Value}{Q:Unit->Shared->Prop}(I:Inv X aa Y H s)(hN:X.N.Nodup)(R:X.N[i]?=some x)(B:Loc X.env.scope x)(r:RelV v u)
  (h:∀s',Inv X aa (Y.set i (some v)) H s'->(∃a,Heap.SameBut a s.heap s'.heap/\(a=X.env.locals\/X.env.cells.lookup x=some a))->Q () s') (hf:X.fn x=true\/X.env.scope.names.lookup x=some .local:=by first | exact .inl rfl | exact .inr rfl | assumption):wpAny M A (storeName X.env x u) Q E s:=by
 let⟨m,hn,hl⟩:=id I.loc;have S:(X.env.scope.kind==.class||(X.env.scope.kind==.module&&X.env.locals != X.env.globals))=false:=by rw[I.ok.kind];rfl
 have P:i<Y.length:=by rw[I.len];exact(Mw.mp R).1
 have uc:=I.uc;have g:∀{a:Addr} {h':Heap},(∃o,s.heap.get? a=some o/\H a=none)->Heap.SameBut a s.heap h'->cZ X.prog X.w H h':=λ {a h'} ha f b ob e=>by
  let⟨_,_,C⟩:=ha;refine(I.hok b ob e).stay (λ c W t q=>(f.2 c ?_).trans q) (λ _ q=>q) λ _ _ q=>q;rintro rfl;rcases t with rfl | t
  .rw[C] at e;cases e
  .rw[C] at t;cases t
 rcases B with F | F
 .refine wpAny_storeName_local F hn (λ h' hn' f=>?_) S;let⟨oL,_,_,hoL,_⟩:=id hn;refine h _ ⟨I.ok,I.os,I.bare,⟨λ b o e n K B=>?_,λ b o e n K B=>?_,I.base.free,λ b o e B=>?_,I.base.tups,I.base.dM,I.base.eN⟩,⟨_,hn',λ j y v' l D e3=>?_⟩,λ y c e=>?_,I.free,I.freeC,λ p hp=>?_,g ⟨oL,hoL,I.free⟩ f,~~~I.len⟩ ⟨_,f,.inl rfl⟩
  .exact(f.2 b (MD (MG (Mx e) I.ok.above))).trans (I.base.keep b o e n K B)
  .let⟨sl,l⟩:=I.base.slot b o e n K B;exact⟨sl,(f.2 b (MD (MG (Mx e) I.ok.above))).trans l⟩
  .let⟨o',l⟩:=I.base.there b o e B;exact⟨o',(f.2 b (MD (MG (Mx e) I.ok.above))).trans l⟩
  .by_cases G:j=i
   .subst G;rw[R] at l;cases l;rw[Nd P] at D;cases D;exact⟨u,r,.inl ⟨F,by simp⟩⟩
   .rw[Na (Ne.symm G)] at D;let⟨u',r',q⟩:=hl j y v' l D e3;refine⟨u',r',?_⟩;rcases q with⟨k,e⟩ | ⟨k,c,e,z⟩
    .refine .inl ⟨k,?_⟩;have:y≠x:=λ e=>G (ia hN l (e▸R));simp[this,e]
    .exact .inr ⟨k,c,e,z.sameBut f (uc y c e)⟩
  .let⟨W,z⟩:=I.cell y c e;exact⟨W,z.sameBut f (uc y c e)⟩
  .let⟨e,n,Z,nf,d⟩:=I.pin p hp;exact⟨(f.2 p.1 Z).trans e,n,Z,nf,d⟩
 .have J:X.fn x=true:=by
   rcases hf with z | z
   .exact z
   .rw[z] at F;cases F
  let⟨c,t⟩:=I.ok.has x (.inl F);let⟨W,z⟩:=I.cell x c t;refine wpAny_storeName_cell I.ok.kind F t z (λ h' U f=>?_);let⟨oc,O,L⟩:=id z;refine h {s with heap:=h'} ⟨I.ok,I.os,I.bare,⟨λ b o e n K B=>?_,λ b o e n K B=>?_,I.base.free,λ b o e B=>?_,I.base.tups,I.base.dM,I.base.eN⟩,⟨m,hn.sameBut f (Ne.symm (uc x c t)),λ j y v' l D e3=>?_⟩,λ y c' e=>?_,I.free,I.freeC,λ p hp=>?_,g ⟨oc,O,I.freeC x c t⟩ f,~~~I.len⟩ ⟨c,f,.inr t⟩
  .exact(f.2 b (MD (MG (Mx e) (I.ok.cab x c J t)))).trans (I.base.keep b o e n K B)
  .let⟨sl,l⟩:=I.base.slot b o e n K B;exact⟨sl,(f.2 b (MD (MG (Mx e) (I.ok.cab x c J t)))).trans l⟩
  .let⟨o',l⟩:=I.base.there b o e B;exact⟨o',(f.2 b (MD (MG (Mx e) (I.ok.cab x c J t)))).trans l⟩
  .by_cases G:j=i
   .subst G;rw[R] at l;cases l;rw[Nd P] at D;cases D;exact⟨u,r,.inr ⟨.inl F,c,t,U⟩⟩
   .rw[Na (Ne.symm G)] at D;let⟨u',r',q⟩:=hl j y v' l D e3;refine⟨u',r',?_⟩;rcases q with q | ⟨k,c',e,z'⟩
    .exact .inl q
    .refine .inr ⟨k,c',e,z'.sameBut f ?_⟩;rintro rfl;exact G (ia hN l (I.ok.inj _ _ _ e t▸R))
  .by_cases T:c'=c
   .subst T;exact⟨_,U⟩
   .let⟨w2,z2⟩:=I.cell y c' e;exact⟨w2,z2.sameBut f T⟩
  .let⟨e,n,Z,nf,d⟩:=I.pin p hp;refine⟨(f.2 p.1 ?_).trans e,n,Z,nf,d⟩;intro q;rw[q,O] at e;have q':oc=p.2:=M0 e;exact d W (by rw[<-q'];exact L)
theorem cP{A:Around}{E:Value->Shared->Prop}{x:Str}{v:V}{u:Value}{Q:Unit->Shared->Prop}(I:Inv X aa Y H s)(e:X.N.Nodup)(c:X.N[i]?=some x)(b:Loc X.env.scope x)(r:RelV v u)
  (h:∀a,Inv X aa (Y.set i (some v)) H a->Q () a) (d:X.fn x=true\/X.env.scope.names.lookup x=some .local:=by first | exact .inl rfl | exact .inr rfl | assumption):wpAny M A (storeName X.env x u) Q E s:=
 jt I e c b r (λ a f _=>h a f) d
theorem Inv.AF{a:Shared}(I:Inv X aa Y H s)(ho:a.os=s.os)(u:Un (frs X.stack) ch H H' s.heap a.heap)(d:cZ X.prog X.w H' a.heap)(h:AllBare a.gens)
  (f:∀b∈ch,(b∈X.ex\/X.s₀⁻¹<=b)/\b≠X.env.locals/\(∀x c,X.env.cells.lookup x=some c->c≠b)/\∀p∈X.pn++aa,p.1≠b):Inv X aa Y H' a:=by
 let⟨h',g',d',t',g⟩:=a;have e:g=s.os:=ho;subst e;exact I.call (g':=g') (t':=t') (d':=d') u d h f
end
abbrev XK:=Value->Option Addr->Hp->Prop
abbrev St:=List (Option V)
abbrev VK:=V->Hp->Prop
abbrev TE:=St->Hp->VK->Prop
abbrev TT:=St->Hp->(Bool->Hp->Prop)->Prop
abbrev TA:=St->Hp->(List V->Hp->Prop)->Prop
set_option genInjectivity false in
structure Ends where
 nx:St->Hp->Prop
 rt:VK
 bk:St->Hp->Prop:=λ _ _=>False
 ct:St->Hp->Prop:=λ _ _=>False
abbrev TS:=Ends->St->Hp->Prop
def EP(X:Cx)(c:List (Addr×Obj))(Y:St)(Q:VK)(u:Value)(b:Shared):Prop:=∃v a,Inv X c Y a b/\RelV v u/\Q v a
def TP(X:Cx)(d:List (Addr×Obj))(Y:St)(Q:Bool->Hp->Prop)(b:Bool)(c:Shared):Prop:=∃a,Inv X d Y a c/\Q b a
def AP(X:Cx)(d:List (Addr×Obj))(Y:St)(Q:List V->Hp->Prop)(us:List Value)(c:Shared):Prop:=∃a b,Inv X d Y b c/\Vals a us/\Q a b
def SP(X:Cx)(d:List (Addr×Obj))(D:Ends)(f:Flow)(c:Shared):Prop:=
 match f with
 |.next=>∃a b,Inv X d a b c/\D.nx a b
 |.brk=>∃a b,Inv X d a b c/\D.bk a b
 |.cont=>∃a b,Inv X d a b c/\D.ct a b
 |.ret u=>∃v a b,Inv X d a b c/\RelV v u/\D.rt v b
def PE(X:Cx)(e:Expr)(t:TE):Prop:=
 ∀(a:List (Addr×Obj)) (s:Shared) (Y:St) (H:Hp) (Q:VK),Inv X a Y H s->t Y H Q->wpAny (model X.prog X.w) X.A (eval e X.env) (EP X a Y Q) X.xe s
def PT(X:Cx)(e:Expr)(t:TT):Prop:=
 ∀(a:List (Addr×Obj)) (s:Shared) (Y:St) (H:Hp) (Q:Bool->Hp->Prop),Inv X a Y H s->t Y H Q->wpAny (model X.prog X.w) X.A (isTrue e X.env (eval e X.env)) (TP X a Y Q) X.xe s
def PW(X:Cx)(e:Expr)(t:TT):Prop:=
 ∀(a:Sem Value) (b:List (Addr×Obj)) (s:Shared) (Y:St) (H:Hp) (Q:Bool->Hp->Prop),Inv X b Y H s->t Y H Q->wpAny (model X.prog X.w) X.A (isTrue e X.env a) (TP X b Y Q) X.xe s
theorem PW.pt{X:Cx}{e:Expr}{t:TT}(h:PW X e t):PT X e t:=h _
def PA(X:Cx)(es:List Expr)(t:TA):Prop:=
 ∀(a:Pos) (b:List (Addr×Obj)) (s:Shared) (Y:St) (H:Hp) (Q:List V->Hp->Prop),Inv X b Y H s->t Y H Q->wpAny (model X.prog X.w) X.A (spliced (backTo a (starEach es X.env))) (AP X b Y Q) X.xe s
def PS(X:Cx)(st:Stmt)(t:TS):Prop:=
 ∀(a:List (Addr×Obj)) (s:Shared) (Y:St) (H:Hp) (D:Ends),Inv X a Y H s->t D Y H->wpAny (model X.prog X.w) X.A (exec st X.env) (SP X a D) X.xe s
def dO(X:Cx)(st:List Stmt)(t:TS):Prop:=
 ∀(a:List (Addr×Obj)) (s:Shared) (Y:St) (H:Hp) (D:Ends),Inv X a Y H s->t D Y H->wpAny (model X.prog X.w) X.A (execs st X.env) (SP X a D) X.xe s
theorem aJ{b:Type}{t:Sem b}{Q Q':b->Shared->Prop}{A:Around}{E:Value->Shared->Prop}{s:Shared}(h:wpAny M A t Q E s)(c:∀a s,Q a s->Q' a s):wpAny M A t Q' E s:=MK h c λ _ _ x=>x
end L2
namespace L2
open PySem PySem.Spec PyProof.Rows List
variable{H:Hp}{aa:List (Addr×Obj)}{pos:Pos}{s:Shared}{Y:St}
section
variable{X:Cx}
theorem bin{a b:Expr}{k tb:TE}(t:PE X a k)(r:PE X b tb){R:V->V->Hp->Prop}(I:Inv X aa Y H s)(h:k Y H λ x i=>tb Y i λ y c=>R x y c)
  {j:Type} {Q:j->Shared->Prop} {f:Value->Value->Sem j}
  (q:∀v u g x y c,Inv X aa Y c g->RelV x v->RelV y u->R x y c->wpAny (model X.prog X.w) X.A (f v u) Q X.xe g) :
  wpAny (model X.prog X.w) X.A (eval a X.env) (λ v e=>wpAny (model X.prog X.w) X.A (eval b X.env) (λ u d=>wpAny (model X.prog X.w) X.A (f v u) Q X.xe d) X.xe e) X.xe s:=by
 refine aJ (t aa s Y H _ I h) λ v l ⟨x,i,B,n,p⟩=>?_;refine aJ (r aa l Y i _ B p) λ u g ⟨y,c,z,m,o⟩=>?_;exact q v u g x y c z n m o
def IV(i:Nat):TE:=fun Y H Q=>∃v,Y[i]?=some (some v)/\Q v H
def tC(v:V):TE:=λ _ H Q=>Q v H
theorem n8{i:Nat}{x:Str}(n:X.N[i]?=some x)(g:yg X.env.scope x)(d:(x==("__debug__":Str))=false:=by decide)(f:(x==("__classdict__":Str))=false:=by decide):PE X (.Name x pos) (IV i):=by
 intro aa s Y H Q I h;let⟨v,e,h⟩:=h;let⟨m,j,k⟩:=I.loc;let⟨u,r,l⟩:=k i x v n e g;have b:EP X aa Y Q u s:=⟨v,H,I,r,h⟩;rcases l with⟨a,hm⟩ | ⟨a,c,hc,hcell⟩
 .exact wpAny_Name (wpAny_loadName_local I.ok.kind a j hm b) d
 .rcases a with a | a
  .exact wpAny_Name (wpAny_loadName_cell I.ok.kind a hc hcell b) d
  .exact wpAny_Name (wpAny_loadName_free I.ok.kind a hc hcell b f) d
theorem B9{i j pos}:PE X (.Constant (.int i) j pos) (tC (.int i)):=λ _ _ _ H _ I h=>wpAny_Constant_int ⟨.int i,H,I.tok _,⟨_,rfl⟩,h⟩
theorem Ge{b j pos}:PE X (.Constant (.bool b) j pos) (tC (.bl b)):=λ _ _ _ H _ I h=>Constant_bool ⟨.bl b,H,I,rfl,h⟩
theorem Ca{j pos}:PE X (.Constant .none j pos) (tC .non):=λ _ _ _ H _ I h=>Constant_none ⟨.non,H,I,rfl,h⟩
theorem ud{x j pos}:PE X (.Constant (.str x) j pos) (tC (.str x)):=λ _ _ _ H _ I h=>Calls.Constant_str ⟨.str x,H,I.tok _,⟨_,rfl⟩,h⟩
def Gl(X:Cx)(x:Str):Prop:=X.env.kindOf x=some .globalImplicit
theorem bw{E:Value->Shared->Prop}{x:Str}{u:Value}{Q:Value->Shared->Prop}(I:Inv X aa Y H s)(b:Gl X x)(a:X.mg x=some u)(h:Q u s)
  (c:(x==("__debug__":Str))=false:=by decide):wpAny (model X.prog X.w) X.A (eval (.Name x pos) X.env) Q E s:=
 OZ I.ok.kind b (Calls.loadGlobal_global (by rw[I.ok.glob];exact I.mod.glob.keeps I.bk) a h) c
theorem eY{E:Value->Shared->Prop}{x:Str}{u:Value}{Q:Value->Shared->Prop}(I:Inv X aa Y H s)(d:Gl X x)(c:X.mg x=none)(a:bootBuiltins x=some u)(h:Q u s)
  (b:x≠"__name__":=by decide) (e:(x==("__debug__":Str))=false:=by decide):wpAny (model X.prog X.w) X.A (eval (.Name x pos) X.env) Q E s:=by
 let⟨i,g,f⟩:=I.mod.blt;exact OZ I.ok.kind d (Calls.loadGlobal_builtin (by rw[I.ok.glob];exact I.mod.glob.keeps I.bk) c (by rw[I.ok.blt];exact g.keeps I.bk) ((f x b).trans a) h) e
theorem fq{x:Str}{v:V}{u:Value}(b:Gl X x)(a:X.mg x=some u)(r:RelV v u)(c:(x==("__debug__":Str))=false:=by decide):PE X (.Name x pos) (tC v):=
 λ _ _ _ H _ I h=>bw I b a ⟨v,H,I,r,h⟩ c
theorem pY{x:Str}{v:V}{u:Value}(d:Gl X x)(c:X.mg x=none)(a:bootBuiltins x=some u)(r:RelV v u)(b:x≠"__name__":=by decide)(e:(x==("__debug__":Str))=false:=by decide):PE X (.Name x pos) (tC v):=
 λ _ _ _ H _ I h=>eY I d c a ⟨v,H,I,r,h⟩ b e
variable{a b:Expr}{ta tb:TE}{pos:Pos}
variable{tA Iq:TT}{rest:List Expr}
def IW(t u:TT):TT:=fun Y H Q=>t Y H λ c d=>if c=true then u Y d Q else Q false d
def Le(t u:TT):TT:=fun Y H Q=>t Y H λ c d=>if c=true then Q true d else u Y d Q
def IX(t:TT):TT:=fun Y H Q=>t Y H λ c d=>Q (!c) d
theorem yh(d:PT X a tA):PW X (.BoolOp .And [a] pos) tA:=by
 intro f aa s Y H Q I h;refine isTrue_and (aJ (d aa s Y H Q I h) λ c g e=>?_);cases c with
 |true=>exact isTrue_and_nil e
 |false=>exact e
theorem Cb(d:PT X a tA):PW X (.BoolOp .Or [a] pos) tA:=by
 intro f aa s Y H Q I h;refine isTrue_or (aJ (d aa s Y H Q I h) λ c g e=>?_);cases c with
 |false=>exact isTrue_or_nil e
 |true=>exact e
theorem Cd(k:PT X a tA)(j:PW X (.BoolOp .And (b::rest) pos) Iq):PW X (.BoolOp .And (a::b::rest) pos) (IW tA Iq):=by
 intro g aa s Y H Q I h;refine isTrue_and (aJ (k aa s Y H _ I h) λ c i ⟨f,e,d⟩=>?_);cases c with
 |true=>exact j g aa i Y f Q e d
 |false=>exact⟨f,e,d⟩
theorem Gf(k:PT X a tA)(j:PW X (.BoolOp .Or (b::rest) pos) Iq):PW X (.BoolOp .Or (a::b::rest) pos) (Le tA Iq):=by
 intro g aa s Y H Q I h;refine isTrue_or (aJ (k aa s Y H _ I h) λ c i ⟨f,e,d⟩=>?_);cases c with
 |true=>exact⟨f,e,d⟩
 |false=>exact j g aa i Y f Q e d
theorem Ce(d:PT X a tA):PT X (.UnaryOp .Not a pos) (IX tA):=by
 intro aa s Y H Q I h;exact isTrue_not (d aa s Y H (λ c e=>Q (!c) e) I h)
def Gg(ta tb:TE):TE:=fun Y H Q=>ta Y H λ x d=>∃c,x=.bl c/\if c=true then tb Y d Q else Q (.bl false) d
def Gh(ta:TE):TE:=fun Y H Q=>ta Y H λ x d=>∃c,x=.bl c/\Q (.bl (!c)) d
theorem ue{op}{t:TE}(h:PE X a t):PE X (.BoolOp op [a] pos) t:=λ aa s Y H Q I c=>BoolOp_one (h aa s Y H Q I c)
theorem Cg(k:PE X a ta)(j:PE X (.BoolOp .And (b::rest) pos) tb):PE X (.BoolOp .And (a::b::rest) pos) (Gg ta tb):=by
 intro aa s Y H Q I h;refine BoolOp_and (aJ (k aa s Y H _ I h) λ v g ⟨x,f,e,i,d⟩=>?_);let⟨c,rfl,d⟩:=d;cases i;refine Nn ?_;cases c with
 |true=>exact j aa g Y f Q e d
 |false=>exact⟨.bl false,f,e,rfl,d⟩
theorem Cj(f:PE X a ta):PE X (.UnaryOp .Not a pos) (Gh ta):=by
 intro aa s Y H Q I h;refine UnaryOp_ (aJ (f aa s Y H _ I h) λ v j ⟨x,i,g,e,d⟩=>?_);let⟨c,rfl,d⟩:=d;cases e;exact not_of (Nn ⟨.bl (!c),i,g,rfl,d⟩)
def Lf(t:TT)(ta tb:TE):TE:=fun Y H Q=>t Y H λ c d=>if c=true then ta Y d Q else tb Y d Q
theorem uf{c:Expr}(j:PT X c tA)(l:PE X a ta)(k:PE X b tb):PE X (.IfExp c a b pos) (Lf tA ta tb):=by
 intro aa s Y H Q I h;refine wpAny_IfExp (aJ (j aa s Y H _ I h) λ d e ⟨i,g,f⟩=>?_);cases d with
 |true=>exact l aa e Y i Q g f
 |false=>exact k aa e Y i Q g f
end
end L2
namespace L2
open PySem PySem.Spec PyProof.Rows List
variable{K:ae}{P:Program}{X:Cx}{e tg:Expr}{i:Nat}{s:Shared}{te:TE}{w:World}
def dI(K:ae)(H:Hp)(a:Addr)(xs:List V):Prop:=
 Rd H a (.lst xs)\/
  ∃(o:Obj) (b:Array Value) (n:Nat),K.lookup a=some o/\o.cls=.type "list"/\o.dict=none/\o.data=.seq b n/\b.size<=sizeLine/\Vals xs b.toList
def bI(K:ae)(H:Hp)(a:Addr)(xs:List V):Prop:=
 Rd H a (.tup xs)\/
  ∃(o:Obj) (b:Array Value) (n:Nat),(K.lookup a=some o/\o.dict=none)/\o.cls=.type "tuple"/\o.data=.seq b n/\b.size<=sizeLine/\Vals xs b.toList
def IY:Value->Option V
 |.none=>some .non
 |.bool b=>some (.bl b)
 |.int i _=>some (.int i)
 |.str x _=>some (.str x)
 |.bytes b _=>some (.byt b)
 |.float b _=>some (.flt b)
 |.ref a=>some (.ref a)
 |.type n=>some (.ty n)
 |_=>none
theorem RelV.abs{x:V}{u:Value}(r:RelV x u):IY u=some x:=by
 cases x with
 |non=>cases r;rfl
 |bl _=>cases r;rfl
 |int _=>let⟨t,rfl⟩:=r;rfl
 |str _=>let⟨t,rfl⟩:=r;rfl
 |byt _=>let⟨t,rfl⟩:=r;rfl
 |flt _=>let⟨t,rfl⟩:=r;rfl
 |ref _=>cases r;rfl
 |ty _=>cases r;rfl
theorem RelV.inj{x y:V}{u:Value}(r:RelV x u)(q:RelV y u):x=y:=M0 (r.abs.symm.trans q.abs)
theorem Vals.inj{xs a:List V}{us:List Value}(h:Vals xs us)(g:Vals a us):xs=a:=by
 induction h generalizing a with
 |nil=>cases g;rfl
 |cons r t d=>cases g with | cons c b=>rw[r.inj c,d b]
section
variable{X:Cx}{aa:List (Addr×Obj)}{Y:St}{H:Hp}{s:Shared}{a:Addr}{xs ys:List V}
theorem bI.of(h:H a=@(.tup xs)):bI K H a xs:=.inl (.inl h)
theorem Inv.list(I:Inv X aa Y H s)(h:dI X.K H a xs):∃its:List Value,Vals xs its/\PlainL s.heap a its.toArray/\xs.length<=sizeLine:=by
 rcases h with h | ⟨o,its,n,b,hc,hd,hs,c,r⟩
 .let⟨z,its,n,r,e⟩:=h.ok I.hok;exact⟨its,r,⟨_,n,e,rfl,rfl,rfl⟩,z⟩
 .refine⟨its.toList,r,⟨o,n,I.bA a o b,hc,hd,~~~hs⟩,?_⟩;have e:=r.length;erw[NH] at e;lia
theorem Inv.tuple(I:Inv X aa Y H s)(h:bI X.K H a xs):∃its:List Value,Vals xs its/\IsTup s.heap a its.toArray/\xs.length<=sizeLine:=by
 rcases h with h | ⟨o,its,n,b,hc,hs,c,r⟩
 .let⟨z,its,r,p⟩:=h.ok I.hok;exact⟨its,r,p.t,z⟩
 .refine⟨its.toList,r,⟨o,I.bA a o b.1,hc,n,~~~hs⟩,?_⟩;have e:=r.length;erw[NH] at e;lia
theorem Inv.IZ(I:Inv X aa Y H s)(h:bI X.K H a xs):s.TypeIs (.ref a) "tuple"/\Exists λ g=>s.heap.get? a=some g/\g.dict=none:=by
 rcases h with h | ⟨o,b,n,f,hc,hs,j,r⟩
 .let⟨z,b,r,p⟩:=h.ok I.hok;let⟨o,e,c,d⟩:=p;exact⟨⟨o,e,c.1⟩,o,e,c.2⟩
 .exact⟨⟨o,I.bA a o f.1,hc⟩,o,I.bA a o f.1,f.2⟩
theorem Inv.lQ(I:Inv X aa Y H s)(h:dI X.K H a xs)(h':dI X.K H a ys):xs=ys:=by
 let⟨c,r,⟨o,n,e,_,_,d⟩,_⟩:=I.list h;let⟨b,j,⟨l,m,f,_,_,g⟩,_⟩:=I.list h';rw[e] at f;cases f;rw[d] at g;injection g with k _
 have:c=b:=by simpa using OA Array.toList k
 subst this;exact r.inj j
theorem Inv.ju(I:Inv X aa Y H s)(h:bI X.K H a xs)(h':bI X.K H a ys):xs=ys:=by
 let⟨c,r,⟨o,e,_,n,d⟩,_⟩:=I.tuple h;let⟨b,j,⟨l,f,_,m,g⟩,_⟩:=I.tuple h';rw[e] at f;cases f;rw[d] at g;injection g with k _
 have:c=b:=by simpa using OA Array.toList k
 subst this;exact r.inj j
end
abbrev Cx.eO(X:Cx)(E:Value->Shared->Prop):Cx:={X with xe:=E}
abbrev Cx.bS(X:Cx):Cx:=X.eO λ _ _=>False
theorem Cx.Ok.eO(a:X.Ok)(E:Value->Shared->Prop):(X.eO E).Ok:=
 ⟨a.mod,a.kind,a.glob,a.blt,a.above,a.inj,a.has,a.cab,a.hd,a.frames,a.stk,a.exf,a.bs,a.bsz,a.noex,a.exfs,a.eX,a.frf⟩
theorem Cx.Ok.bD{E:Value->Shared->Prop}(a:(X.eO E).Ok):X.Ok:=
 ⟨a.mod,a.kind,a.glob,a.blt,a.above,a.inj,a.has,a.cab,a.hd,a.frames,a.stk,a.exf,a.bs,a.bsz,a.noex,a.exfs,a.eX,a.frf⟩
section
variable{X:Cx}{aa:List (Addr×Obj)}{Y:St}{H:Hp}{s:Shared}{E:Value->Shared->Prop}
theorem Inv.eO(I:Inv X aa Y H s)(E:Value->Shared->Prop):Inv (X.eO E) aa Y H s:=⟨I.ok.eO E,I.os,I.bare,I.base,I.loc,I.cell,I.free,I.freeC,I.pin,I.hok,I.len⟩
theorem Inv.bD(I:Inv (X.eO E) aa Y H s):Inv X aa Y H s:=⟨I.ok.bD,I.os,I.bare,I.base,I.loc,I.cell,I.free,I.freeC,I.pin,I.hok,I.len⟩
theorem SP.bD{D:Ends}{f:Flow}{c:Shared}(h:SP (X.eO E) aa D f c):SP X aa D f c:=by
 cases f with
 |next=>let⟨a,b,I,q⟩:=h;exact⟨a,b,I.bD,q⟩
 |brk=>let⟨a,b,I,q⟩:=h;exact⟨a,b,I.bD,q⟩
 |cont=>let⟨a,b,I,q⟩:=h;exact⟨a,b,I.bD,q⟩
 |ret u=>let⟨v,a,b,I,r,q⟩:=h;exact⟨v,a,b,I.bD,r,q⟩
theorem PE.bS{t:TE}(h:PE X.bS e t):PE X e t:=λ aa s Y H Q I a=>
 MK (h aa s Y H Q (I.eO _) a) (λ _ _ ⟨v,c,b,r,q⟩=>⟨v,c,b.bD,r,q⟩) λ _ _ z=>False.elim z
theorem PT.bS{t:TT}(h:PT X.bS e t):PT X e t:=λ aa s Y H Q I a=>
 MK (h aa s Y H Q (I.eO _) a) (λ _ _ ⟨c,b,q⟩=>⟨c,b.bD,q⟩) λ _ _ z=>False.elim z
theorem dO.bS{st:List Stmt}{t:TS}(h:dO X.bS st t):dO X st t:=λ aa s Y H D I a=>
 MK (h aa s Y H D (I.eO _) a) (λ _ _ q=>q.bD) λ _ _ z=>False.elim z
end
section
variable{X:Cx}{st:Stmt}{rest:List Stmt}{t u:TS}{e:Expr}{te:TE}{pos:Pos}
def AG:TS:=λ D Y H=>D.nx Y H
def I0(t u:TS):TS:=λ D Y H=>t {D with nx:=u D} Y H
theorem pZ:dO X [] AG:=λ _ _ Y H _ I h=>OP ⟨Y,H,I,h⟩
theorem ug(g:PS X st t)(d:dO X rest u):dO X (st::rest) (I0 t u):=by
 intro b s Y H D I h;refine wpAny_execs_cons (aJ (g b s Y H {D with nx:=u D} I h) λ f c q=>?_);cases f with
 |next=>
  let⟨a,k,j,q⟩:=q;exact d b c a k D j q
 |ret v=>exact q
 |brk=>exact q
 |cont=>exact q
theorem yi(a:PS X st t):dO X [st] t:=by
 intro b s Y H D I h;refine wpAny_execs_cons (aJ (a b s Y H D I h) λ f c q=>?_);cases f with
 |next=>exact OP q
 |ret v=>exact q
 |brk=>exact q
 |cont=>exact q
def Ck:TS:=λ D Y H=>D.bk Y H
def Gi:TS:=λ D Y H=>D.ct Y H
theorem yj:PS X (.Pass pos) AG:=λ _ _ Y H _ I h=>wpAny_Pass ⟨Y,H,I,h⟩
theorem uh:PS X (.Break pos) Ck:=λ _ _ Y H _ I h=>wpAny_Break ⟨Y,H,I,h⟩
theorem lR:PS X (.Continue pos) Gi:=λ _ _ Y H _ I h=>wpAny_Continue ⟨Y,H,I,h⟩
theorem Inv.quiet{a:List (Addr×Obj)}{Y:St}{H:Hp}(I:Inv X a Y H s):interactive X.env=false:=by simp[interactive,I.ok.kind]
def Gj(te:TE):TS:=λ D Y H=>te Y H λ _ a=>D.nx Y a
theorem kg(c:PE X e te)(b:swapsWith e none pos.line X.env=pure false:=by rfl):PS X (.Expr e pos) (Gj te):=by
 intro d s Y H D I h;exact wpAny_Expr_any (aJ (c d s Y H _ I h) λ v j ⟨x,g,f,k,a⟩=>⟨Y,g,f,a⟩) I.quiet b
def I8(te:TE):TS:=λ D Y H=>te Y H D.rt
theorem n9(c:PE X e te):PS X (.Return (some e) pos) (I8 te):=by
 intro d s Y H D I h;exact wpAny_Return_some (aJ (c d s Y H _ I h) λ v j ⟨x,g,f,a,b⟩=>⟨x,Y,g,f,a,b⟩)
def Gk:TS:=λ D _ H=>D.rt .non H
theorem yk:PS X (.Return none pos) Gk:=λ _ _ Y H _ I h=>wpAny_Return_none ⟨.non,Y,H,I,rfl,h⟩
def I9(c:TT)(t u:TS):TS:=λ D Y H=>c Y H λ b a=>if b=true then t D Y a else u D Y a
theorem Gm{c:Expr}{a b:List Stmt}{g:TT}(n:PT X c g)(p:dO X a t)(o:dO X b u):PS X (.If c a b pos) (I9 g t u):=by
 intro f s Y H D I h;refine wpAny_If (aJ (n f s Y H _ I h) λ d j ⟨m,l,k⟩=>?_);cases d with
 |true=>exact p f j Y m D l k
 |false=>exact o f j Y m D l k
def Co:TS:=λ _ _ _=>False
theorem um:PS X st Co:=λ _ _ _ _ _ _ h=>h.elim
end
abbrev TG:=V->St->Hp->(St->Hp->Prop)->Prop
abbrev x9:=List V->St->Hp->(St->Hp->Prop)->Prop
def PG(X:Cx)(a:Expr)(t:TG):Prop:=
 ∀(c:List (Addr×Obj)) (s:Shared) (Y:St) (H:Hp) (v:V) (u:Value) (Q:St->Hp->Prop),Inv X c Y H s->RelV v u->t v Y H Q->
  wpAny (model X.prog X.w) X.A (assign a X.env u) (λ _ f=>∃b d,Inv X c b d f/\Q b d) X.xe s
def n5(X:Cx)(ts:List Expr)(t:x9):Prop:=
 ∀(d:List (Addr×Obj)) (s:Shared) (Y:St) (H:Hp) (b:List V) (c:List Value) (Q:St->Hp->Prop),Inv X d Y H s->Vals b c->t b Y H Q->
  wpAny (model X.prog X.w) X.A (assignInOrder ((assignEach ts X.env).map (·.2)) c) (λ _ g=>∃a f,Inv X d a f g/\Q a f) X.xe s
abbrev Cp:=V->V->V->Hp->(Hp->Prop)->Prop
def Cq(X:Cx)(t:Cp):Prop:=
 ∀(c:List (Addr×Obj)) (s:Shared) (Y:St) (H:Hp) (o i v:V) (a b u:Value) (Q:Hp->Prop),Inv X c Y H s->RelV o a->RelV i b->RelV v u->t o i v H Q->
  wpAny (model X.prog X.w) X.A (setItem a b u) (λ _ f=>∃d,Inv X c Y d f/\Q d) X.xe s
abbrev Ir:=V->V->Hp->VK->Prop
def Ja(X:Cx)(b:Operator)(t:Ir):Prop:=
 ∀(a:List (Addr×Obj)) (s:Shared) (Y:St) (H:Hp) (x y:V) (v u:Value) (Q:VK),Inv X a Y H s->RelV x v->RelV y u->t x y H Q->
  wpAny (model X.prog X.w) X.A (inplaceOp b v u) (EP X a Y Q) X.xe s
section
variable{X:Cx}{pos:Pos}
def AH(i:Nat):TG:=λ v Y H Q=>Q (Y.set i (some v)) H
theorem yl{x:Str}(d:X.N.Nodup)(b:X.N[i]?=some x)(a:Loc X.env.scope x)(c:X.fn x=true\/X.env.scope.names.lookup x=some .local:=by first | exact .inl rfl | exact .inr rfl | assumption):PG X (.Name x pos) (AH i):=by
 intro j s Y H v u Q I r h;exact wpAny_assign_Name (cP I d b a r (λ g f=>⟨_,H,f,h⟩) c)
def Jb:x9:=λ a Y H Q=>a=[]/\Q Y H
def Gn(t:TG)(u:x9):x9:=λ b Y H Q=>∃v r,b=v::r/\t v Y H fun a c=>u r a c Q
theorem ym:n5 X [] Jb:=by
 intro c s Y H a b Q I r h;let⟨e,h⟩:=h;subst e;cases r;exact assignInOrder_nil ⟨Y,H,I,h⟩
theorem uo{es:List Expr}{t:TG}{u:x9}(k:PG X e t)(j:n5 X es u)
  (g:(assignEach (e::es) X.env).map (·.2)=assign e X.env::(assignEach es X.env).map (·.2):=by rfl):n5 X (e::es) (Gn t u):=by
 intro b s Y H o q Q I r h;let⟨v,p,l,h⟩:=h;subst l;cases r with
 |cons r d=>
  rw[g];refine O0 (aJ (k b s Y H _ _ _ I r h) λ _ c ⟨a,n,m,f⟩=>?_);exact j b c a n _ _ Q m d f
def Jc(K:ae)(n:Nat)(t:x9):TG:=λ v Y H Q=>∃a b,v=.ref a/\bI K H a b/\b.length=n/\t b Y H Q
theorem Cr{es:List Expr}{k:Nat}{t:x9}{n:Nat}(z:X.calm=true)(h:n5 X es t)
  (x:(assignEach es X.env).length=n:=by rfl) (d:(assignEach es X.env).findIdx? (·.1)=none:=by rfl):PG X (.Tuple es k pos) (Jc X.K n t):=by
 intro g s Y H v u Q I r c;let⟨a,j,B,q,y,c⟩:=c;subst B;cases r;let⟨l,f,p,D⟩:=I.tuple q;refine assign_Tuple_tuple (I.ok.hd z) p (by simp[x,<-y,f.length]) d λ A m=>?_;have C:Inv X g Y H {s with heap:=A}:=I.kept (t':=s.toks) λ b o e=>m b o (MD (Mx e)) e;exact h g _ Y H j _ Q C (~~~f) c
def Jd(a b:TE)(t:Cp):TG:=λ v Y H Q=>a Y H λ o f=>b Y f λ i d=>t o i v d λ c=>Q Y c
theorem Ct{o i:Expr}{d f:TE}{t:Cp}(ho:PE X o d)(z:PE X i f)(q:Cq X t)
  (A:∀v,assign (.Subscript o i pos) X.env v=(do
   let a <-holding [v] (eval o X.env)
   let b <-holding [v,a] (eval i X.env)
   standAt pos
   holding [v,a,b] (setItem a b v)
   release [v,a,b] []):=by intro _;rfl):PG X (.Subscript o i pos) (Jd d f t):=by
 intro c s Y H v u Q I r h;rw[A];refine Mu (Nl (aJ (ho c s Y H _ I h) λ a j ⟨x,G,D,l,p⟩=>?_));refine Mu (Nl (aJ (z c j Y G _ D p) λ b g ⟨y,F,C,k,n⟩=>?_));refine Mu (Nh (Mu (Nl (aJ (q c g Y F x y v a b u _ C l k r n) λ _ J ⟨E,B,m⟩=>?_))));exact wpAny_release ⟨Y,E,B,m⟩
def Gp(te:TE)(g:TG):TS:=λ D Y H=>te Y H λ x a=>g x Y a D.nx
theorem oh{g:TG}(l:PE X e te)(k:PG X tg g)(j:swapsWithSole [tg] e pos.line X.env=pure false:=by rfl)(f:swappedStores [tg] e X.env=pure none:=by rfl)
  (m:(assignEach [tg] X.env).map (·.2)=[assign tg X.env]:=by rfl):PS X (.Assign [tg] e pos) (Gp te g):=by
 intro a s Y H D I h;refine wpAny_Assign_stores (aJ (l a s Y H _ I h) λ v b ⟨x,o,n,c,d⟩=>?_) j f;rw[m];exact aJ (k a b Y o x v _ n c d) λ _ p q=>q
theorem Cu{x:Str}{a:Pos}(l:X.N.Nodup)(g:X.N[i]?=some x)(d:Loc X.env.scope x)(k:PE X e te)(f:swapsWith e @(.Name x a) pos.line X.env=pure false:=by rfl)(j:X.fn x=true\/X.env.scope.names.lookup x=some .local:=by first | exact .inl rfl | exact .inr rfl | assumption) :
  PS X (.Assign [.Name x a] e pos) (Gp te (AH i)):=by
 intro m s Y H D I h;refine wpAny_Assign_Name (aJ (k m s Y H _ I h) λ v r ⟨y,p,o,b,c⟩=>?_) f;exact cP o l g d b (λ q n=>⟨_,p,n,c⟩) j
def Je(i j:Nat)(b:TA):TS:=λ D Y H=>b Y H λ a c=>∃v w,a=[v,w]/\D.nx ((Y.set i (some v)).set j (some w)) c
theorem Cv{j:Nat}{x y:Str}{a b:Expr}{B:TA}{n m r:Pos}{kt t k}(hc:X.calm=true)(F:X.N.Nodup)(hi:X.N[i]?=some x)(T:X.N[j]?=some y)(z:i≠j)
  (E:X.env.scope.names.lookup x=some .local) (C:X.env.scope.names.lookup y=some .local) (ha:PA X [a,b] B)
  (hw:swappedStores [.Tuple [.Name x n,.Name y m] kt r] (.Tuple [a,b] t k) X.env=pure (some [x,y]))
  (hs:swapsWithSole [.Tuple [.Name x n,.Name y m] kt r] (.Tuple [a,b] t k) pos.line X.env=pure false:=by rfl) :
  PS X (.Assign [.Tuple [.Name x n,.Name y m] kt r] (.Tuple [a,b] t k) pos) (Je i j B):=by
 intro G s Y H D I h;rw[exec_Assign_arm];refine Mu (Nh ?_);rw[hs];refine Mu (MA ?_);rw[MN 'd'];refine Mu (Tuple_ (aJ (ha _ G s Y H _ I h) λ M f ⟨vs,L,I1,Q,l⟩=>?_));let⟨v,w,U,l⟩:=l;subst U;obtain⟨d,c,rfl,O,g⟩:∃d c,M=[d,c]/\RelV v d/\RelV w c:=by
  cases Q with
  |cons p q=>
   cases q with
   |cons S R=>
    cases R;exact⟨_,_,rfl,p,S⟩
 refine Np ?_ (by show 2<=sizeLine;decide);have I2:Inv X G Y L {f with heap:=f.heap.push {cls:=.type "tuple",data:=.seq [d,c].toArray}}:=I1.kept (t':=f.toks) λ b o e=>Mv _ e;rw[hw];refine Mu (MA ?_);show wpAny (model X.prog X.w) X.A (do rule "assign.swapped-stores";let items <-unpackItems (.ref f⁻¹) 2 none;assignInOrder [λ v=>bindName X.env y v,λ v=>bindName X.env x v] items.reverse;pure Flow.next) _ _ _;refine Mu (O1 (Mu (unpackItems_tuple (items:=#[d,c]) (I.ok.hd hc) (IsTup.new f.heap _) λ h' u=>?_)));have Z:=I2.kept (h':=h') (t':=f.toks) λ b o e=>u b o (MD (Mx e)) e;show wpAny _ _ (assignInOrder [λ v=>bindName X.env y v,λ v=>bindName X.env x v] [c,d] >>= λ _=>pure Flow.next) _ _ _;refine Mu (O0 (wpAny_bindName (cP Z F T (.inl C) g (λ s2 V=>?_) (.inr C))));refine O0 (wpAny_bindName (cP V F hi (.inl E) O (λ s3 J=>assignInOrder_nil (MA ?_)) (.inr E)));rw[set_comm _ _ (Ne.symm z)] at J;exact⟨_,L,J,l⟩
def Jf(i:Nat)(te:TE)(a:Ir):TS:=λ D Y H=>∃x,Y[i]?=some (some x)/\te Y H λ y c=>a x y c λ z b=>D.nx (Y.set i (some z)) b
theorem uq{x:Str}{j:Operator}{p:Ir}{f:Pos}(Q:X.N.Nodup)(q:X.N[i]?=some x)(n:Loc X.env.scope x)(O:PE X e te)(ho:Ja X j p)(M:X.fn x=true\/X.env.scope.names.lookup x=some .local:=by first | exact .inl rfl | exact .inr rfl | assumption) :
  PS X (.AugAssign (.Name x f) j e pos) (Jf i te p):=by
 intro o s Y H D I h;let⟨v,R,h⟩:=h;let⟨m,J,L⟩:=I.loc;have g:yg X.env.scope x:=by rcases n with k | k;exact .inl k;exact .inr (.inl k)
 let⟨u,r,l⟩:=L i x v q R g;refine wpAny_AugAssign_Name ?_;have t:wpAny (model X.prog X.w) X.A (eval e X.env) (λ w d=>wpAny (model X.prog X.w) X.A (inplaceOp j u w) (λ r b=>wpAny (model X.prog X.w) X.A (storeName X.env x r) (λ _=>SP X o D .next) X.xe b) X.xe d) X.xe s:=by
  refine aJ (O o s Y H _ I h) λ w B ⟨y,Z,U,E,G⟩=>?_;refine aJ (ho o B Y Z v y u w _ U r E G) λ z s2 ⟨zv,V,T,C,F⟩=>?_;exact cP T Q q n C (λ s3 S=>⟨_,V,S,F⟩) M
 rcases l with⟨a,hm⟩ | ⟨a,c,hc,hcell⟩
 .exact wpAny_loadName_local I.ok.kind a J hm t
 .rcases a with a | a
  .exact wpAny_loadName_cell I.ok.kind a hc hcell t
  .rcases n with k | k
   .have:X.env.scope.names.lookup x=some .free:=a;rw[k] at this;cases this
   .have:X.env.scope.names.lookup x=some .free:=a;rw[k] at this;cases this
def Ky(f:Int->Int->Int):Ir:=λ x y H Q=>∃i j,x=.int i/\y=.int j/\Q (.int (f i j)) H
theorem Cw:Ja X .Add (Ky λ i j=>i+j):=by
 intro g s Y H x y v u Q I b a h;let⟨i,j,d,c,q⟩:=h;subst d;subst c;let⟨t,rfl⟩:=b;let⟨f,rfl⟩:=a;exact iadd_int ⟨.int _,H,I.tok _,⟨_,rfl⟩,q⟩
theorem Cy:Ja X .Sub (Ky λ i j=>i - j):=by
 intro g s Y H x y v u Q I b a h;let⟨i,j,d,c,q⟩:=h;subst d;subst c;let⟨t,rfl⟩:=b;let⟨f,rfl⟩:=a;exact isub_int ⟨.int _,H,I.tok _,⟨_,rfl⟩,q⟩
end
section
variable{X:Cx}{pos:Pos}
def CA(c:TT)(tb:TS):TS:=λ D Y H=>∃W:Nat->St->Hp->Prop,(∃m,W m Y H)/\∀m Y H,W m Y H->
 c Y H λ b f=>if b=true then ∃N:St->Hp->Prop,(∀a g,N a g->∃d,d<m/\W d a g)/\tb {D with nx:=N,ct:=N,bk:=D.nx} Y f else D.nx Y f
theorem ur{c:Expr}{body:List Stmt}{x:TT}{tb:TS}(y:PassesOwn (model X.prog X.w) X.A X.env X.xe)(R:PT X c x)(S:dO X body tb):PS X (.While c body [] pos) (CA x tb):=by
 intro t s Y H D I h;let⟨W,⟨Q,J⟩,g⟩:=h;refine wpAny_While (codeAny_whileLoop (λ n O=>∃d F,Inv X t d F O/\W n d F) ?_ Q ⟨Y,H,I,J⟩);rintro n M ⟨a,E,T,G⟩;refine N1 y (aJ (R t M a E _ T (g n a E G)) λ b L ⟨C,B,m⟩=>?_);cases b with
 |true=>
  let⟨N,z,m⟩:=m;rw[MO rfl];refine N1 y (aJ (S t L a C _ B m) λ f U l=>?_);cases f with
  |next=>
   let⟨j,k,u,p⟩:=l;let⟨q,r,o⟩:=z j k p;exact⟨q,r,j,k,u,o⟩
  |cont=>
   let⟨j,k,u,p⟩:=l;let⟨q,r,o⟩:=z j k p;exact⟨q,r,j,k,u,o⟩
  |brk=>exact l
  |ret v=>exact l
 |false=>
  rw[MN M5];exact OP ⟨a,C,B,m⟩
end
set_option genInjectivity false in
structure It where
 go:Nat->Hp->Prop
 yld:Nat->Hp->V->Hp->Prop
 stop:Nat->Hp->Prop
def fT(X:Cx)(a:List (Addr×Obj))(H:Hp)(b:Addr):Prop:=
 H b=none/\b≠X.env.locals/\b∉X.fs/\(b∈X.ex\/X.s₀⁻¹<=b)/\(∀x c,X.env.cells.lookup x=some c->c≠b)/\∀p∈X.pn++a,p.1≠b
theorem Inv.lT{d:List (Addr×Obj)}{Y:St}{H f:Hp}{b:Addr}(I:Inv X d Y H s)(a:s⁻¹<=b)(h:f b=none):fT X d f b:=by
 refine⟨h,NB (MG I.lt a),I.IU a,.inr (MQ I.sz a),λ x c e z=>?_,λ p g z=>?_⟩
 .let⟨v,q⟩:=I.cell x c e;exact absurd (MG q.lt (by rw[z];exact a)) (N3 _)
 .exact absurd (MG (Mx (I.pin p g).1) (by rw[z];exact a)) (N3 _)
structure Turn(P:Program)(w:World)(K:ae)(tg:Expr)(Ms:It)(fp:List Addr)(it:Addr)(tn:Nat->Heap->Prop):Prop where
 mem:it∈fp
 obj:∀i h,tn i h->∀b∈fp,∃o,h.get? b=some o/\∀v,o.data≠.cell v
 keep:∀i h h',tn i h->(∀b∈fp,∀o,h.get? b=some o->h'.get? b=some o)->tn i h'
 item:∀(X:Cx),X.prog=P->X.w=w->X.K=K->X.calm=true->∀(i:Nat) (aa:List (Addr×Obj)) (s:Shared) (Y:St) (H:Hp) (E:Value->Shared->Prop),Inv X aa Y H s->(∀b∈fp,fT X aa H b)->tn i s.heap->Ms.go i H->
  wpAny (model P w) X.A (pyNext (.ref it)) (λ r s1=>∃u,r=some u/\
   wpAny (model P w) X.A (letOwnedTupleGo tg (.ref it) u) (λ _ s2=>∃x H',Inv X aa Y H' s2/\RelV x u/\Ms.yld i H x H'/\tn (i+1) s2.heap/\∀b∈fp,H' b=none) E s1) E s
 done:∀(X:Cx),X.prog=P->X.w=w->X.K=K->X.calm=true->∀(i:Nat) (aa:List (Addr×Obj)) (s:Shared) (Y:St) (H:Hp) (E:Value->Shared->Prop),Inv X aa Y H s->(∀b∈fp,fT X aa H b)->tn i s.heap->Ms.stop i H->
  wpAny (model P w) X.A (pyNext (.ref it)) (λ r s1=>r=none/\Inv X aa Y H s1) E s
 self:∀(A:Around) (i:Nat) (s:Shared) (Q:Value->Shared->Prop) (E:Value->Shared->Prop),tn i s.heap->Q (.ref it) s->wpAny (model P w) A (pyIter (.ref it)) Q E s
abbrev TI:=St->Hp->(It->Hp->Prop)->Prop
def Kz(X:Cx)(j:List (Addr×Obj))(Y:St)(tg:Expr)(R:It->Hp->Prop)(a:Value)(f:Shared):Prop:=
 ∃(g:Addr) (h:List Addr) (d:Nat->Heap->Prop) (k:It) (c:Hp),a=.ref g/\Inv X j Y c f/\Turn X.prog X.w X.K tg k h g d/\d 0 f.heap/\(∀b∈h,fT X j c b)/\R k c
def PI(X:Cx)(tg a:Expr)(c:TI):Prop:=
 ∀(b:List (Addr×Obj)) (s:Shared) (Y:St) (H:Hp) (R:It->Hp->Prop),Inv X b Y H s->c Y H R->
  wpAny (model X.prog X.w) X.A (eval a X.env) (λ v d=>wpAny (model X.prog X.w) X.A (pyIter v) (Kz X b Y tg R) X.xe d) X.xe s
theorem p6{M:Model}{A:Around}{E:Value->Shared->Prop}{it:Addr}{u:Value}{o:Obj}{n:String}{vs:Array Value}{Q:Unit->Shared->Prop}(ho:s.heap.get? it=some o)(d:o.cls=.type n)(c:o.data=.fields vs)
  (b:["enumerate","zip","dict_itemiterator","dict_reverseitemiterator","odict_iterator","itertools.zip_longest","itertools.pairwise"].contains n=false) (a:Q () s):wpAny M A (letOwnedTupleGo tg (.ref it) u) Q E s:=by
 unfold letOwnedTupleGo;cases tg<;>first
  |exact MA a
  |(cases u<;>first
    |exact MA a
    |(refine Mu (wpAny_load ho ?_);rw[d,c];show wpAny M A (if (["enumerate","zip","dict_itemiterator","dict_reverseitemiterator","odict_iterator","itertools.zip_longest","itertools.pairwise"].contains n&&vs[0]?==@(rawInt _))=true then _ else _) Q E s;rw[MN (by intro h;rw[b,Bool.false_and] at h;cases h)];exact MA a))
def Iu(K:ae)(a:Addr):It:=
 ⟨λ i H=>∃b x,dI K H a b/\b[i]?=some x,λ i H x c=>c=H/\∀b,dI K H a b->b[i]?=some x,λ i H=>∃b,dI K H a b/\b.length<=i⟩
def Jg(K:ae)(a:Addr):It:=
 ⟨λ i H=>∃b x,bI K H a b/\b[i]?=some x,λ i H x c=>c=H/\∀b,bI K H a b->b[i]?=some x,λ i H=>∃b,bI K H a b/\b.length<=i⟩
def Iv(lo:Int)(n:Nat):It:=⟨λ i _=>i<n,λ i H x a=>a=H/\x=.int (lo+i),λ i _=>n<=i⟩
theorem rT(a it:Addr):Turn P w K tg (Iu K a) [it] it (λ i h=>h.IsListIter it a i) where
 mem:=by simp
 obj:=λ i h st b f=>by
  have e:b=it:=by simpa using f
  subst e;let⟨o,e,c,d⟩:=st;exact⟨o,e,λ v z=>by rw[d] at z;cases z⟩
 keep:=λ i h l st k=>st.at λ o e=>k it 's' o e
 item:=by
  intro X r hw t hc i B s Y H E I hf st q;subst r hw t;let⟨xs,x,j,n⟩:=q;let⟨its,m,p,F⟩:=I.list j;let⟨u,J,D⟩:=m.get n;let⟨f0,f1,f2,A,f4,y⟩:=hf it 's';refine Pr st p.isList (x:=u) (~~~J) λ l g C=>?_;have M:Inv X B Y H {s with heap:=l}:=I.turned (t':=s.toks) (λ b o f e=>(C.2 b f).trans e) f0 f1 A f4 y;let⟨o,e,c,d⟩:=id g;exact⟨u,rfl,p6 (s:={s with heap:=l}) e c d 'd' ⟨x,H,M,D,⟨rfl,λ N G=>by rw[I.lQ G j];exact n⟩,g,λ b f=>(hf b f).1⟩⟩
 done:=by
  intro X r hw t hc i B s Y H E I hf st q;subst r hw t;let⟨xs,j,n⟩:=q;let⟨its,m,p,F⟩:=I.list j;let⟨f0,f1,f2,A,f4,y⟩:=hf it 's';have O:=m.length;exact wpAny_pyNext_list_end (I.ok.hd hc) st p.isList (by simp;lia) λ l L=>⟨rfl,I.turned (t':=s.toks) (λ b o f e=>L b o f e) f0 f1 A f4 y⟩
 self:=λ _ _ _ _ _ st h=>wpAny_pyIter_listiter st h
theorem oi(a it:Addr):Turn P w K tg (Jg K a) [it] it (λ i h=>h.IsTupleIter it a i) where
 mem:=by simp
 obj:=λ i h st b f=>by
  have e:b=it:=by simpa using f
  subst e;let⟨o,e,c,d⟩:=st;exact⟨o,e,λ v z=>by rw[d] at z;cases z⟩
 keep:=λ i h l st k=>st.at λ o e=>k it 's' o e
 item:=by
  intro X r hw t hc i B s Y H E I hf st q;subst r hw t;let⟨xs,x,j,n⟩:=q;let⟨its,m,p,F⟩:=I.tuple j;let⟨u,J,D⟩:=m.get n;let⟨f0,f1,f2,A,f4,y⟩:=hf it 's';refine wpAny_pyNext_tuple_item st (show s.heap.IsTuple a its.toArray from p) (x:=u) (~~~J) λ l g C=>?_;have M:Inv X B Y H {s with heap:=l}:=I.turned (t':=s.toks) (λ b o f e=>(C.2 b f).trans e) f0 f1 A f4 y;let⟨o,e,c,d⟩:=id g;exact⟨u,rfl,p6 (s:={s with heap:=l}) e c d 'd' ⟨x,H,M,D,⟨rfl,λ N G=>by rw[I.ju G j];exact n⟩,g,λ b f=>(hf b f).1⟩⟩
 done:=by
  intro X r hw t hc i B s Y H E I hf st q;subst r hw t;let⟨xs,j,n⟩:=q;let⟨its,m,p,F⟩:=I.tuple j;let⟨f0,f1,f2,A,f4,y⟩:=hf it 's';have O:=m.length;exact wpAny_pyNext_tuple_end (I.ok.hd hc) st (show s.heap.IsTuple a its.toArray from p) (by simp;lia) λ l L=>⟨rfl,I.turned (t':=s.toks) (λ b o f e=>L b o f e) f0 f1 A f4 y⟩
 self:=λ _ _ _ _ _ st h=>wpAny_pyIter_tupleiter st h
theorem oj(it:Addr)(lo:Int)(n:Nat):Turn P w K tg (Iv lo n) [it] it (λ i h=>IsRangeIter h it (lo+(i:Nat)*1) ((n:Int) - (i:Nat)) 1) where
 mem:=by simp
 obj:=λ i h st b a=>by
  have e:b=it:=by simpa using a
  subst e;exact⟨_,st,λ v z=>by
   have r:Data.fields _=Data.cell v:=z;cases r⟩
 keep:=λ i h d st k=>k it 's' _ st
 item:=by
  intro X g hw j hc i q s Y H E I hf st f;subst g hw j;let⟨f0,f1,f2,m,f4,l⟩:=hf it 's';have W:=Walks.range (prog:=X.prog) (w:=X.w) (I.ok.hd hc) it lo 1 n;refine W.item i s _ _ f st λ v d p u c kk=>?_;let⟨t,rfl⟩:=u;have y:Inv X q Y H {s with heap:=d,toks:=p}:=I.turned (λ b o a e=>kk b o (~~~a) e) f0 f1 m f4 l;refine⟨_,rfl,p6 (s:={s with heap:=d,toks:=p}) (n:="range_iterator") c rfl rfl 'd' ⟨.int (lo+i),H,y,⟨t,?_⟩,⟨rfl,rfl⟩,c,λ b a=>(hf b a).1⟩⟩;rw[Int.mul_one]
 done:=by
  intro X g hw j hc i q s Y H E I hf st f;subst g hw j;let⟨f0,f1,f2,m,f4,l⟩:=hf it 's';exact wpAny_pyNext_range_end (I.ok.hd hc) st (by have:n<=i:=f;lia) λ d x=>⟨rfl,I.turned (t':=s.toks) (λ b o a e=>x b o a e) f0 f1 m f4 l⟩
 self:=λ _ _ _ _ _ st h=>wpAny_pyIter_rangeiter st h
end L2
namespace L2
open PySem PySem.Spec PyProof.Rows List
variable{H:Hp}{fp:List Addr}{aa:List (Addr×Obj)}{s:Shared}{Y:St}
section
variable{X:Cx}{tg:Expr}
def Gq(K:ae)(d:TE):TI:=fun Y H R=>d Y H λ x b=>∃a,x=.ref a/\(∃c,dI K b a c)/\R (Iu K a) b
def Jh(K:ae)(d:TE):TI:=fun Y H R=>d Y H λ x b=>∃a,x=.ref a/\(∃c,bI K b a c)/\R (Jg K a) b
theorem yo{l:Expr}{f:TE}(m:PE X l f):PI X tg l (Gq X.K f):=by
 intro aa s Y H R I h;refine aJ (m aa s Y H _ I h) λ v c ⟨x,r,d,g,i⟩=>?_;let⟨a,e,⟨t,k⟩,q⟩:=i;subst e;cases g;let⟨j,u,p,w⟩:=d.list k;refine OB p.isList ?_;refine⟨c⁻¹,[c⁻¹],_,_,r,rfl,d.kept (t':=c.toks) λ b o e=>Mv _ e,rT a _,⟨_,MC _ rfl,rfl,rfl⟩,λ b n=>?_,q⟩;have e:b=c⁻¹:=by simpa using n
 subst e;exact d.lT (MB _) (d.hok.fresh (MB _))
theorem CB{l:Expr}{g:TE}(m:PE X l g):PI X tg l (Jh X.K g):=by
 intro aa s Y H R I h;refine aJ (m aa s Y H _ I h) λ v c ⟨x,r,d,i,j⟩=>?_;let⟨a,e,⟨t,k⟩,q⟩:=j;subst e;cases i;let⟨f,u,p,w⟩:=d.tuple k;refine NU (show c.heap.IsTuple a f.toArray from p) ?_;refine⟨c⁻¹,[c⁻¹],_,_,r,rfl,d.kept (t':=c.toks) λ b o e=>Mv _ e,oi a _,⟨_,MC _ rfl,rfl,rfl⟩,λ b n=>?_,q⟩;have e:b=c⁻¹:=by simpa using n
 subst e;exact d.lT (MB _) (d.hok.fresh (MB _))
theorem uu{R:It->Hp->Prop}{E:Value->Shared->Prop}{lo a:Int}{t u v:Tok}{tk:Nat}(I:Inv X aa Y H s)(i:-(2^62)<=lo)(h:lo<2^62)(g:-(2^62)<=a)(f:a<2^62)
  (q:R (Iv lo (a - lo).toNat) H):wpAny (model X.prog X.w) X.A (pyIter (.ref s⁻¹)) (Kz X aa Y tg R) E {s with heap:=s.heap.push {cls:=.type "range",data:=.fields #[.int lo t,.int a u,.int 1 v]},toks:=tk}:=by
 refine wpAny_pyIter_range (IsRange.new ..) (small_one i h g f) ?_;have c:Inv X aa Y H {s with heap:=s.heap.push {cls:=.type "range",data:=.fields #[.int lo t,.int a u,.int 1 v]},toks:=tk}:=I.kept λ b o e=>Mv _ e;refine⟨(s.heap.push {cls:=.type "range",data:=.fields #[.int lo t,.int a u,.int 1 v]}).objs.size,[(s.heap.push {cls:=.type "range",data:=.fields #[.int lo t,.int a u,.int 1 v]}).objs.size],_,_,H,rfl,
  c.kept (t':=tk) λ b o e=>Mv _ e,oj _ lo (a - lo).toNat,?_,λ b d=>?_,q⟩
 .have k:lo+((0:Nat):Int)*1=lo:=by simp
  have j:(((a - lo).toNat:Nat):Int) - ((0:Nat):Int)=Builtin.Range.rangeSize lo a 1:=by rw[rangeSize_one];split<;>lia
  show IsRangeIter _ _ (lo+((0:Nat):Int)*1) ((((a - lo).toNat:Nat):Int) - ((0:Nat):Int)) 1;rw[k,j];exact MC _ rfl
 .have e:b=(s.heap.push {cls:=.type "range",data:=.fields #[.int lo t,.int a u,.int 1 v]}).objs.size:=by simpa using d
  subst e;exact c.lT (MB _) (c.hok.fresh (MB _))
def Gr(b:TA):TI:=fun Y H R=>b Y H λ a c=>∃j:Int,a=[.int j]/\-(2^62)<=j/\j<2^62/\R (Iv 0 j.toNat) c
theorem rV{a:Expr}{c:TA}{p pos:Pos}(l:Gl X "range")(k:X.mg "range"=none)(m:PA X [a] c)(i:starEach [a] X.env=[(false,eval a X.env)]:=by rfl):PI X tg (.Call (.Name "range" p) [a] [] pos) (Gr c):=by
 intro aa s Y H R I h;refine Call_ (eY I l k boot_range (NR (aJ (m pos aa s Y H _ I h) λ u v ⟨o,w,n,f,b⟩=>?_) i rfl));let⟨j,e,b,g,q⟩:=b;subst e;cases f with
 |cons r d=>
  cases d;let⟨t,rfl⟩:=r;exact call_range_1 (uu n 'o' 'o' b g (~~~q))
def Ji(f:TI)(g:TG)(tb:TS):TS:=λ D Y H=>f Y H λ d j=>∃W:Nat->Nat->St->Hp->Prop,(∃m,W 0 m Y j)/\∀i m Y H,W i m Y H->
 (d.stop i H/\D.nx Y H)\/(d.go i H/\∃N:St->Hp->Prop,(∀a b,N a b->∃e,e<m/\W (i+1) e a b)/\∀x b,d.yld i H x b->g x Y b fun c h=>tb {D with nx:=N,ct:=N,bk:=D.nx} c h)
def ic(fp:List Addr)(h:Heap):List (Addr×Obj):=fp.filterMap λ b=>(h.get? b).map λ o=>(b,o)
theorem dj{h:Heap}{b:Addr}{o:Obj}(a:b∈fp)(e:h.get? b=some o):(b,o)∈ic fp h:=List.mem_filterMap.mpr ⟨b,a,by rw[e];rfl⟩
theorem rW{h:Heap}{p:Addr×Obj}(a:p∈ic fp h):p.1∈fp/\h.get? p.1=some p.2:=by
 let⟨b,c,e⟩:=List.mem_filterMap.mp a;cases q:h.get? b with
 |none=>rw[q] at e;cases e
 |some o=>
  rw[q] at e;have d:(b,o)=p:=M0 e;subst d;exact⟨c,q⟩
theorem Inv.pinned(I:Inv X aa Y H s)(g:∀b∈fp,fT X aa H b)(ho:∀b∈fp,∃o,s.heap.get? b=some o/\∀v,o.data≠.cell v):Inv X (aa++ic fp s.heap) Y H s:=
 I.pX λ p f=>(M7.mp f).elim (λ z=>I.pin p (Nb _ z)) λ z=>by
  let⟨a,e⟩:=rW z;let⟨j,i,h,_⟩:=g p.1 a;let⟨o,c,d⟩:=ho p.1 a;rw[e] at c;cases c;exact⟨e,j,i,h,d⟩
theorem Inv.fu{a:List (Addr×Obj)}(I:Inv X (aa++a) Y H s):Inv X aa Y H s:=I.pX λ p b=>I.pin p (Nb _ (NO _ b))
theorem CC{j:Expr}{body:List Stmt}{R:TI}{g:TG}{tb:TS}{pos:Pos}(G:PassesOwn (model X.prog X.w) X.A X.env X.xe)(hc:X.calm=true)(hi:PI X tg j R)(hg:PG X tg g)(k:dO X body tb)
  (hs:∀x,foldedSetIterable j X.env x=pure x:=by intro _;rfl):PS X (.For tg j body [] pos) (Ji R g tb):=by
 intro aa s Y H D I h;refine wpAny_For (aJ (hi aa s Y H _ I h) λ v s1 h1=>aJ h1 λ itv s2 h2=>?_) hs;let⟨it,fp,S,Ms,H2,e,I2,T,M,f2,W,⟨m0,w0⟩,C⟩:=h2;subst e;have c:∀{y:Hp},(∀b∈fp,y b=none)->∀b∈fp,fT X aa y b:=λ hn b k=>⟨hn b k,(f2 b k).2⟩;refine codeAny_forLoop_any (λ n Z=>∃i a y,Inv X aa a y Z/\S i Z.heap/\(∀b∈fp,y b=none)/\W i n a y) ?_ m0 ⟨0,Y,H2,I2,M,λ b k=>(f2 b k).1,w0⟩;rintro n V ⟨i,K,L,I3,E,J,w3⟩;rcases C i n K L w3 with⟨stop,qn⟩ | ⟨go,N,hN,step⟩
 .refine N1 G (aJ (T.done X rfl rfl rfl hc i aa V K L X.xe I3 (c J) E stop) λ r s4 ⟨P,I4⟩=>?_);subst P;exact OP ⟨K,L,I4,qn⟩
 .refine N1 G (aJ (T.item X rfl rfl rfl hc i aa V K L X.xe I3 (c J) E go) λ r s4 ⟨u,P,h4⟩=>?_);subst P;refine N1 G (aJ h4 λ _ U ⟨x,H5,I5,r5,y5,B,Q⟩=>?_);have Lg:=I5.pinned (c Q) (T.obj _ _ B);refine N1 G (aJ (hg _ U K H5 x u _ Lg r5 (step x H5 y5)) λ _ s6 ⟨Y6,H6,I6,q6⟩=>?_);refine N1 G (aJ (k _ s6 Y6 H6 _ I6 q6) λ f O z=>?_);have l:∀{p:St} {t:Hp},Inv X (aa++ic fp U.heap) p t O->N p t->Exists λ m=>m<n/\∃i a y,Inv X aa a y O/\S i O.heap/\(∀b∈fp,y b=none)/\W i m a y:=λ {p t} q F=>by
   let⟨m',hm,w7⟩:=hN p t F;refine⟨m',hm,i+1,p,t,q.fu,T.keep _ _ _ B λ b k o e=>(q.pin (b,o) (Nb _ (Nb _ (dj k e)))).1,λ b k=>?_,w7⟩;let⟨o,e,d⟩:=T.obj _ _ B b k;exact(q.pin (b,o) (Nb _ (Nb _ (dj k e)))).2.1
  cases f with
  |next=>let⟨p,t,q,F⟩:=z;exact l q F
  |cont=>let⟨p,t,q,F⟩:=z;exact l q F
  |brk=>let⟨p,t,q,z⟩:=z;exact⟨p,t,q.fu,z⟩
  |ret v=>let⟨x7,p,t,q,r7,z⟩:=z;exact⟨x7,p,t,q.fu,r7,z⟩
end
end L2
namespace L2
open PySem PySem.Spec PyProof.Rows List
variable{f:Value->Value->Sem Value}{op:CmpOp}
abbrev R2:=V->V->Hp->VK->Prop
def dg(X:Cx)(f:Value->Value->Sem Value)(r:R2):Prop:=
 ∀(a:List (Addr×Obj)) (s:Shared) (Y:St) (H:Hp) (x y:V) (v u:Value) (Q:VK),Inv X a Y H s->RelV x v->RelV y u->r x y H Q->
  wpAny (model X.prog X.w) X.A (f v u) (EP X a Y Q) X.xe s
def Jj(X:Cx)(f:Value->Sem Value)(r:V->Hp->VK->Prop):Prop:=
 ∀(a:List (Addr×Obj)) (s:Shared) (Y:St) (H:Hp) (x:V) (v:Value) (Q:VK),Inv X a Y H s->RelV x v->r x H Q->
  wpAny (model X.prog X.w) X.A (f v) (EP X a Y Q) X.xe s
def aW(X:Cx)(f:Value)(r:List V->Hp->VK->Prop):Prop:=
 ∀(c:List (Addr×Obj)) (s:Shared) (Y:St) (H:Hp) (a:List V) (b:List Value) (Q:VK),Inv X c Y H s->Vals a b->r a H Q->
  wpAny (model X.prog X.w) X.A (call f b) (EP X c Y Q) X.xe s
def Jk(X:Cx)(r:V->Hp->(Bool->Hp->Prop)->Prop):Prop:=
 ∀(a:List (Addr×Obj)) (s:Shared) (Y:St) (H:Hp) (x:V) (v:Value) (Q:Bool->Hp->Prop),Inv X a Y H s->RelV x v->r x H Q->
  wpAny (model X.prog X.w) X.A (truthy v) (TP X a Y Q) X.xe s
def Iw(r:R2)(a tb:TE):TE:=fun Y H Q=>a Y H λ x c=>tb Y c λ y b=>r x y b Q
def Lh(r:V->Hp->VK->Prop)(a:TE):TE:=fun Y H Q=>a Y H λ x b=>r x b Q
def rI(C:Int->Int->Prop)(g:Int->Int->V):R2:=λ x y H Q=>∃i j,x=.int i/\y=.int j/\C i j/\Q (g i j) H
def AI(g:Int->Int->V):R2:=λ x y H Q=>∃i j,x=.int i/\y=.int j/\Q (g i j) H
def rU(g:Int->V):V->Hp->VK->Prop:=λ x H Q=>∃i,x=.int i/\Q (g i) H
section
variable{X:Cx}{a b c:Expr}{ta tb tc:TE}{pos:Pos}
theorem CD(t:PE X a ta)(r:PE X b tb){j:List (Addr×Obj)}{s:Shared}{Y:St}{H:Hp}{R:V->V->Hp->Prop}(I:Inv X j Y H s)
  (h:ta Y H λ x k=>tb Y k λ y d=>R x y d) {Q:Value->Shared->Prop}
  (q:∀v u i x y d,Inv X j Y d i->RelV x v->RelV y u->R x y d->wpAny (model X.prog X.w) X.A (f v u) Q X.xe i) :
  wpAny (model X.prog X.w) X.A (eval a X.env) (λ v g=>wpAny (model X.prog X.w) X.A (eval b X.env) (λ u e=>wpAny (model X.prog X.w) X.A (f v u) Q X.xe e) X.xe g) X.xe s:=by
 refine aJ (t j s Y H _ I h) λ v l ⟨x,k,B,n,p⟩=>?_;refine aJ (r j l Y k _ B p) λ u i ⟨y,d,z,m,o⟩=>?_;exact q v u i x y d z n m o
theorem Gs{op:Operator}{r:R2}(ho:dg X (binaryOp op) r)(j:PE X a ta)(i:PE X b tb):PE X (.BinOp a op b pos) (Iw r ta tb):=by
 intro k s Y H Q I h;exact wpAny_BinOp (CD j i I h λ v u d x y m l g e q=>ho k d Y m x y v u Q l g e q)
theorem Gu{op:UnaryOp}{r:V->Hp->VK->Prop}(ho:Jj X (unaryOp op) r)(j:PE X a ta):PE X (.UnaryOp op a pos) (Lh r ta):=by
 intro d s Y H Q I h;exact UnaryOp_ (aJ (j d s Y H _ I h) λ v e ⟨x,l,k,g,i⟩=>ho d e Y l x v Q k g i)
theorem Iz{C:Int->Int->Prop}{g:Int->Int->Int}
  (d:∀(i j:Int) (t u:Tok) (s:Shared) (Q:Value->Shared->Prop) (E:Value->Shared->Prop),C i j->Q (.int (g i j) s.toks) {s with toks:=s.toks+1}->wpAny (model X.prog X.w) X.A (f (.int i t) (.int j u)) Q E s) :
  dg X f (rI C λ i j=>.int (g i j)):=by
 intro n s Y H x y v u Q I l k h;let⟨i,j,rfl,rfl,m,q⟩:=h;let⟨t,rfl⟩:=l;let⟨e,rfl⟩:=k;exact d i j t e s _ _ m ⟨.int (g i j),H,I.tok _,⟨_,rfl⟩,q⟩
theorem Gv{g:Int->Int->Int}
  (d:∀(i j:Int) (t u:Tok) (s:Shared) (Q:Value->Shared->Prop) (E:Value->Shared->Prop),Q (.int (g i j) s.toks) {s with toks:=s.toks+1}->wpAny (model X.prog X.w) X.A (f (.int i t) (.int j u)) Q E s) :
  dg X f (AI λ i j=>.int (g i j)):=by
 intro m s Y H x y v u Q I l k h;let⟨i,j,rfl,rfl,q⟩:=h;let⟨t,rfl⟩:=l;let⟨e,rfl⟩:=k;exact d i j t e s _ _ ⟨.int (g i j),H,I.tok _,⟨_,rfl⟩,q⟩
theorem yp{g:Int->Int->Bool}
  (d:∀(i j:Int) (t u:Tok) (s:Shared) (Q:Value->Shared->Prop) (E:Value->Shared->Prop),Q (.bool (g i j)) s->wpAny (model X.prog X.w) X.A (f (.int i t) (.int j u)) Q E s) :
  dg X f (AI λ i j=>.bl (g i j)):=by
 intro m s Y H x y v u Q I l k h;let⟨i,j,rfl,rfl,q⟩:=h;let⟨t,rfl⟩:=l;let⟨e,rfl⟩:=k;exact d i j t e s _ _ ⟨.bl (g i j),H,I,rfl,q⟩
def Gw(i j:Int):Prop:=0<j/\j<1073741824
def Jl(i j:Int):Prop:=0<=j/\j<=1000000/\i.natAbs<2^64
def yq(i j:Int):Prop:=(-(2^64)<i/\i<2^64)\/(-(2^64)<j/\j<2^64)
theorem yq.ok{i j:Int}(h:yq i j):IntMulOk i j:=by
 rcases h with⟨e,d⟩ | ⟨e,d⟩
 .exact .of_left (intBits_le_64 e d)
 .exact .of_right (intBits_le_64 e d)
theorem CG:dg X (binaryOp .Add) (AI λ i j=>.int (i+j)):=Gv λ _ _ _ _ _ _ _ q=>add_int q
theorem CH:dg X (binaryOp .Sub) (AI λ i j=>.int (i - j)):=Gv λ _ _ _ _ _ _ _ q=>sub_int q
theorem CI:dg X (binaryOp .Mult) (rI yq λ i j=>.int (i*j)):=Iz λ _ _ _ _ _ _ _ d q=>mul_int q d.ok
theorem yr:dg X (binaryOp .FloorDiv) (rI Gw λ i j=>.int (i / j)):=Iz λ i j _ _ _ _ _ d q=>by
 have g:(0:Int)<j:=d.1;have e:j<1073741824:=d.2;exact floordiv_int 'o' (by rw[O2 i 'o'];exact q) (.inl (Pu 'o'))
theorem CJ:dg X (binaryOp .Mod) (rI (λ _ j=>0<j) λ i j=>.int (i%j)):=Iz λ i j _ _ _ _ _ d q=>by
 have e:(0:Int)<j:=d;exact mod_int' 'o' (by rw[O3 i 'o'];exact q)
theorem CK:dg X (binaryOp .Pow) (rI Jl λ i j=>.int (i^j.toNat)):=Iz λ _ _ _ _ _ _ _ d q=>pow_int_small d.1 d.2.1 d.2.2 q
theorem Li{f:Value->Sem Value}{g:Int->Int}
  (d:∀(i:Int) (t:Tok) (s:Shared) (Q:Value->Shared->Prop) (E:Value->Shared->Prop),Q (.int (g i) s.toks) {s with toks:=s.toks+1}->wpAny (model X.prog X.w) X.A (f (.int i t)) Q E s) :
  Jj X f (rU λ i=>.int (g i)):=by
 intro j s Y H x v Q I e h;let⟨i,rfl,q⟩:=h;let⟨t,rfl⟩:=e;exact d i t s _ _ ⟨.int (g i),H,I.tok _,⟨_,rfl⟩,q⟩
theorem CM:Jj X (unaryOp .USub) (rU λ i=>.int (-i)):=Li λ _ _ _ _ _ q=>neg_int q
end
section
variable{X:Cx}{a b c:Expr}{ta tb tc:TE}{pos:Pos}
theorem ki{g:List (Addr×Obj)}{Y:St}{H:Hp}{s:Shared}{Q:VK}{k d:Bool}(I:Inv X g Y H s)(q:Q (.bl k) H)(e:k=d):EP X g Y Q (.bool d) s:=by
 subst e;exact⟨.bl k,H,I,rfl,q⟩
theorem Gx:dg X (compareOp .Lt) (AI λ i j=>.bl (decide (i<j))):=yp λ _ _ _ _ _ _ _ q=>lt_int q
theorem Gy:dg X (compareOp .LtE) (AI λ i j=>.bl (decide (i<=j))):=yp λ _ _ _ _ _ _ _ q=>le_int q
theorem Gz:dg X (compareOp .Gt) (AI λ i j=>.bl (decide (j<i))):=yp λ _ _ _ _ _ _ _ q=>gt_int q
theorem GA:dg X (compareOp .GtE) (AI λ i j=>.bl (decide (j<=i))):=yp λ _ _ _ _ _ _ _ q=>ge_int q
theorem rX:dg X (compareOp .In) (λ x y H Q=>∃i j,x=.str i/\y=.str j/\Q (.bl (!(Builtin.Str.occurrences j i 0 j.length 1).isEmpty)) H):=by
 intro k s Y H x y v u Q I e d h;let⟨i,j,rfl,rfl,q⟩:=h;let⟨t,rfl⟩:=e;let⟨g,rfl⟩:=d;exact in_str (ki I q rfl)
theorem CN:dg X (compareOp .Is) (λ x y H Q=>y=.non/\Q (.bl (decide (x=.non))) H):=by
 intro g s Y H x y v u Q I d e h;let⟨rfl,q⟩:=h;cases e;refine is_none_gen (ki I q ?_);cases x<;>first
  |(cases d;rfl)
  |(let⟨t,rfl⟩:=d;rfl)
theorem yt:dg X (compareOp .IsNot) (λ x y H Q=>y=.non/\Q (.bl (!decide (x=.non))) H):=by
 intro g s Y H x y v u Q I d e h;let⟨rfl,q⟩:=h;cases e;refine isnot_none_gen (ki I q ?_);cases x<;>first
  |(cases d;rfl)
  |(let⟨t,rfl⟩:=d;rfl)
theorem p7{r:R2}(ho:dg X (compareOp op) r)(k:PE X a ta)(j:PE X b tb)(i:behindInMarks op b=false):PE X (.Compare a [op] [b] pos) (Iw r ta tb):=by
 intro l s Y H Q I h;exact wpAny_Compare1 (CD k j I h λ v u d x y n m g e q=>ho l d Y n x y v u Q m g e q) i
def AJ(t:TE):TT:=fun Y H Q=>t Y H λ x d=>∃k,x=.bl k/\Q k d
theorem p8{r:R2}(ho:dg X (compareOp op) r)(w:PE X a ta)(t:PE X b tb)(q:behindInMarks op b=false):PT X (.Compare a [op] [b] pos) (AJ (Iw r ta tb)):=by
 intro d s Y H Q I h;refine wpAny_isTrue_Compare1 (aJ (w d s Y H _ I h) λ v i ⟨x,F,C,m,p⟩=>aJ (t d i Y F _ C p) λ u g ⟨y,E,B,l,o⟩=>
  aJ (ho d g Y E x y v u _ B m l o) λ c G ⟨z,D,A,j,k,e,n⟩=>?_) q
 subst e;cases j;exact Nn ⟨D,A,n⟩
def om(r g:R2)(ta tb tc:TE):TE:=fun Y H Q=>ta Y H λ x j=>tb Y j λ y i=>r x y i λ z d=>∃k,z=.bl k/\
 (if k=true then tc Y d λ e h=>g y e h Q else Q (.bl false) d)
theorem uv{g:CmpOp}{r m:R2}(ho:dg X (compareOp op) r)(j:dg X (compareOp g) m)(O:PE X a ta)(N:PE X b tb)(M:PE X c tc)
  (L:lastMarks [op,g] [b,c]=false:=by with_unfolding_all rfl):PE X (.Compare a [op,g] [b,c] pos) (om r m ta tb tc):=by
 intro i s Y H Q I h;refine Compare_chain (aJ (O i s Y H _ I h) λ v C ⟨x,V,S,F,K⟩=>chain_link (aJ (N i C Y V _ S K) λ u B ⟨y,U,R,l,J⟩=>
  aJ (ho i B Y U x y v u _ R F l J) λ d A ⟨z,p,o,E,k,e,n⟩=>?_)) L
 subst e;cases E;refine Nn ?_;cases k with
 |false=>exact ite_ff ⟨.bl false,p,o,rfl,n⟩
 |true=>exact ite_tt (chain_last (aJ (M i A Y p _ o n) λ t w ⟨q,T,P,D,G⟩=>j i w Y T y q u t Q P l D G))
theorem uw{g:CmpOp}{r m:R2}(ho:dg X (compareOp op) r)(j:dg X (compareOp g) m)(S:PE X a ta)(R:PE X b tb)(P:PE X c tc)
  (O:lastMarks [op,g] [b,c]=false:=by with_unfolding_all rfl):PT X (.Compare a [op,g] [b,c] pos) (AJ (om r m ta tb tc)):=by
 intro i s Y H Q I h;refine isTrue_chain (aJ (S i s Y H _ I h) λ v C ⟨x,H1,I1,G,M⟩=>test_link (aJ (R i C Y H1 _ I1 M) λ u B ⟨y,H2,Z,l,L⟩=>
  aJ (ho i B Y H2 x y v u _ Z G l L) λ d A ⟨z,p,o,F,k,e,n⟩=>?_)) O
 subst e;cases F;refine Nn ?_;cases k with
 |false=>
  let⟨k',U,N⟩:=n;cases U;exact ite_ff ⟨p,o,N⟩
 |true=>
  refine ite_tt (test_last (aJ (P i A Y p _ o n) λ t w ⟨q,H4,W,E,K⟩=>aJ (j i w Y H4 y q u t _ W l E K) λ d' s5 ⟨z2,H5,V,D,k2,T,J⟩=>?_));subst T;cases D;exact Nn ⟨H5,V,J⟩
def yu(K:ae)(x:V)(H:Hp)(k:Bool):Prop:=
 match x with
 |.non=>k=false
 |.bl b=>k=b
 |.int i=>k=(i != 0)
 |.str y=>y.length<=sizeLine/\k=((y.length:Int) != 0)
 |.byt y=>y.size<=sizeLine/\k=((y.size:Int) != 0)
 |.ref p=>(∃d,dI K H p d/\k=!d.isEmpty)\/(∃d,bI K H p d/\k=!d.isEmpty)\/∃e,H p=some (.dK e)/\k=!e.isEmpty
 |_=>False
theorem oq{e:Type}{d:List (e×V)}{vs:List (e×Value)}(r:KV d vs):(!vs.isEmpty)=!d.isEmpty:=by
 cases r<;>rfl
theorem ie{xs:List V}{its:List Value}(r:Vals xs its):(!its.toArray.isEmpty)=!xs.isEmpty:=by
 cases r<;>simp
theorem eZ:(sizeLine:Nat)<2^63:=by rw[NS];decide
theorem ux:Jk X (λ x H Q=>∃k,yu X.K x H k/\Q k H):=by
 intro G s Y H x v Q I n h;let⟨k,e,q⟩:=h;have F:=eZ;have E:sizeLine=16777216:=NS;cases x with
 |non=>
  cases n;have d:k=false:=e;subst d;exact truthy_none ⟨H,I,q⟩
 |bl b=>
  cases n;have d:k=b:=e;subst d;exact Nn ⟨H,I,q⟩
 |int i=>
  let⟨t,rfl⟩:=n;have d:k=(i != 0):=e;subst d;exact PySem.P.truthy_int ⟨H,I,q⟩
 |str y=>
  let⟨t,rfl⟩:=n;obtain⟨C,d⟩:y.length<=sizeLine/\k=((y.length:Int) != 0):=e;subst d;exact PySem.P.truthy_str 'o' ⟨H,I.tok _,q⟩
 |byt y=>
  let⟨t,rfl⟩:=n;obtain⟨C,d⟩:y.size<=sizeLine/\k=((y.size:Int) != 0):=e;subst d;exact PySem.W.truthy_bytes 'o' ⟨H,I.tok _,q⟩
 |ref p=>
  cases n;have d:(∃l,dI X.K H p l/\k=!l.isEmpty)\/(∃l,bI X.K H p l/\k=!l.isEmpty)\/∃g,H p=some (.dK g)/\k=!g.isEmpty:=e;rcases d with⟨l,o,d⟩ | ⟨l,o,d⟩ | ⟨g,o,d⟩
  .subst d;let⟨A,r,z,B⟩:=I.list o;have j:=r.length;exact wpAny_truthy_list z.isList (by erw[ME];lia) ⟨H,I.tok _,by rw[ie r];exact q⟩
  .subst d;let⟨A,r,z,B⟩:=I.tuple o;have j:=r.length;exact truthy_tuple z (by erw[ME];lia) ⟨H,I.tok _,by rw[ie r];exact q⟩
  .subst d;obtain⟨B,D,u,r,m⟩:g.length<=sizeLine/\(p==sysModules)=false/\∃u,KV g u/\s.heap.DictOf (aB X.prog X.w) p u:=I.hok p _ o;have j:g.length=u.length:=Qd r;exact wpAny_truthy_dict D m 'o' ⟨H,I.tok _,by rw[oq r];exact q⟩
 |_=>exact(show False from e).elim
theorem uy(n:PE X a ta)(m:∀d,isTrue a X.env d=(do let v <-d;standAt a.pos;holding [v] (truthy v))) :
  PT X a (fun Y H Q=>ta Y H λ x g=>∃k,yu X.K x g k/\Q k g):=by
 intro e s Y H Q I h;exact isTrue_plain (aJ (n e s Y H _ I h) λ v i ⟨x,p,o,j,l⟩=>ux e i Y p x v Q o j l) (m _)
theorem vals1{x:V}{us:List Value}(r:Vals [x] us):∃u,us=[u]/\RelV x u:=by
 cases r with
 |cons e d=>cases d;exact⟨_,rfl,e⟩
theorem vals2{x y:V}{us:List Value}(r:Vals [x,y] us):∃u d,us=[u,d]/\RelV x u/\RelV y d:=by
 cases r with
 |cons i h=>
  cases h with
  |cons g e=>cases e;exact⟨_,_,rfl,i,g⟩
theorem uz:aW X (.builtin "abs") (λ xs H Q=>∃i,xs=[.int i]/\Q (.int (if i<0 then -i else i)) H):=by
 intro g s Y H xs d Q I r h;let⟨i,rfl,q⟩:=h;let⟨u,rfl,t,rfl⟩:=vals1 r;exact call_abs_int λ u e=>⟨.int (if i<0 then -i else i),H,I.tok _,⟨_,rfl⟩,q⟩
theorem rY(e:X.calm=true):aW X (.builtin "max") (λ xs H Q=>∃i j,xs=[.int i,.int j]/\Q (.int (if j>i then j else i)) H):=by
 intro p s Y H xs l Q I r h;let⟨i,j,rfl,q⟩:=h;let⟨u,g,rfl,⟨t,rfl⟩,⟨n,rfl⟩⟩:=vals2 r;refine max_two_ints (I.ok.hd e) λ o m k=>⟨_,H,I.kept k,?_,q⟩
 by_cases d:j>i
 .rw[MO d,MO d];exact⟨_,rfl⟩
 .rw[MN d,MN d];exact⟨_,rfl⟩
theorem rZ(e:X.calm=true):aW X (.builtin "min") (λ xs H Q=>∃i j,xs=[.int i,.int j]/\Q (.int (if j<i then j else i)) H):=by
 intro p s Y H xs l Q I r h;let⟨i,j,rfl,q⟩:=h;let⟨u,g,rfl,⟨t,rfl⟩,⟨n,rfl⟩⟩:=vals2 r;refine min_two_ints (I.ok.hd e) λ o m k=>⟨_,H,I.kept k,?_,q⟩
 by_cases d:j<i
 .rw[MO d,MO d];exact⟨_,rfl⟩
 .rw[MN d,MN d];exact⟨_,rfl⟩
theorem jv:aW X (.type "int") (λ xs H Q=>(∃i,xs=[.int i]/\Q (.int i) H)\/∃k,xs=[.bl k]/\Q (.int (if k then 1 else 0)) H):=by
 intro g s Y H xs e Q I r h;rcases h with⟨i,rfl,q⟩ | ⟨k,rfl,q⟩
 .let⟨u,rfl,t,rfl⟩:=vals1 r;exact call_int_int ⟨.int i,H,I,⟨_,rfl⟩,q⟩
 .let⟨u,rfl,d⟩:=vals1 r;cases d;exact call_int_bool ⟨.int (if k then 1 else 0),H,I.tok _,⟨_,rfl⟩,q⟩
theorem lU:aW X (.builtin "divmod") (λ xs H Q=>∃i j,xs=[.int i,.int j]/\Gw i j/\∀p,H p=none->Q (.ref p) (upd H p (.tup [.int (i / j),.int (i%j)]))):=by
 intro v s Y H xs k Q I r h;let⟨i,j,rfl,⟨n,m⟩,q⟩:=h;let⟨u,g,rfl,⟨t,rfl⟩,⟨l,rfl⟩⟩:=vals2 r;refine divmod_int 'o' ?_ (.inl (Pu 'o'));rw[O2 i 'o',O3 i 'o'];have d:H s⁻¹=none:=I.hok.fresh (MB _);refine⟨.ref s⁻¹,_,?_,rfl,q _ d⟩;refine I.laid (λ b o e=>Mv _ e) (MB _) ⟨by erw[MX,Qg];rw[NS];decide,[.int (i / j) s.toks,.int (i%j) (s.toks+1)],.cons ⟨_,rfl⟩ %[|⟨_,rfl⟩],?_⟩;exact⟨_,MC s.heap rfl,⟨rfl,rfl⟩,0,rfl⟩
end
end L2
namespace L2
open PySem PySem.Spec PyProof.Rows List
variable{C:Addr}
structure lV(h:Heap)(x dx C:Addr)(mA:Str->Option Value):Prop where
 obj:h.get? x=@(PySem.W.instObj C dx)
 ns:h.Ns1 dx mA
 ne:dx≠x
theorem r9{h:Heap}{dx:Addr}{d:Str->Option Value}(n:h.Ns1 dx d):∃c,h.get? dx=some c/\∀name,PySem.W.lookIn name c=some (d name):=by
 let⟨o,f,p,i,l,k,_,j⟩:=n;refine⟨o,i,λ name=>?_⟩;have e:=j name;unfold nsFind findBy at e;rw[<-Array.find?_toList] at e;unfold PySem.W.lookIn;rw[l];dsimp only;split
 .ext y q;rw[q] at e;exact OA some e
 .ext q;rw[q] at e;have a:f.toList.any (·.refKey)=false:=by
   rw[any_eq_false];intro y g;let⟨z,t,b⟩:=k y (Array.mem_toList_iff.mp g);simp[DictEntry.refKey,b]
  have m:¬f.toList.any (·.refKey)=true:=by rw[a];exact M5
  rw[MN m];exact OA some e
theorem lV.look{h:Heap}{x dx:Addr}{b:Str->Option Value}(I:lV h x dx C b):∃a,PySem.W.InstAt h x (PySem.W.instObj C dx) C (some a)/\∀name,PySem.W.lookIn name a=some (b name):=
 let ⟨a,c,d⟩:=r9 I.ns
 ⟨a,⟨I.obj,rfl,rfl,c⟩,d⟩
section
variable{prog:Program}{w:World}{A:Around}{E:Value->Shared->Prop}{s:Shared}{K:ae}{x dx C f:Addr}{mA:Str->Option Value}{name:Str}{v:Value}
theorem get_map{a:Bool}{Q:Value->Shared->Prop}(X:K.In s.heap)(I:lV s.heap x dx C mA)(g:PySem.W.plainGet K C name=true)(e:PySem.W.hasDictIn K C=true)
  (i:PySem.W.findIn K (.ref C) name=some none) (c:mA name=some v) (b:PySem.W.handedIn v=true) (h:Q v {s with toks:=s.toks+1}) :
  wpAny (model prog w) A (getAttr (.ref x) name a) Q E s:=by
 let⟨k,j,d⟩:=I.look;exact PySem.W.get_value X j (OU g).1 (PySem.W.findObj_own e i rfl (by rw[d,c])) b h
theorem uA{b:Sem Bool}{Q:Value×List Value->Shared->Prop}(X:K.In s.heap)(I:lV s.heap x dx C mA)(a:PySem.W.plainGet K C name=true)
  (i:PySem.W.findIn K (.ref C) name=@(some (.ref f))) (e:PySem.W.isFn K (.ref f)=true) (d:mA name=none) (h:Q (.ref f,[.ref x]) s) :
  wpAny (model prog w) A (getMethod (.ref x) name b) Q E s:=by
 let⟨c,j,g⟩:=I.look;exact PySem.W.method_fn X j (OU a).1 (OU a).2 i (MZ.mp e) (by show (PySem.W.lookIn name c).map (·.isSome)=some false;rw[g,d];rfl) h
theorem yv{ns:List Str}{Q:Unit->Shared->Prop}(X:K.In s.heap)(I:lV s.heap x dx C mA)
  (p:PySem.W.findIn K (.ref C) "__setattr__"=@(some (.builtin "object.__setattr__"))) (q:PySem.W.plainOver K C=true) (n:PySem.W.takerIn K C name=some none) (t:PySem.W.hasDictIn K C=true)
  (m:PySem.Within mA ns) (o:ns.length<=sizeLine)
  (h:∀h',lV h' x dx C (λ y=>if y=name then some v else mA y)->Heap.SameBut dx s.heap h'->Q () {s with heap:=h',toks:=s.toks+2}) :
  wpAny (model prog w) A (setAttr (.ref x) name v) Q E s:=by
 let⟨D,k,G⟩:=I.look;refine PySem.W.set_plain X k p (PySem.W.osa_open (s:={s with toks:=s.toks+1}) (r:=none) X k q n λ b=>?_);let⟨H,u,i⟩:=PySem.W.any_some t;have l:s.heap.get? x=some ⟨.ref C,some dx,.plain,#[]⟩:=I.obj;refine Mu (MA (Mu (Mu (wpAny_loadPart l (Mu (PySem.W.Looks.here (s:={s with toks:=s.toks+1}) (PySem.W.looks_clsIn X u) ?_))))));rw[i];refine MA (a:=some dx) (Mu (MA (Mu ?_)));refine wpAny_nsSet1 (s:={s with toks:=s.toks+1}) I.ns λ h' d c=>?_;let⟨F,z,B,e,g,j⟩:=d.count (PySem.Within.cons name v m);refine Mu (wpAny_lookBehind e (by rw[g];exact pastItsLine_dict (MQ j (by rw[MX];lia))) ?_);exact MA (h _ ⟨(c.2 _ (Ne.symm I.ne)).trans I.obj,d,I.ne⟩ c)
theorem uB{R:Result->Shared->Prop}{vs:List Value}{b:List (Str×Value)}(X:K.In s.heap)(c:PySem.W.makesIn K C=true)
  (e:PySem.W.findIn K (.ref C) "__init__"=@(some (.ref f))) (i:PySem.W.typeIn K (.ref f)=@(.type "function"))
  (h:codeAny (model prog w) (A.under (.builtin "type.__call__" ⟨.ref C::vs,b⟩)) (.call (.ref f) ⟨.ref (s⁻¹+1)::vs,b⟩) (PySem.W.InitBack (s⁻¹+1) R)
   {s with heap:=(s.heap.push PySem.W.emptyDict).push (PySem.W.instObj C s⁻¹)}) :
  codeAny (model prog w) A (.call (.ref C) ⟨vs,b⟩) R s:=by
 let⟨k,g,d,t,j⟩:=s;exact PySem.W.make_core (PySem.W.makes_of X c) (Nf X e) (λ a=>PySem.W.bind_fn X a i) (.inl rfl) h
end
def bY(f:Str)(v:V):List (Str×V)->List (Str×V)
 | []=>[(f,v)]
 |(g,x)::r=>if g=f then (g,v)::r else (g,x)::bY f v r
theorem gy(f g:Str)(v:V):∀c:List (Str×V),(bY f v c).lookup g=if g=f then some v else c.lookup g
 | []=>by
  show List.lookup g [(f,v)]=_
  by_cases h:g=f
  .have a:(g==f)=true:=MZ.mpr h;erw[List.lookup,a,MO h]
  .have a:(g==f)=false:=NQ.mpr h;erw[List.lookup,a,MN h]
 |(k,x)::r=>by
  have d:=gy f g v r;rw[show bY f v ((k,x)::r)=(if k=f then (k,v)::r else (k,x)::bY f v r) from rfl]
  by_cases b:k=f
  .rw[MO b]
   by_cases h:g=k
   .have a:(g==k)=true:=MZ.mpr h;erw[List.lookup,a,MO (h.trans b)]
   .have a:(g==k)=false:=NQ.mpr h;erw[List.lookup,a,MN (λ e:g=f=>h (e.trans b.symm))]
  .rw[MN b]
   by_cases h:g=k
   .have a:(g==k)=true:=MZ.mpr h;erw[List.lookup,a,MN (λ e:g=f=>b (h.symm.trans e))]
   .have a:(g==k)=false:=NQ.mpr h;erw[List.lookup,a];exact d
theorem fU(f:Str)(v:V):∀b:List (Str×V),f∈(bY f v b).map (·.1)/\∀g,g∈b.map (·.1)->g∈(bY f v b).map (·.1)
 | []=>⟨by simp[bY],λ g h=>by simp at h⟩
 |(k,x)::r=>by
  let⟨d,c⟩:=fU f v r;rw[show bY f v ((k,x)::r)=(if k=f then (k,v)::r else (k,x)::bY f v r) from rfl]
  by_cases a:k=f
  .rw[MO a];subst a;exact⟨by simp,λ g h=>by simpa using h⟩
  .rw[MN a];refine⟨?_,λ g h=>?_⟩
   .rw[Nj];exact MP _ d
   .rw[Nj] at h ⊢;rcases MJ.mp h with e | e
    .exact MJ.mpr (.inl e)
    .exact MP _ (c g e)
theorem gz(f:Str)(v:V):∀b:List (Str×V),(bY f v b).length<=b.length+1
 | []=>by simp[bY]
 |(k,x)::r=>by
  have c:=gz f v r;rw[show bY f v ((k,x)::r)=(if k=f then (k,v)::r else (k,x)::bY f v r) from rfl]
  by_cases a:k=f
  .rw[MO a,MX,MX];lia
  .rw[MN a,MX,MX];lia
theorem cC.some_of{v:V}{o:Option Value}(r:cC (some v) o):∃u,o=some u/\RelV v u:=by
 cases o with
 |none=>exact(show False from r).elim
 |some u=>exact⟨u,rfl,r⟩
theorem cC.none_of{o:Option Value}(r:cC none o):o=none:=by
 cases o with
 |none=>rfl
 |some u=>exact(show False from r).elim
theorem jw{v:V}{u:Value}(r:RelV v u):PySem.W.handedIn u=true:=by
 cases v with
 |non=>cases (show u=Value.none from r);rfl
 |bl b=>cases (show u=Value.bool b from r);rfl
 |int i=>let⟨t,e⟩:=(show ∃t,u=Value.int i t from r);cases e;rfl
 |str x=>let⟨t,e⟩:=(show ∃t,u=Value.str x t from r);cases e;rfl
 |byt b=>let⟨t,e⟩:=(show ∃t,u=Value.bytes b t from r);cases e;rfl
 |flt b=>let⟨t,e⟩:=(show ∃t,u=Value.float b t from r);cases e;rfl
 |ref a=>cases (show u=Value.ref a from r);rfl
 |ty n=>cases (show u=Value.type n from r);rfl
section
variable{P:Program}{w:World}{H H':Hp}{h h':Heap}{a C dx:Addr}{fs fs':List (Str×V)}
theorem p9(c:cZ P w H h)(e:H a=@(.ins C dx fs)):∃b,lV h a dx C b/\(∀f,cC (fs.lookup f) (b f))/\PySem.Within b (fs.map (·.1))/\fs.length<=1000/\H dx=some (.own a):=by
 let⟨d,z,i,g,b,n,r,q⟩:=(show aC P w H h a (.ins C dx fs) from c a _ e);exact⟨b,⟨g,n,i⟩,r,q,z,d⟩
end
structure sd(K:ae)(C:Addr):Prop where
 pg:PySem.W.plainGet K C Str.empty=true
 hd:PySem.W.hasDictIn K C=true
 po:PySem.W.plainOver K C=true
 sa:PySem.W.findIn K (.ref C) "__setattr__"=@(some (.builtin "object.__setattr__"))
theorem sd.get{K:ae}(c:sd K C)(f:Str):PySem.W.plainGet K C f=true:=c.pg
def dP(K:ae)(C:Addr)(f:Str):Prop:=PySem.W.findIn K (.ref C) f=some none
theorem dP.GB{K:ae}{f:Str}(n:dP K C f):PySem.W.takerIn K C f=some none:=by
 unfold PySem.W.takerIn;rw[show PySem.W.findIn K (.ref C) f=some none from n];rfl
structure Meth(K:ae)(C:Addr)(m:Str)(f:Addr):Prop where
 at_:PySem.W.findIn K (.ref C) m=@(some (.ref f))
 fn:PySem.W.isFn K (.ref f)=true
 kp:PySem.W.keepIn K (.ref f)=true
section
variable{X:Cx}{aa:List (Addr×Obj)}{Y:St}{H:Hp}{s:Shared}{a C dx:Addr}{fs:List (Str×V)}{f:Str}{v:V}{A:Around}{E:Value->Shared->Prop}
theorem ou{y:V}{u:Value}{Q:Unit->Shared->Prop}(I:Inv X aa Y H s)(e:H a=@(.ins C dx fs))(c:sd X.K C)(n:dP X.K C f)(L:fs.length<1000)(p:RelV y u)
  (h:∀j,Inv X aa Y (upd H a (.ins C dx (bY f y fs))) j->Q () j):wpAny (model X.prog X.w) A (setAttr (.ref a) f u) Q E s:=by
 let⟨k,O,r,i,_,l⟩:=p9 I.hok e;have t:(fs.map (·.1)).length<=sizeLine:=by rw[Nk,NS];lia
 refine yv I.bA O c.sa c.po n.GB c.hd i t λ G d m=>h _ ?_;have D:∃o,G.get? dx=some o:=let ⟨o,_,_,J,_⟩:=d.ns;⟨o,J⟩;refine I.write (x:=a) (e:=dx) (by rw[e];exact True.intro) (.inr l) (λ b q F z=>(m.2 b F).trans z) D ?_;refine⟨by rw[ai O.ne];exact l,?_,O.ne,d.obj,_,d.ns,λ g=>?_,λ g B=>?_⟩
 .have:=gz f y fs;lia
 .show cC ((bY f y fs).lookup g) (if g=f then some u else k g);rw[gy]
  by_cases q:g=f
  .rw[MO q,MO q];exact p
  .rw[MN q,MN q];exact r g
 .by_cases q:g=f
  .rw[q];exact(fU f y fs).1
  .refine(fU f y fs).2 g (i g λ z=>B ?_);show (if g=f then some u else k g)=none;rw[MN q];exact z
theorem Inv.made(I:Inv X aa Y H s):Inv X aa Y (upd (upd H s⁻¹ (.own (s⁻¹+1))) (s⁻¹+1) (.ins C s⁻¹ []))
  {s with heap:=(s.heap.push PySem.W.emptyDict).push (PySem.W.instObj C s⁻¹)}:=by
 have d:(s.heap.push PySem.W.emptyDict).get? s⁻¹=some PySem.W.emptyDict:=MC s.heap rfl;have j:((s.heap.push PySem.W.emptyDict).push (PySem.W.instObj C s⁻¹)).get? (s⁻¹+1)=some (PySem.W.instObj C s⁻¹):=by
  have:=MC (s.heap.push PySem.W.emptyDict) (o:=PySem.W.instObj C s⁻¹) rfl
  rwa [Ng] at this
 have i:(s.heap.push PySem.W.emptyDict).Ns s⁻¹ (λ _=>none):=⟨PySem.W.emptyDict,#[],_,d,rfl,(λ e h=>absurd h 's'),λ _=>rfl⟩;have k:=I.laid (a:=s⁻¹) (o:=.own (s⁻¹+1)) (h':=s.heap.push PySem.W.emptyDict) (t':=s.toks) (λ b u q=>Mv _ q) (MB _) ⟨_,d⟩;refine k.laid (a:=s⁻¹+1) (o:=.ins C s⁻¹ []) (t':=s.toks) (λ b u q=>Mv _ q) (Qi (Ng _ _)) ?_;have c:s⁻¹≠s⁻¹+1:=MD (NK _);refine⟨by rw[ai c,aq],Pc _,c,j,λ _=>none,(Heap.Ns1.of_empty i).at λ o q=>Mv _ q,λ _=>True.intro,λ y g=>absurd rfl g⟩
theorem qa{prog:Program}{w:World}{env:Env}{e:Expr}{pos:Pos}{Q:Value->Shared->Prop}(c:attributeBase e f env (eval e env)=eval e env)
  (h:wpAny (model prog w) A (eval e env) (λ o b=>wpAny (model prog w) A (getAttr o f true) Q E b) E s):wpAny (model prog w) A (eval (.Attribute e f pos) env) Q E s:=
 Attribute_any_ h (by rw[arm_eval_Attribute,c])
end
def Jm(K:ae)(g e:TE)(f:Str):TS:=λ D Y H=>e Y H λ y h=>g Y h λ x d=>∃a C c b,x=.ref a/\d a=some (.ins C c b)/\sd K C/\dP K C f/\b.length<1000/\
 D.nx Y (upd d a (.ins C c (bY f y b)))
section
variable{X:Cx}{o e value:Expr}{f:Str}{pos pos' tpos:Pos}{ta tv:TE}
theorem CO(r:PE X o ta)(m:PE X value tv)(p:swapsWith value @(.Attribute o f pos') pos.line X.env=pure false):PS X (.Assign [.Attribute o f pos'] value pos) (Jm X.K ta tv f):=by
 intro b s Y H D I h;refine OI (aJ (m b s Y H _ I h) λ u d ⟨y,B,A,g,q⟩=>aJ (r b d Y B _ A q) λ k F ⟨x,L,z,i,a,C,J,G,t,v,c,n,l,j⟩=>?_) p;subst t;obtain rfl:k=Value.ref a:=i;exact ou z v c n l g λ E w=>⟨Y,_,w,j⟩
end
section
variable{X:Cx}{aa:List (Addr×Obj)}{Y:St}{H:Hp}{s:Shared}{A:Around}{E:Value->Shared->Prop}{Q:Value->Shared->Prop}{c:Value}{b:Bool}
inductive gJ(K:ae)(H:Hp):V->Value->Prop where
 |non:gJ K H .non (.type "NoneType")
 |bl (x:Bool):gJ K H (.bl x) (.type "bool")
 |int (i:Int):gJ K H (.int i) (.type "int")
 |str (x:Str):gJ K H (.str x) (.type "str")
 |flt (x:UInt64):gJ K H (.flt x) (.type "float")
 |lst {a:Addr} {xs:List V} (e:H a=@(.lst xs)):gJ K H (.ref a) (.type "list")
 |frz {a:Addr} {o:Obj} {xs:List V} (e:H a=@(.frz o (.lst xs))):gJ K H (.ref a) (.type "list")
 |tup {a:Addr} {xs:List V} (e:H a=@(.tup xs)):gJ K H (.ref a) (.type "tuple")
 |dK {a:Addr} {kvs:List (Key×V)} (e:H a=@(.dK kvs)):gJ K H (.ref a) (.type "dict")
 |dT {a:Addr} {kvs:List (List Key×V)} (e:H a=@(.dT kvs)):gJ K H (.ref a) (.type "dict")
 |ins {a C dx:Addr} {fs:List (Str×V)} (e:H a=@(.ins C dx fs)) (cl:sd K C) (ha:PySem.W.findIn K (.ref C) "__class__"=@(some (.builtin "object.__class__")))
   (hn:PySem.W.specialIn K (.builtin "object.__class__") "__get__"=@(some (.builtin "getset_descriptor.__get__"))) (htk:PySem.W.takesIn K (.builtin "object.__class__")=some true)
   (hm:PySem.W.mroIn K C (.type "object")=some true):gJ K H (.ref a) (.ref C)
theorem ef{x:V}{u t:Value}(I:Inv X aa Y H s)(d:RelV x u)(m:gJ X.K H x t)(e:PySem.W.kitOne X.K t c=some b)(h:∀tk,Q (.bool b) {s with toks:=tk}) :
  wpAny (model X.prog X.w) A (call (.builtin "isinstance") [u,c]) Q E s:=by
 cases m with
 |non=>cases (show u=Value.none from d);exact M1 PySem.W.kitx_none I.bA True.intro e (λ z=>nomatch z) h
 |bl y=>cases (show u=Value.bool y from d);exact M1 PySem.W.kitx_bool I.bA True.intro e (λ z=>nomatch z) h
 |int i=>let⟨t,q⟩:=(show ∃t,u=Value.int i t from d);cases q;exact M1 PySem.W.kitx_int I.bA True.intro e (λ z=>nomatch z) h
 |str y=>let⟨t,q⟩:=(show ∃t,u=Value.str y t from d);cases q;exact M1 PySem.W.kitx_str I.bA True.intro e (λ z=>nomatch z) h
 |flt y=>let⟨t,q⟩:=(show ∃t,u=Value.float y t from d);cases q;exact M1 PySem.W.kitx_float I.bA True.intro e (λ z=>nomatch z) h
 |@lst a k f=>
  cases (show u=Value.ref a from d);let⟨_,_,n,_,g⟩:=(show aC X.prog X.w H s.heap a (.lst k) from I.hok a _ f);exact M1 Pd I.bA ⟨_,g,rfl⟩ e (λ z=>nomatch z) h
 |@frz a r k f=>
  cases (show u=Value.ref a from d);let⟨_,_,_,n,_,g⟩:=(show aC X.prog X.w H s.heap a (.frz r (.lst k)) from I.hok a _ f);exact M1 Pd I.bA ⟨_,g,rfl⟩ e (λ z=>nomatch z) h
 |@tup a k f=>
  cases (show u=Value.ref a from d);let⟨_,_,_,p⟩:=(show aC X.prog X.w H s.heap a (.tup k) from I.hok a _ f);let⟨o,g,l,_⟩:=p;exact M1 PySem.W.kitx_tuple I.bA ⟨o,g,l.1⟩ e (λ z=>nomatch z) h
 |@dK a j f=>
  cases (show u=Value.ref a from d);let⟨_,_,F,_,p⟩:=(show aC X.prog X.w H s.heap a (.dK j) from I.hok a _ f);let⟨o,v,B,g,l,_⟩:=p;exact M1 PySem.W.kitx_dict I.bA ⟨o,g,l.1⟩ e (λ z=>nomatch z) h
 |@dT a j f=>
  cases (show u=Value.ref a from d);let⟨_,_,k,_,o,v,B,g,l,_⟩:=(show aC X.prog X.w H s.heap a (.dT j) from I.hok a _ f);exact M1 PySem.W.kitx_dict I.bA ⟨o,g,l.1⟩ e (λ z=>nomatch z) h
 |@ins a C L fs f cl ha hn htk hm=>
  cases (show u=Value.ref a from d);let⟨J,O,_⟩:=p9 I.hok f;let⟨G,D,_⟩:=O.look;exact M1 (PySem.W.kitx_own (cl.get _) cl.hd ha hn htk hm) I.bA D e (λ z=>nomatch z) h
end
end L2
namespace L2
open PySem PySem.Spec PyProof.Rows List
variable{C f:Addr}{H:Hp}{K:ae}{P:Program}{kindOf:Str->Option NameKind}{kw:List (Str×Value)}{mg:Str->Option Value}{s:Shared}{us:List Value}{w:World}
structure aS(k:Nat)(A:Around):Prop where
 hd:A.handled=none
 dp:A.depth+3*k+5<recursionLimit
 un:A.units+16*k+200<cLine
 gd:A.guards=some []:=by rfl
theorem aS.mono{j k:Nat}{A:Around}(r:aS k A)(h:j<=k):aS j A:=⟨r.hd,by have:=r.dp;lia,by have:=r.un;lia,r.gd⟩
theorem aS.deeper{k:Nat}{A:Around}(r:aS (k+1) A)(env:Env):aS k (A.deeper env):=
 ⟨r.hd,by have:=r.dp;show A.depth+1+3*k+5<_;lia,by have:=r.un;show A.units+3+16*k+200<_;lia,r.gd⟩
theorem ow{A:Around}:(A.under (.builtin "type.__call__" ⟨.ref C::us,kw⟩)).depth=A.depth+1:=by
 first | rfl | simp[Around.under,Code.weight,Code.isCreation,Code.isGuard,Code.isCaller,Code.frames,Code.isFrame,guardIds]
theorem oA{A:Around}:(A.under (.builtin "type.__call__" ⟨.ref C::us,kw⟩)).units=A.units+1:=by
 first | rfl | simp[Around.under,Code.cUnits,Code.frames,Code.isFrame]
theorem lW{A:Around}:(A.under (.builtin "type.__call__" ⟨.ref C::us,kw⟩)).guards=A.guards:=by
 first | rfl | (simp[Around.under,Code.guards,Code.isGuard,guardIds,pushGuards];done) | (cases h:A.guards<;>simp[Around.under,Code.guards,Code.isGuard,guardIds,pushGuards,h])
theorem aS.make{k:Nat}{A:Around}(r:aS (k+1) A)(C:Addr)(us:List Value)(kw:List (Str×Value)):aS k (A.under (.builtin "type.__call__" ⟨.ref C::us,kw⟩)):=
 ⟨r.hd,by have:=r.dp;rw[ow];lia,by have:=r.un;rw[oA];lia,by rw[lW];exact r.gd⟩
theorem aS.depth{k:Nat}{A:Around}(r:aS k A):A.depth<recursionLimit:=by have:=r.dp;lia
theorem aS.units{k:Nat}{A:Around}(r:aS k A):A.units+64<cLine:=by have:=r.un;lia
def oB:TA:=λ _ H Q=>Q [] H
def lX(c:TE)(b:TA):TA:=fun Y H Q=>c Y H λ x e=>b Y e λ a d=>Q (x::a) d
section
variable{X:Cx}{e:Expr}{es:List Expr}{te:TE}{t:TA}{pos:Pos}
theorem bE:PA X [] oB:=λ _ _ _ _ H Q I h=>Calls.spliced_nil ⟨[],H,I,.nil,h⟩
theorem aM(m:PE X e te)(l:PA X es t)(k:starEach (e::es) X.env=(false,eval e X.env)::starEach es X.env:=by rfl):PA X (e::es) (lX te t):=by
 intro pos a s Y H Q I h;rw[k];show wpAny _ _ (spliced ((false,eval e X.env)::backTo pos (starEach es X.env))) _ _ s;refine Calls.spliced_cons (aJ (m a s Y H _ I h) λ u c ⟨x,q,o,g,j⟩=>?_);exact aJ (l pos a c Y q _ o j) λ us r ⟨b,p,n,d,i⟩=>⟨x::b,p,n,.cons g d,i⟩
def Jo(t:TA):TE:=fun Y H Q=>t Y H λ a b=>a.length<=sizeLine/\∀p,b p=none->Q (.ref p) (upd b p (.tup a))
def Jp(t:TA):TE:=fun Y H Q=>t Y H λ a b=>a.length<=sizeLine/\∀p,b p=none->Q (.ref p) (upd b p (.lst a))
theorem uC{i}(h:PA X es t):PE X (.Tuple es i pos) (Jo t):=by
 intro l s Y H Q I j;refine wpAny_Tuple_spliced (aJ (h pos l s Y H _ I j) λ us a ⟨g,d,c,r,z,q⟩=>⟨by rw[<-r.length];exact z,?_⟩);have k:d a⁻¹=none:=c.hok.fresh (MB _);refine⟨.ref a⁻¹,upd d a⁻¹ (.tup g),c.laid (t':=a.toks) (λ b u e=>Mv _ e) (MB _) ?_,rfl,q _ k⟩;exact⟨z,us,r,⟨_,MC _ rfl,⟨rfl,rfl⟩,_,rfl⟩⟩
theorem CP(h:PA X es t):PE X (.List es pos) (Jp t):=by
 intro k s Y H Q I i;refine wpAny_List_spliced (aJ (h pos k s Y H _ I i) λ us a ⟨g,d,c,r,z,q⟩=>⟨by rw[<-r.length];exact z,?_⟩);have j:d a⁻¹=none:=c.hok.fresh (MB _);refine⟨.ref a⁻¹,upd d a⁻¹ (.lst g),c.laid (t':=a.toks) (λ b u e=>Mv _ e) (MB _) ?_,rfl,q _ j⟩;exact⟨z,us,0,r,MC _ rfl⟩
end
abbrev Sp:=List V->Hp->VK->XK->Prop
abbrev qb:=List Env->Hp->Shared->XK->Value->Shared->Prop
structure oE(P:Program)(w:World)(K:ae)(mg:Str->Option Value)(base:Heap)(A:Around)(outer:List Env)(s:Shared)(H:Hp):Prop where
 frames:A.frames=some outer
 mod:Mod K mg base
 bs:∀b o,base.get? b=some o->s.heap.get? b=some o/\H b=none
 bsz:base.objs.size<=s⁻¹
 eX:s.heap.FunFrames base outer
 frf:∀b∈frs outer,H b=none
 hok:cZ P w H s.heap
 bare:AllBare s.gens
def CE(outer:List Env)(P:Program)(w:World)(H:Hp)(s:Shared)(Q:VK)(u:Value)(a:Shared):Prop:=
 ∃v b,a.os=s.os/\AllBare a.gens/\Un (frs outer) [] H b s.heap a.heap/\cZ P w b a.heap/\RelV v u/\Q v b
def CR(CX:qb)(outer:List Env)(P:Program)(w:World)(H:Hp)(s:Shared)(Q:VK)(E:XK)(r:Result)(a:Shared):Prop:=
 match r with
 |.ok (.ret u)=>CE outer P w H s Q u a
 |.ok _=>False
 |.error e=>CX outer H s E e a
structure aY(P:Program)(w:World)(K:ae)(mg:Str->Option Value)(base:Heap)(CX:qb)(k:Nat)(f:Addr)(fd:FuncData)(ps:List Str)(sp:Sp):Prop where
 len:∀vs H Q E,sp vs H Q E->vs.length=ps.length
 run:∀(A:Around) (outer:List Env) (s:Shared) (H:Hp) (args:Args) (us:List Value) (vs:List V) (Q:VK) (E:XK),aS k A->oE P w K mg base A outer s H->BindsTo s fd args (ps.zip us)->Vals vs us->sp vs H Q E->
  codeAny (model P w) A (.call (.ref f) args) (CR CX outer P w H s Q E) s
theorem aY.imp{base:Heap}{CX:qb}{k:Nat}{d:FuncData}{c:List Str}{sp e:Sp}(F:aY P w K mg base CX k f d c sp)
  (h:∀vs H Q E,e vs H Q E->sp vs H Q E):aY P w K mg base CX k f d c e:=
 ⟨λ vs H Q E q=>F.len vs H Q E (h _ _ _ _ q),λ A a s H b us vs Q E j l m g i=>F.run A a s H b us vs Q E j l m g (h _ _ _ _ i)⟩
theorem oE.make{base:Heap}{A:Around}{outer:List Env}(e:oE P w K mg base A outer s H)(C:Addr)(us:List Value)(kw:List (Str×Value)) :
  oE P w K mg base (A.under (.builtin "type.__call__" ⟨.ref C::us,kw⟩)) outer s H:=⟨by first | exact e.frames | (simpa[Around.under,Code.envs,Code.isFrame,pushEnvs] using e.frames),e.mod,e.bs,e.bsz,e.eX,e.frf,e.hok,e.bare⟩
section
variable{X:Cx}{aa:List (Addr×Obj)}{Y:St}{H:Hp}{s s':Shared}
theorem Inv.yw(I:Inv X aa Y H s):oE X.prog X.w X.K X.mg X.base X.A X.stack s H:=
 ⟨I.ok.frames,I.ok.mod,I.bs,MQ I.ok.bsz I.sz,I.stack,I.gW,I.hok,I.bare⟩
theorem Inv.after{Q:VK}{u:Value}(I:Inv X aa Y H s)(h:CE X.stack X.prog X.w H s Q u s'):EP X aa Y Q u s':=by
 let⟨v,l,j,a,i,e,r,q⟩:=h;let⟨k,g,d,t,c⟩:=s';obtain rfl:c=s.os:=j;exact⟨v,l,I.call (h':=k) (g':=g) (d':=d) (t':=t) (ch:=[]) i e a (λ b z=>absurd z 's'),r,q⟩
end
def AL(sp:Sp)(b:List V)(E:XK)(t:TA):TE:=fun Y H Q=>t Y H λ a c=>sp (a++b) c Q E
def Binds(K:ae)(c:FuncData)(a:List Str)(b:List Value):Prop:=
 ∀(s:Shared) (us:List Value),K.In s.heap->(us++b).length=a.length->BindsTo s c ⟨us,[]⟩ (a.zip (us++b))
theorem Binds.all{c:FuncData}{a:List Str}(h:∀us:List Value,us.length=a.length->bindArgs c ⟨us,[]⟩=pure (a.zip us)):Binds K c a []:=λ s us _ b=>by
 rw[NP] at b ⊢;exact .of_eq (h us b)
def Passes(CX:qb)(X:Cx)(E:XK):Prop:=∀(b:List (Addr×Obj)) (Y:St) (H:Hp) (s:Shared) (e:Value) (a:Shared),Inv X b Y H s->CX X.stack H s E e a->X.xe e a
section
variable{X:Cx}{CX:qb}{k:Nat}{f C:Addr}{fd:FuncData}{ps:List Str}{sp:Sp}{gA:List V}{ds:List Value}{E:XK}{x m:Str}{p pos apos:Pos}{e o:Expr}{es:List Expr}{ta:TE}{t:TA}
theorem kj{b:List (Addr×Obj)}{Y:St}{Q:VK}{vs:List V}(F:aY X.prog X.w X.K X.mg X.base CX k f fd ps sp)(i:aS k X.A)(n:Binds X.K fd ps ds)(l:Vals gA ds)(g:Passes CX X E)
  (I:Inv X b Y H s) (r:Vals vs us) (h:sp (vs++gA) H Q E):wpAny (model X.prog X.w) X.A (call (.ref f) us) (EP X b Y Q) X.xe s:=by
 have c:Vals (vs++gA) (us++ds):=r.append l;have j:(us++ds).length=ps.length:=by rw[<-c.length];exact F.len _ _ _ _ h
 refine O4 (NC (F.run X.A X.stack s H ⟨us,[]⟩ (us++ds) (vs++gA) Q E i I.yw (n s us I.bA j) c h) λ r d a=>?_);cases r with
 |error e=>exact g b Y H s e d I a
 |ok q=>
  cases q with
  |ret u=>exact I.after a
  |next=>exact False.elim a
  |brk=>exact False.elim a
  |cont=>exact False.elim a
theorem yx(F:aY X.prog X.w X.K X.mg X.base CX k f fd ps sp)(g:aS k X.A)(l:Gl X x)(i:X.mg x=@(.ref f))(j:PySem.W.keepIn X.K (.ref f)=true)(v:Binds X.K fd ps ds)(u:Vals gA ds)(d:Passes CX X E)
  (y:PA X (e::es) t) (b:(x==("__debug__":Str))=false:=by decide) (n:starEach (e::es) X.env=(false,eval e X.env)::starEach es X.env:=by rfl) (a:(backTo pos (starEach es X.env)).any (·.1)=false:=by rfl) :
  PE X (.Call (.Name x p) (e::es) [] pos) (AL sp gA E t):=by
 intro z s Y H Q I h;refine MW (bw I l i ?_ b);refine Nu (h₀:=X.base) I.ok.mod.kin j (aJ (y pos z s Y H _ I h) λ us D ⟨B,G,c,r,q⟩=>⟨c.bA,?_⟩) n a;exact kj F g v u d c r q
theorem uD(F:aY X.prog X.w X.K X.mg X.base CX k f fd ps sp)(c:aS k X.A)(i:Gl X x)(d:X.mg x=@(.ref f))(g:PySem.W.keepIn X.K (.ref f)=true)(l:Binds X.K fd ps ds)(j:Vals gA ds)(b:Passes CX X E)
  (a:(x==("__debug__":Str))=false:=by decide):PE X (.Call (.Name x p) [] [] pos) (AL sp gA E oB):=by
 intro n s Y H Q I h;refine MW (bw I i d ?_ a);exact OV I.bA g (kj (us:=[]) F c l j b I .nil h)
structure Mk(K:ae)(C f:Addr):Prop where
 makes:PySem.W.makesIn K C=true
 init:PySem.W.findIn K (.ref C) "__init__"=@(some (.ref f))
 fn:PySem.W.isFn K (.ref f)=true
 kp:PySem.W.keepIn K (.ref C)=true
end
structure dm(N P:List Str)(sc:Scope):Prop where
 kind:sc.kind=.function
 co:sc.isCoroutine=false
 gen:sc.isGenerator=false
 nd:N.Nodup
 pre:N.take P.length=P
 par:∀x∈P,sc.names.lookup x=some .local\/sc.names.lookup x=some .cell
 nofree:∀y∈sc.names,y.2≠.free
theorem jx{x:Str}:∀{a:List (Str×Value)} {m:Str->Option Value},(∀v,(x,v)∉a)->bindL kindOf a m x=m x
 | [],_,_=>rfl
 |(n,v)::r,m,h=>by
  unfold bindL;rw[jx λ w b=>h w (MP _ b)];split
  .have:x≠n:=by rintro rfl;exact h v Nc
   simp[this]
  .rfl
theorem jy{x:Str}:∀{a:List (Str×Value)} {m:Str->Option Value},(∀v,(x,v)∉a)->bindC kindOf a m x=m x
 | [],_,_=>rfl
 |(n,v)::r,m,h=>by
  unfold bindC;rw[jy λ w b=>h w (MP _ b)];split
  .rfl
  .have:x≠n:=by rintro rfl;exact h v Nc
   simp[this]
theorem jz{x:Str}{v:Value}:∀{P:List Str} {vs:List Value} {i:Nat} {m:Str->Option Value},P.Nodup->P[i]?=some x->vs[i]?=some v->kindOf x=some .local->
  bindL kindOf (P.zip vs) m x=some v
 | [],_,_,_,_,h,_,_=>by simp at h
 |_::_,[],_,_,_,_,h,_=>by simp at h
 |p::P,w::vs,0,m,nd,b,a,c=>by
  simp at b a;subst b;subst a;show bindL kindOf ((p,w)::P.zip vs) m p=_;unfold bindL;rw[jx λ v d=>(OQ.mp nd).1 (of_mem_zip d).1,MO c];simp
 |p::P,w::vs,i+1,m,nd,b,a,c=>by
  show bindL kindOf ((p,w)::P.zip vs) m x=_;unfold bindL;exact jz (i:=i) (OQ.mp nd).2 (~~~b) (~~~a) c
theorem jA{x:Str}{v:Value}:∀{P:List Str} {vs:List Value} {i:Nat} {m:Str->Option Value},P.Nodup->P[i]?=some x->vs[i]?=some v->kindOf x≠some .local->
  bindC kindOf (P.zip vs) m x=some v
 | [],_,_,_,_,h,_,_=>by simp at h
 |_::_,[],_,_,_,_,h,_=>by simp at h
 |p::P,w::vs,0,m,nd,b,a,c=>by
  simp at b a;subst b;subst a;show bindC kindOf ((p,w)::P.zip vs) m p=_;unfold bindC;rw[jy λ v d=>(OQ.mp nd).1 (of_mem_zip d).1,MN c];simp
 |p::P,w::vs,i+1,m,nd,b,a,c=>by
  show bindC kindOf ((p,w)::P.zip vs) m x=_;unfold bindC;exact jA (i:=i) (OQ.mp nd).2 (~~~b) (~~~a) c
def start(N:List Str)(vs:List V):St:=vs.map some++List.replicate (N.length - vs.length) none
def fB(CX:qb)(P:Program)(w:World)(K:ae)(mg:Str->Option Value)(base:Heap)(N:List Str)(qual:Str)(scope:Scope)(f:Addr)(cd:Value)(A:Around)(outer:List Env)(s:Shared)(H:Hp)(E:XK):Cx where
 prog:=P
 w:=w
 K:=K
 mg:=mg
 base:=base
 A:=A.deeper (envOfC qual scope s⁻¹ f cd)
 N:=N
 s₀:=s
 H₀:=H
 env:=envOfC qual scope s⁻¹ f cd
 outer:=outer
 stack:=envOfC qual scope s⁻¹ f cd::outer
 ex:=[]
 calm:=true
 fn:=λ _=>true
 pn:=[]
 xe:=λ e b=>wpAny (model P w) (A.deeper (envOfC qual scope s⁻¹ f cd)) (leaving (envOfC qual scope s⁻¹ f cd) e) (λ _ a=>CX outer H s E e a) (λ c a=>CX outer H s E c a) b
theorem lY{a:Scope}{n:Nat}{x:Str}(h:a.names.lookup x=some .cell):∃c,(cellsFrom n a.names []).lookup x=some c:=by
 have q:=OC a.names n [] (.inl h);exact N4.mp q
theorem se{CX:qb}{base:Heap}{N j:List Str}{qual:Str}{scope:Scope}{B:Value}{A:Around}{outer:List Env}{F:Shared}{E:XK}{vs:List V}
  (S:dm N j scope) (O:A.handled=none) (g:oE P w K mg base A outer s H) (T:vs.length=j.length) (r:Vals vs us)
  (x:InCallC s s⁻¹ (bindL (envOfC qual scope s⁻¹ f B).kindOf (j.zip us) λ _=>none) (cellsFrom (s⁻¹+1) scope.names []) (bindC (envOfC qual scope s⁻¹ f B).kindOf (j.zip us) λ _=>none) F) :
  Inv (fB CX P w K mg base N qual scope f B A outer s H E) [] (start N vs) H F:=by
 have M:j.length<=N.length:=by have:=OA List.length S.pre;rw[Ol] at this;lia
 let⟨t,R,rfl,I⟩:=x.done;have D:∀b:Addr,b∉(fB CX P w K mg base N qual scope f B A outer s H E).ex:=λ b z=>absurd (show b∈([]:List Addr) from z) 's';refine⟨⟨g.mod,S.kind,rfl,rfl,MB _,λ y z c t d=>?_,λ y l=>?_,λ y c _ h=>?_,λ _=>O,Around.frames_deeper g.frames,.inr ⟨rfl,rfl⟩,λ b z=>absurd z (D b),g.bs,g.bsz,λ b _ _=>D b,λ b z=>absurd z (D b),g.eX,g.frf⟩,
  rfl,g.bare,Un.kept I,⟨_,x.toInCall.ns,λ i y v t d U=>?_⟩,λ y c h=>⟨_,x.cell y c h⟩,g.hok.fresh (MB _),λ y c h=>?_,λ p m=>absurd (show p∈([]:List (Addr×Obj)) from m) 's',g.hok.kept I,?_⟩
 .exact name_of_addr x.apart (MY t) (MY d)
 .have l:scope.names.lookup y=some .cell\/scope.names.lookup y=some .free:=l;rcases l with l | l
  .exact lY l
  .exact absurd rfl (S.nofree _ (MY l))
 .exact Pq (x.above y c (MY h))
 .have o:i<vs.length:=by
   unfold start at d
   by_cases o:i<vs.length
   .exact o
   .rw[ML (~~~o)] at d;rw[getElem?_replicate] at d;split at d<;>cases d
  have Q:vs[i]?=some v:=by
   unfold start at d;rw[MI (~~~o),Oc] at d;cases e:vs[i]? with
   |none=>rw[e] at d;cases d
   |some a=>rw[e] at d;cases d;rfl
  let⟨u,G,L⟩:=r.get Q;have m:j[i]?=some y:=by
   rw[<-S.pre,N5 'o'];exact t
  have J:j.Nodup:=by rw[<-S.pre];exact S.nd.sublist (take_sublist _ _)
  refine⟨u,L,?_⟩;rcases S.par y (M3 m) with k | k
  .exact .inl ⟨k,jz J m G k⟩
  .let⟨c,e⟩:=lY (n:=s⁻¹+1) k;refine .inr ⟨.inl k,c,e,?_⟩;have q:=x.cell y c e;rw[jA J m G (by show scope.names.lookup y≠_;rw[k];decide)] at q;exact q
 .exact g.hok.fresh (Pq (x.above y c (MY h)))
 .unfold start;show _=N.length;rw[Nm,Nk,length_replicate];lia
theorem AM{CX:qb}{base:Heap}{k:Nat}{name qual:Str}{c:Arguments}{body:List Stmt}{scope:Scope}{Y X B T a ct oc:Value}{an od:Option Addr}
  {J:Array (Option Value)} {N D:List Str} {sp:Sp} (lk:K.lookup f=some ⟨oc,od,.func (PySem.W.fnOf name qual c body scope Y X B T an a ct),J⟩) (O:PySem.W.codeIn K a qual=true) (S:dm N D scope)
  (m:∀vs H Q E,sp vs H Q E->vs.length=D.length)
  (j:∀(A:Around) (outer:List Env) (s:Shared) (H:Hp) (vs:List V) (Q:VK) (E:XK),aS k (A.deeper (envOfC qual scope s⁻¹ f a))->sp vs H Q E->
   ∃t,dO (fB CX P w K mg base N qual scope f a A outer s H E) body t/\t {nx:=λ _ h=>Q .non h,rt:=Q} (start N vs) H) :
  aY P w K mg base CX (k+1) f (PySem.W.fnOf name qual c body scope Y X B T an a ct) D sp:=by
 refine⟨m,λ A outer s H Z us vs Q E M z hb r U=>?_⟩;have hl:=m _ _ _ _ U;have KX:K.In s.heap:=z.mod.kin.keeps λ b o e=>(z.bs b o e).1;have L:s.heap.NoLimit:=z.mod.nolimit.keeps λ b o e=>(z.bs b o e).1;have i:∀y∈D.zip us,scope.names.lookup y.1=some .local\/(scope.names.lookup y.1=some .cell/\((cellsFrom (s⁻¹+1) scope.names []).lookup y.1).isSome=true):=λ ⟨n,v⟩ hy=>by
  rcases S.par n (of_mem_zip hy).1 with q | q
  .exact .inl q
  .exact .inr ⟨q,OC _ _ _ (.inl q)⟩
 refine codeAny_call_function M.depth (KX _ _ lk) rfl S.co S.gen rfl (PySem.W.codeRec_of KX O) (hb _ _ _ _ ?_);refine wpAny_newFunctionEnv_cells S.kind i λ env he R x=>?_;subst he;refine⟨L.keeps x.toInCall.keep,codeAny_func ?_⟩;let⟨t,ht,hq⟩:=j A outer s H vs Q E (M.deeper _) U;have I:Inv (fB CX P w K mg base N qual scope f a A outer s H E) [] (start N vs) H R:=se S M.hd z hl r x;refine MK (ht [] R (start N vs) H _ I hq) (λ fl F l=>?_) λ e F l=>l;have p:∀{d:St} {h:Hp} {v:V} {u:Value},Inv (fB CX P w K mg base N qual scope f a A outer s H E) [] d h F->RelV v u->Q v h->CE outer P w H s Q u F:=
  λ {d h v u} g G q=>⟨v,h,g.os,g.bare,g.base,g.hok,G,q⟩
 cases fl with
 |ret u=>
  let⟨v,d,h,g,G,q⟩:=l;exact p g G q
 |next=>
  let⟨d,h,g,q⟩:=l;exact p (v:=V.non) (u:=Value.none) g rfl q
 |brk=>
  let⟨_,_,_,q⟩:=l;exact False.elim q
 |cont=>
  let⟨_,_,_,q⟩:=l;exact False.elim q
end L2
namespace L2
open PySem PySem.Spec PyProof.Rows List
section
variable{X:Cx}{x:Str}{p pos:Pos}{e:Expr}{es:List Expr}{t:TA}{id T:String}{r:List V->Hp->VK->Prop}
def Jq(r:List V->Hp->VK->Prop)(t:TA):TE:=fun Y H Q=>t Y H λ a b=>r a b Q
theorem dQ(q:aW X (.builtin id) r)(n:Gl X x)(m:X.mg x=none)(k:bootBuiltins x=@(.builtin id))(u:PA X (e::es) t)(l:x≠"__name__":=by decide)(b:(x==("__debug__":Str))=false:=by decide)
  (o:starEach (e::es) X.env=(false,eval e X.env)::starEach es X.env:=by rfl) (a:(backTo pos (starEach es X.env)).any (·.1)=false:=by rfl):PE X (.Call (.Name x p) (e::es) [] pos) (Jq r t):=by
 intro c s Y H Q I h;refine MW (eY I n m k ?_ l b);exact PyProof.Rows.callWith_builtin1 (aJ (u pos c s Y H _ I h) λ f g ⟨d,w,v,i,j⟩=>q c g Y w d f Q v i j) o a
theorem jB(q:aW X (.type T) r)(n:Gl X x)(m:X.mg x=none)(k:bootBuiltins x=@(.type T))(u:PA X (e::es) t)(l:x≠"__name__":=by decide)(b:(x==("__debug__":Str))=false:=by decide)
  (o:starEach (e::es) X.env=(false,eval e X.env)::starEach es X.env:=by rfl) (a:(backTo pos (starEach es X.env)).any (·.1)=false:=by rfl):PE X (.Call (.Name x p) (e::es) [] pos) (Jq r t):=by
 intro c s Y H Q I h;refine MW (eY I n m k ?_ l b);exact NR (aJ (u pos c s Y H _ I h) λ f g ⟨d,w,v,i,j⟩=>q c g Y w d f Q v i j) o a
theorem oG(g:aW X (.type T) r)(f:Gl X x)(d:X.mg x=none)(b:bootBuiltins x=@(.type T))(c:x≠"__name__":=by decide)(a:(x==("__debug__":Str))=false:=by decide) :
  PE X (.Call (.Name x p) [] [] pos) (Jq r oB):=by
 intro i s Y H Q I h;refine MW (eY I f d b ?_ c a);exact PyProof.Rows.callWith_type0 (g i s Y H [] [] Q I .nil h)
end
end L2
namespace HT
open PySem PyProof.Rows List
def lexLt:List Int->List Int->Bool
 | [],[]=>false
 | [],_::_=>true
 |_::_,[]=>false
 |x::xs,y::a=>if x=y then lexLt xs a else decide (x<y)
section
open PySem.SeqAt List
open PySem.AutoSeq1 (wpAny_loadPart')
open PySem.MeetsSeq PySem.MeetsSeq2 PySem.MeetsSeq3 List
end
section
variable{prog:Program}{w:World}{A:Around}{E:Value->Shared->Prop}{s:Shared}
theorem yy{t b:Addr}{vs ws:List Value}{Q:Value->Shared->Prop}(x:IsTup s.heap t vs.toArray)(y:IsTup s.heap b ws.toArray)(o:vs≠[])
  (B:ws=[]->Q (.ref t) s) (z:ws≠[]->Q (.ref s⁻¹) {s with heap:=s.heap.push {cls:=.type "tuple",data:=.seq (vs++ws).toArray}})
  (j:vs.length+ws.length<=sizeLine):wpAny (model prog w) A (binaryOp .Add (.ref t) (.ref b)) Q E s:=by
 let⟨⟨C,r,u,l⟩,i,q,n,p⟩:=id x;let⟨⟨v,g,k,c⟩,a,f,m,d⟩:=id y;simp only at q p f d;subst q p f d;have e:vs.toArray++ws.toArray=(vs++ws).toArray:=by simp
 by_cases h:ws=[]
 .exact Pw ⟨_,i,rfl⟩ ⟨_,a,rfl⟩ Pj Qe OD Ox (Oq _ _)
   (tuple_addW1 t b vs.toArray ws.toArray n m r g l c (~~~o) (by simp[h])) ⟨i,a,B h⟩
 .refine Pw ⟨_,i,rfl⟩ ⟨_,a,rfl⟩ Pj Qe OD Ox (Oq _ _)
   (tuple_addW2 t b vs.toArray ws.toArray n m r g l c (~~~o) (~~~h) (by rw[ME,ME];exact j)) ⟨i,a,?_⟩
  rw[e];exact z h
def br(n d:Nat):Option Int->Nat
 |none=>d
 |some v=>if v<0 then (v+(n:Int)).toNat else min v.toNat n
theorem CQ(n d:Nat)(b:d<=n)(o:Option Int):br n d o<=n:=by
 cases o with
 |none=>exact b
 |some v=>
  show (if v<0 then (v+(n:Int)).toNat else min v.toNat n)<=n
  by_cases a:v<0
  .rw[MO a];lia
  .rw[MN a];exact Nat.min_le_right _ _
theorem ko(v:Int)(n d:Nat):(if v<0 then max (v+(n:Int)) 0 else min v (n:Int))=((br n d (some v):Nat):Int):=by
 show (if v<0 then max (v+(n:Int)) 0 else min v (n:Int))=(((if v<0 then (v+(n:Int)).toNat else min v.toNat n):Nat):Int)
 by_cases a:v<0
 .erw[MO a];lia
 .erw[MN a];lia
theorem oH(lo a:Option Int)(n:Nat):Builtin.Slice.sliceAdjust lo a 1 (n:Int)=(((br n 0 lo:Nat):Int),((br n n a:Nat):Int)):=by
 have b:¬((1:Int)<0):=by lia
 unfold Builtin.Slice.sliceAdjust;erw[b,MR];refine Prod.ext ?_ ?_
 .cases lo with
  |none=>rfl
  |some v=>exact ko v n 0
 .cases a with
  |none=>rfl
  |some v=>exact ko v n n
theorem oJ(i j:Nat):Builtin.Slice.slicePlaces (i:Int) (j:Int) 1=j - i:=by
 unfold Builtin.Slice.slicePlaces;have a:(1:Int)>0:=by lia
 erw[a,ND,Int.ediv_one];split<;>lia
theorem ig{v:Value}{o:Option Int}{Q:Option Int->Shared->Prop}(p:IsPart v o)(h:Q o s):wpAny (model prog w) A (Builtin.Slice.slicePartIndex v) Q E s:=by
 cases p with
 |none=>exact slicePart_none h
 |int i t=>exact slicePart_int h
theorem cQ{f:Addr}{e d:Value}{lo b:Option Int}{n:Nat}{Q:Int×Int×Nat->Shared->Prop}(j:s.heap.IsSliceOf f e d .none)(i:IsPart e lo)(g:IsPart d b)
  (h:Q (((br n 0 lo:Nat):Int),1,br n n b - br n 0 lo) s):wpAny (model prog w) A (Builtin.Slice.sliceApplied (.ref f) (pure (n:Int))) Q E s:=by
 let⟨l,a,k,c⟩:=id j;unfold Builtin.Slice.sliceApplied Builtin.Slice.sliceFields;refine Mu (Mu (Ni a c (x:=e) rfl (Mu (Ni a c (x:=d) rfl (Mu (Ni a c (x:=.none) rfl (MA ?_)))))));refine Mu (slicePart_none ?_);show wpAny _ _ (if ((1:Int)==0)=true then _ else _) _ _ s;rw[MN 'd'];refine Mu (ig i (Mu (ig g (Mu (MA ?_)))));show wpAny _ _ (match Builtin.Slice.sliceAdjust lo b 1 (n:Int) with | (lo,b)=>pure (lo,(1:Int),Builtin.Slice.slicePlaces lo b 1)) _ _ s;rw[oH lo b n];show wpAny _ _ (pure (((br n 0 lo:Nat):Int),(1:Int),Builtin.Slice.slicePlaces ((br n 0 lo:Nat):Int) ((br n n b:Nat):Int) 1)) _ _ s;rw[oJ];exact MA h
theorem uF(xs:Array Value)(i k:Nat):((List.range k).filterMap λ (m:Nat)=>xs[((i:Int)+(m:Int)*1).toNat]?).toArray=((xs.toList.drop i).take k).toArray:=by
 have e:(λ (m:Nat)=>xs[((i:Int)+(m:Int)*1).toNat]?)=λ m=>xs[i+m]?:=by
  funext m;have:((i:Int)+(m:Int)*1).toNat=i+m:=by lia
  rw[this]
 rw[e];have:=pick_run xs i k;rw[filterMap_map] at this;have a:((λ x=>xs[x]?)∘λ x=>i+x)=λ m=>xs[i+m]?:=rfl;rw[a] at this;rw[this]
theorem fC{t d:Addr}{items:Array Value}{j i:Value}{lo a:Option Int}{Q:Value->Shared->Prop}(c:IsTup s.heap t items)(k:s.heap.IsSliceOf d j i .none)(n:IsPart j lo)(l:IsPart i a)
  (p:¬(br items.size 0 lo=0/\br items.size items.size a=items.size))
  (h:Q (.ref s⁻¹) {s with heap:=s.heap.push {cls:=.type "tuple",data:=.seq ((items.toList.drop (br items.size 0 lo)).take (br items.size items.size a - br items.size 0 lo)).toArray}})
  (r:items.size<=sizeLine):wpAny (model prog w) A (getItem (.ref t) (.ref d)) Q E s:=by
 have b:sizeOk (.seq ((items.toList.drop (br items.size 0 lo)).take (br items.size items.size a - br items.size 0 lo)).toArray):=by
  show ((items.toList.drop (br items.size 0 lo)).take (br items.size items.size a - br items.size 0 lo)).toArray.size<=sizeLine;rw[ME,Ol,length_drop,NH];lia
 have z:br items.size items.size a<=items.size:=CQ _ _ (MB _) a;let⟨o,e,g,u⟩:=id k;have v:s.TypeIs (.ref d) "slice":=⟨o,e,g⟩;unfold getItem
 try with_reducible refine Nl ?_
 first | refine Mu (MA ?_) | skip
 refine Mu (wpAny_sequenceKey c.typeIs 'd' ?_);refine Mu (Nv (name:=Str.ofString "__getitem__") c.typeIs NJ
  (N6 NJ c.typeIs entry_tuple_getitem ?_ (args_tuple_getitem _ _)))
 show wpAny _ _ (Builtin.Tuple.tupleItemsOf (.ref t) >>= _) _ _ s;refine Mu (tupleItemsOf_ c ?_);refine Mu (Qj v ?_);rw[MO 'd'];refine Mu (cQ k n l ?_);have f:¬((((br items.size 0 lo:Nat):Int)==0&&(1:Int)==1&&(br items.size items.size a - br items.size 0 lo)==items.size)=true):=by
  intro q;rw[Mz,Mz] at q;have y:((br items.size 0 lo:Nat):Int)=0:=eq_of_beq q.1.1;have x:br items.size items.size a - br items.size 0 lo=items.size:=eq_of_beq q.2;exact p ⟨by lia,by lia⟩
 show wpAny _ _ (if (((br items.size 0 lo:Nat):Int)==0&&(1:Int)==1&&(br items.size items.size a - br items.size 0 lo)==items.size)=true then _ else _) _ _ s;rw[MN f,uF]
 first
  |exact Mu (m:=Builtin.Tuple.tupleExact _) (Np (MA ⟨_,rfl,MA h⟩) b)
  |exact Mu (m:=Builtin.Tuple.tupleExact _) (Np (Mu (MA (MA ⟨_,rfl,MA h⟩))) b)
  |exact Mu (Mu (m:=Builtin.Tuple.tupleExact _) (Np (MA (MA ⟨_,rfl,MA h⟩)) b))
  |exact Mu (Mu (m:=Builtin.Tuple.tupleExact _) (Np (MA ⟨_,rfl,MA h⟩) b))
end
end HT
namespace L2
open PySem PySem.Spec PyProof.Rows List
abbrev TO:=St->Hp->(Option Int->Hp->Prop)->Prop
def PO(X:Cx)(e:Option Expr)(t:TO):Prop:=
 ∀(a:List (Addr×Obj)) (s:Shared) (Y:St) (H:Hp) (Q:Option Int->Hp->Prop),Inv X a Y H s->t Y H Q->
  wpAny (model X.prog X.w) X.A (evalPart e X.env) (λ u c=>∃o b,Inv X a Y b c/\IsPart u o/\Q o b) X.xe s
def yz:TO:=λ _ H Q=>Q none H
def GD(t:TE):TO:=fun Y H Q=>t Y H λ x a=>∃i,x=.int i/\Q (some i) a
theorem intsAre_of{ns:List Int}:∀{us:List Value},Vals (ns.map V.int) us->IntsAre us ns:=by
 induction ns with
 |nil=>intro us r;rw[Qk] at r;cases r;exact .nil
 |cons n ns c=>
  intro us r;rw[Nj] at r;cases r with
  |cons b a=>
   let⟨t,e⟩:=b;subst e;exact .cons n t (c a)
section
variable{X:Cx}{e:Expr}{te:TE}{lo hi:Option Expr}{tl th:TO}{pos p2:Pos}
theorem yC:PO X none yz:=by
 intro a s Y H Q I h;rw[evalPart_none];exact MA ⟨none,H,I,.none,h⟩
theorem yD(h:PE X e te):PO X (some e) (GD te):=by
 intro d s Y H Q I c;rw[evalPart_some];refine aJ (h d s Y H _ I c) λ u j ⟨x,g,f,a,b⟩=>?_;let⟨i,rfl,q⟩:=b;let⟨t,rfl⟩:=a;exact⟨some i,g,f,.int i t,q⟩
def E3(X:Cx)(r:V->Option Int->Option Int->Hp->VK->Prop):Prop:=
 ∀(d:List (Addr×Obj)) (s:Shared) (Y:St) (H:Hp) (x:V) (v b a:Value) (lo hi:Option Int) (c:Addr) (Q:VK),Inv X d Y H s->RelV x v->s.heap.IsSliceOf c b a .none->IsPart b lo->IsPart a hi->r x lo hi H Q->
  ∃T f,typeLookup (.type T) "__getitem__"=pure @(.builtin f)/\s.TypeIs v T/\wpAny (model X.prog X.w) X.A (getItem v (.ref c)) (EP X d Y Q) X.xe s
def Lj(r:V->Option Int->Option Int->Hp->VK->Prop)(te:TE)(tl th:TO):TE:=fun Y H Q=>te Y H λ x c=>tl Y c λ l b=>th Y b λ u a=>r x l u a Q
theorem uG{r:V->Option Int->Option Int->Hp->VK->Prop}(B:E3 X r)(E:PE X e te)(C:PO X lo tl)(y:PO X hi th):PE X (.Subscript e (.Slice lo hi none p2) pos) (Lj r te tl th):=by
 intro c s Y H Q I h;refine Subscript_ (aJ (E c s Y H _ I h) λ v j ⟨x,N,L,k,o⟩=>?_);refine wpAny_Slice (aJ (C c j Y N _ L o) λ f i ⟨l,M,K,t,n⟩=>aJ (y c i Y M _ K n) λ d a ⟨u,g,J,p,m⟩=>?_);rw[evalPart_none];refine MA ?_;have G:Inv X c Y g {a with heap:=a.heap.push {cls:=.type "slice",data:=.fields #[f,d,.none]}}:=J.kept (t':=a.toks) λ b O q=>Mv _ q;let⟨T,P,F,z,D⟩:=B c {a with heap:=a.heap.push {cls:=.type "slice",data:=.fields #[f,d,.none]}} Y g x v f d l u a⁻¹ Q G k (Heap.IsSliceOf.new ..) t p m;show wpAny (model X.prog X.w) X.A (subscriptTail e (.Slice lo hi none p2) v (.ref a⁻¹)) (EP X c Y Q) X.xe {a with heap:=a.heap.push {cls:=.type "slice",data:=.fields #[f,d,.none]}};exact tail_any (ops:=[.ref a⁻¹,v]) z F D (by with_unfolding_all rfl)
def kq(xs:List V)(lo hi:Option Int):List V:=(xs.drop (HT.br xs.length 0 lo)).take (HT.br xs.length xs.length hi - HT.br xs.length 0 lo)
theorem gB(xs:List V)(lo hi:Option Int):(kq xs lo hi).length<=xs.length:=by
 unfold kq;rw[Ol,length_drop];lia
def Js(K:ae):V->Option Int->Option Int->Hp->VK->Prop:=λ x lo hi H Q=>∃a b,x=.ref a/\bI K H a b/\
 ¬(HT.br b.length 0 lo=0/\HT.br b.length b.length hi=b.length)/\∀p,H p=none->Q (.ref p) (upd H p (.tup (kq b lo hi)))
theorem CS:E3 X (Js X.K):=by
 intro z s Y H x v u t lo hi w Q I j p l k h;let⟨a,d,rfl,m,n,q⟩:=h;cases j;let⟨f,r,i,g⟩:=I.tuple m;have c:f.toArray.size=d.length:=by rw[ME];exact r.length.symm
 refine⟨"tuple",_,PyProof.Rows.slot_tuple_getitem.lookup,i.typeIs,?_⟩;refine HT.fC i p l k (by rw[c];exact n) ?_ (by rw[c];exact g);rw[c];refine⟨.ref s⁻¹,_,I.laid (t':=s.toks) (o:=.tup (kq d lo hi)) (λ b y q=>Mv _ q) (MB _) ?_,rfl,q _ (I.hok.fresh (MB _))⟩;exact⟨MQ (gB d lo hi) g,_,(r.drop (HT.br d.length 0 lo)).take (HT.br d.length d.length hi - HT.br d.length 0 lo),jg.new _ _⟩
def GF(K:ae):R2:=λ x y H Q=>∃a b d c,x=.ref a/\y=.ref b/\bI K H a d/\bI K H b c/\d≠[]/\d.length+c.length<=sizeLine/\
 (c=[]->Q (.ref a) H)/\(c≠[]->∀p,H p=none->Q (.ref p) (upd H p (.tup (d++c))))
theorem Vals.kr{xs:List V}{us:List Value}(r:Vals xs us):us=[]↔xs=[]:=by
 cases r with
 |nil=>simp
 |cons _ _=>simp
theorem yE:dg X (binaryOp .Add) (GF X.K):=by
 intro D s Y H x y v u Q I l k h;let⟨a,b,j,i,rfl,rfl,B,A,t,g,n,m⟩:=h;cases l;cases k;let⟨r,d,p,_⟩:=I.tuple B;let⟨f,c,p2,_⟩:=I.tuple A;refine HT.yy p p2 (λ z=>t (d.kr.mp z)) (λ z=>⟨.ref a,H,I,rfl,n (c.kr.mp z)⟩) (λ z=>?_) (by rw[<-d.length,<-c.length];exact g);refine⟨.ref s⁻¹,_,I.laid (t':=s.toks) (o:=.tup (j++i)) (λ b C q=>Mv _ q) (MB _) ?_,rfl,m (λ w=>z (c.kr.mpr w)) _ (I.hok.fresh (MB _))⟩;exact⟨by rw[Nm];exact g,_,d.append c,jg.new _ _⟩
end
variable{H:Hp}{aa:List (Addr×Obj)}{s:Shared}{v:Value}{Y:St}
def uH(n:Nat)(i:Int):Option Nat:=if 0<=i then (if i<n then some i.toNat else none) else if -(n:Int)<=i then some (i+n).toNat else none
def oK{a:Type}(xs:List a)(i:Int):Option a:=(uH xs.length i).bind λ j=>xs[j]?
theorem qd{n:Nat}{i:Int}{j:Nat}(h:uH n i=some j):seqIndex? i n=some j/\j<n/\-(n:Int)<=i/\i<n:=by
 unfold uH at h
 by_cases b:0<=i
 .rw[MO b] at h
  by_cases a:i<n
  .rw[MO a] at h;have e:i.toNat=j:=M0 h;exact⟨by rw[seqIndex_of b a,e],by lia,by lia,a⟩
  .rw[MN a] at h;cases h
 .rw[MN b] at h
  by_cases a:-(n:Int)<=i
  .rw[MO a] at h;have e:(i+n).toNat=j:=M0 h;exact⟨by rw[Ql 'o' a,e],by lia,a,by lia⟩
  .rw[MN a] at h;cases h
theorem ku{a:Type}{xs:List a}{i:Int}{v:a}(h:oK xs i=some v):∃j,seqIndex? i xs.length=some j/\xs[j]?=some v/\j<xs.length/\-(xs.length:Int)<=i/\i<xs.length:=by
 unfold oK at h;cases e:uH xs.length i with
 |none=>rw[e] at h;cases h
 |some j=>
  rw[e] at h;let⟨f,d,c,b⟩:=qd e;exact⟨j,f,h,d,c,b⟩
def gX(b:Expr):Prop:=∀o i,subscripted b false o i=operate [o,i] (getItem o i)
def CT(X:Cx)(r:R2):Prop:=
 ∀(b a:Expr) (aa:List (Addr×Obj)) (s:Shared) (Y:St) (H:Hp) (x y:V) (v u:Value) (Q:VK),Inv X aa Y H s->RelV x v->RelV y u->r x y H Q->
  subscripted a false v u=operate [v,u] (getItem v u)->wpAny (model X.prog X.w) X.A (subscriptTail b a v u) (EP X aa Y Q) X.xe s
def ya(X:Cx)(c:String)(r:V->List V->Hp->VK->Prop):Prop:=
 ∀(aa:List (Addr×Obj)) (s:Shared) (Y:St) (H:Hp) (x:V) (a:List V) (v:Value) (b:List Value) (Q:VK),Inv X aa Y H s->RelV x v->Vals a b->r x a H Q->
  wpAny (model X.prog X.w) X.A (call (.builtin c) (v::b)) (EP X aa Y Q) X.xe s
section
variable{X:Cx}{a b:Expr}{ta tb:TE}{pos:Pos}
theorem AN{r:R2}(g:CT X r)(j:PE X a ta)(i:PE X b tb)(f:gX b):PE X (.Subscript a b pos) (Iw r ta tb):=by
 intro aa s Y H Q I h;exact Subscript_ (CD j i I h λ v u c x y l k e d q=>g a b aa c Y l x y v u Q k e d q (f _ _))
def Jt(K:ae):R2:=λ x y H Q=>∃p c i v,x=.ref p/\y=.int i/\dI K H p c/\oK c i=some v/\Q v H
def Ju(K:ae):R2:=λ x y H Q=>∃p c i v,x=.ref p/\y=.int i/\bI K H p c/\oK c i=some v/\Q v H
def Jv:R2:=λ x y H Q=>∃z i c,x=.str z/\y=.int i/\z.length<=sizeLine/\oK z.cps.toList i=some c/\Q (.str ⟨#[c]⟩) H
theorem yF:CT X (Jt X.K):=by
 intro e f aa s Y H x y v u Q I D C h n;let⟨p,N,i,z,rfl,rfl,E,G,q⟩:=h;cases D;let⟨t,rfl⟩:=C;let⟨l,r,k,O⟩:=I.list E;let⟨j,d,M,R,L,J⟩:=ku G;let⟨w,A,g⟩:=r.get M;have F:=r.length;have P:=eZ;have c:EP X aa Y Q w s:=⟨z,H,I,g,q⟩
 by_cases o:0<=i
 .have m:i.toNat=j:=by
   rw[seqIndex_of o J] at d;exact M0 d
  exact item_listR k.isList o 'o' (by rw[m];simpa using A) c n
 .have m:(i+(l.toArray.size:Int)).toNat=j:=by
   rw[Ql 'o' L] at d;rw[ME,<-F];exact M0 d
  exact subscriptTail_builtinR (x:=w) k.isList.typeIs slot_list_getitem.lookup
   (wpAny_getItem_list_neg (Q:=λ r B=>r=w/\EP X aa Y Q r B) k.isList 'o' (by rw[ME]<;>lia) 'o' (by rw[m];simpa using A) ⟨rfl,c⟩) n
theorem CU:CT X (Ju X.K):=by
 intro c d aa s Y H x y v u Q I m l h o;let⟨p,G,i,z,rfl,rfl,A,C,q⟩:=h;cases m;let⟨t,rfl⟩:=l;let⟨n,r,g,J⟩:=I.tuple A;let⟨j,E,D,O,N,M⟩:=ku C;let⟨w,F,e⟩:=r.get D;have B:=r.length;have L:=eZ;have f:EP X aa Y Q w s:=⟨z,H,I,e,q⟩;exact subscriptTail_builtinR (x:=w) g.typeIs slot_tuple_getitem.lookup
  (getItem_tuple (j:=j) (Q:=λ r k=>r=w/\EP X aa Y Q r k) g 'o' 'o' (by rw[ME,<-B];exact E) (~~~F) ⟨rfl,f⟩) o
theorem CV:CT X Jv:=by
 intro d e aa s Y H x y v u Q I k g h l;let⟨z,i,c,rfl,rfl,C,n,q⟩:=h;let⟨t,rfl⟩:=k;let⟨B,rfl⟩:=g;let⟨j,f,r,E,p,o⟩:=ku n;have m:z.cps.toList.length=z.length:=by simp[Str.length]
 rw[m] at f p o;have D:=eZ;exact tail_any (O5 s z t) slot_str_getitem.lookup (getItem_str (c:=c) (by
  have A:decide (i < -(2^63:Int))=false:=Nt 'o';have w:decide (i≥2^63)=false:=Nt 'o';rw[A,w,Bool.or_false]) (by rw[f];simpa using r) ⟨.str ⟨#[c]⟩,H,I.tok _,⟨_,rfl⟩,q⟩) l
theorem oM(its:List Value)(n j:Nat)(u:Value):Obj.mapSeq (·.setIfInBounds j u) {cls:=.type "list",data:=.seq its.toArray n}={cls:=.type "list",data:=.seq (its.set j u).toArray n}:=by
 simp[Obj.mapSeq]
theorem Inv.lst{p:Addr}{xs:List V}(I:Inv X aa Y H s)(h:H p=@(.lst xs)) :
  ∃(its:List Value) (n:Nat),Vals xs its/\s.heap.get? p=some {cls:=.type "list",data:=.seq its.toArray n}/\xs.length<=sizeLine:=by
 let⟨z,its,n,r,e⟩:=I.hok p _ h;exact⟨its,n,r,e,z⟩
theorem Inv.CW{p:Addr}{xs c:List V}{its its':List Value}{n d:Nat}{f:Obj->Obj}(I:Inv X aa Y H s)(h:H p=@(.lst xs))
  (ho:s.heap.get? p=some {cls:=.type "list",data:=.seq its.toArray n}) (g:f {cls:=.type "list",data:=.seq its.toArray n}={cls:=.type "list",data:=.seq its'.toArray d}) (r:Vals c its') (i:c.length<=sizeLine) (t:Nat) :
  Inv X aa Y (upd H p (.lst c)) {s with heap:=s.heap.update p f,toks:=t}:=by
 have e:(s.heap.update p f).get? p=some {cls:=.type "list",data:=.seq its'.toArray d}:=by
  rw[NY f ho (by rw[g]<;>rfl),g]
 refine I.write (x:=p) (e:=p) (by rw[h];trivial) (.inl rfl) (λ b u j q=>(NF _ _ (Ne.symm j)).trans q) ⟨_,e⟩ ?_;exact⟨i,its',d,r,e⟩
def GG:V->V->V->Hp->(Hp->Prop)->Prop:=λ o i v H Q=>∃p c k j,o=.ref p/\i=.int k/\H p=some (.lst c)/\uH c.length k=some j/\Q (upd H p (.lst (c.set j v)))
theorem set_list:Cq X GG:=by
 intro aa s Y H o i v F G u Q I B C A h;let⟨p,z,k,j,rfl,rfl,l,E,q⟩:=h;cases B;let⟨t,rfl⟩:=C;let⟨c,n,r,e,D⟩:=I.lst l;let⟨d,K,w,m⟩:=qd E;have f:=r.length;have J:=eZ;have y:Inv X aa Y (upd H p (.lst (z.set j v))) {s with heap:=s.heap.update p (Obj.mapSeq (·.setIfInBounds j u))}:=
  I.CW l e (oM c n j u) (r.set A j) (by rw[Py];exact D) s.toks
 by_cases x:0<=k
 .have g:k.toNat=j:=by
   rw[seqIndex_of x m] at d;exact M0 d
  exact PySem.W.ki_setAt e x 'o' (by rw[ME,<-f];exact m) (by rw[g];exact⟨_,y,q⟩)
 .have g:(k+(c.toArray.size:Int)).toNat=j:=by
   rw[Ql 'o' w] at d;rw[ME,<-f];exact M0 d
  exact PySem.W.ki_setBack e 'o' (by rw[ME,<-f];exact w) 'o' (by rw[g];exact⟨_,y,q⟩)
theorem lZ(i:Int)(n d:Nat):max 0 (min (if i<0 then i+(n:Int) else i) (n:Int))=((HT.br n d (some i):Nat):Int):=by
 rw[<-HT.ko i n d]
 by_cases h:i<0
 .rw[MO h,MO h,Int.min_eq_left 'o',Int.max_comm]
 .rw[MN h,MN h,Int.max_eq_right (Int.le_min.mpr ⟨by lia,by lia⟩)]
theorem kB(lo c:Option Int)(n:Nat):(sliceBounds lo c none n).1=((HT.br n 0 lo:Nat):Int)/\(sliceBounds lo c none n).2.1=((HT.br n n c:Nat):Int)/\(sliceBounds lo c none n).2.2=1:=by
 refine⟨?_,?_,rfl⟩
 .cases lo with
  |none=>simp[sliceBounds,HT.br]
  |some i=>
   erw[sliceBounds,Option.getD_none,show (1:Int)>0 by decide,ND];exact lZ i n 0
 .cases c with
  |none=>simp[sliceBounds,HT.br]
  |some i=>
   erw[sliceBounds,Option.getD_none,show (1:Int)>0 by decide,ND];exact lZ i n n
theorem jh(its:List Value)(lo c:Option Int):slicePick its.toArray lo c none=((its.drop (HT.br its.length 0 lo)).take (HT.br its.length its.length c - HT.br its.length 0 lo)).toArray:=by
 let⟨f,e,d⟩:=kB lo c its.toArray.size;unfold slicePick;rw[f,e,d];erw[sliceRange_one,pick_run,ME]<;>rfl
def Jw(K:ae):V->Option Int->Option Int->Hp->VK->Prop:=λ x d e H Q=>∃a c,x=.ref a/\dI K H a c/\∀p,H p=none->Q (.ref p) (upd H p (.lst (kq c d e)))
theorem yG:E3 X (Jw X.K):=by
 intro aa s Y H x v u t e f w Q I i p k j h;let⟨a,c,rfl,n,q⟩:=h;cases i;let⟨l,r,g,m⟩:=I.list n;have d:=r.length;refine⟨"list",_,slot_list_getitem.lookup,g.isList.typeIs,?_⟩;refine wpAny_getItem_list_slice g.isList p k j .none 's' ?_ (by rw[ME]<;>lia);rw[jh,<-d];refine⟨.ref s⁻¹,_,I.laid (t':=s.toks) (o:=.lst (kq c e f)) (λ b y q=>Mv _ q) (MB _) ?_,rfl,q _ (I.hok.fresh (MB _))⟩;exact⟨MQ (gB c e f) m,_,0,(r.drop (HT.br c.length 0 e)).take (HT.br c.length c.length f - HT.br c.length 0 e),MC _ rfl⟩
def cR:V->Bool
 |.non=>true
 |.bl _=>true
 |.int _=>true
 |.str _=>true
 |_=>false
def l0:V->V->Bool
 |.non,.non=>true
 |.bl a,.bl b=>a==b
 |.bl a,.int b=>(if a then 1 else 0)==b
 |.int a,.bl b=>a==(if b then 1 else 0)
 |.int a,.int b=>a==b
 |.str a,.str b=>a==b
 |_,_=>false
theorem CY{A:Around}{y x:V}{u:Value}(e:RelV y u)(c:RelV x v)(g:cR y=true)(f:cR x=true):SeqAt.EqAt A s u v (l0 y x):=by
 cases y with
 |non=>
  cases e;cases x with
  |non=>cases c;exact SeqAt.EqAt.same _
  |bl b=>cases c;exact SeqAt.EqAt.none_bool b
  |int b=>let⟨t,rfl⟩:=c;exact SeqAt.EqAt.none_int b t
  |str b=>let⟨t,rfl⟩:=c;exact SeqAt.EqAt.none_str b t
  |_=>exact absurd (show false=true from f) M5
 |bl a=>
  cases e;cases x with
  |non=>cases c;exact SeqAt.EqAt.bool_none a
  |bl b=>cases c;exact SeqAt.EqAt.bool_bool a b
  |int b=>let⟨t,rfl⟩:=c;exact SeqAt.EqAt.bool_int a b t
  |str b=>let⟨t,rfl⟩:=c;exact SeqAt.EqAt.bool_str a b t
  |_=>exact absurd (show false=true from f) M5
 |int a=>
  let⟨d,rfl⟩:=e;cases x with
  |non=>cases c;exact SeqAt.EqAt.int_none a d
  |bl b=>cases c;exact SeqAt.EqAt.int_bool a d b
  |int b=>let⟨t,rfl⟩:=c;exact SeqAt.EqAt.int_int a d b t
  |str b=>let⟨t,rfl⟩:=c;exact SeqAt.EqAt.int_str a d b t
  |_=>exact absurd (show false=true from f) M5
 |str a=>
  let⟨d,rfl⟩:=e;cases x with
  |non=>cases c;exact SeqAt.EqAt.str_none a d
  |bl b=>cases c;exact SeqAt.EqAt.str_bool a d b
  |int b=>let⟨t,rfl⟩:=c;exact SeqAt.EqAt.str_int a d b t
  |str b=>let⟨t,rfl⟩:=c;exact SeqAt.EqAt.str_str a d b t
  |_=>exact absurd (show false=true from f) M5
 |_=>exact absurd (show false=true from g) M5
def CZ(x:V)(u:Value):Bool:=match u with
 |.none=>l0 .non x
 |.bool b=>l0 (.bl b) x
 |.int i _=>l0 (.int i) x
 |.str z _=>l0 (.str z) x
 |_=>false
theorem oN{x y:V}{u:Value}(r:RelV y u)(f:cR y=true):CZ x u=l0 y x:=by
 cases y with
 |non=>cases r;rfl
 |bl b=>cases r;rfl
 |int i=>let⟨t,rfl⟩:=r;rfl
 |str z=>let⟨t,rfl⟩:=r;rfl
 |_=>exact absurd (show false=true from f) M5
theorem fD{A:Around}{x:V}(d:RelV x v)(e:cR x=true):∀{xs:List V} {us:List Value},Vals xs us->xs.all cR=true->∀u∈us,SeqAt.EqAt A s u v (CZ x u)
 |_,_,.nil,_=>λ u c=>by cases c
 |y::xs,u::us,.cons r t,f=>λ u' c=>by
  rw[Pk,Mz] at f;rcases MJ.mp c with rfl | c
  .rw[oN r f.1];exact CY r d f.1 e
  .exact fD d e t f.2 u' c
theorem kC:aW X (.builtin "len") (λ xs H Q=>∃p d,xs=[.ref p]/\(dI X.K H p d\/bI X.K H p d)/\Q (.int d.length) H):=by
 intro aa s Y H xs l Q I r h;let⟨p,d,rfl,e,q⟩:=h;let⟨u,rfl,j⟩:=vals1 r;cases j;have m:=eZ;rcases e with e | e
 .let⟨i,f,g,k⟩:=I.list e;have c:=f.length;exact Calls.call_len_list g.isList (by erw[ME]<;>lia) ⟨.int d.length,H,I.tok _,⟨s.toks+1,by rw[ME,c]⟩,q⟩
 .let⟨i,f,g,k⟩:=I.tuple e;have c:=f.length;exact len_tuple g (by erw[ME]<;>lia) ⟨.int d.length,H,I.tok _,⟨s.toks+1,by rw[ME,c]⟩,q⟩
theorem kD:aW X (.builtin "len") (λ xs H Q=>∃z,xs=[.str z]/\z.length<=sizeLine/\Q (.int z.length) H):=by
 intro aa s Y H xs c Q I r h;let⟨z,rfl,d,q⟩:=h;let⟨u,rfl,t,rfl⟩:=vals1 r;have e:=eZ;exact len_str 'o' ⟨.int z.length,H,I.tok _,⟨_,rfl⟩,q⟩
theorem kE:aW X (.type "list") (λ xs H Q=>∃p f,xs=[.ref p]/\(dI X.K H p f\/bI X.K H p f)/\∀l,H l=none->Q (.ref l) (upd H l (.lst f))):=by
 intro aa s Y H xs E Q I r h;let⟨p,f,rfl,m,q⟩:=h;let⟨u,rfl,D⟩:=vals1 r;cases D;have x:∀(c:List Value),Vals f c->f.length<=sizeLine->∀(d:Heap) (i:Nat),(∀b C,s.heap.get? b=some C->d.get? b=some C)->
   d.get? s⁻¹=some {cls:=.type "list",dict:=none,data:=.seq c.toArray i,slots:=#[]}->EP X aa Y Q (.ref s⁻¹) {s with heap:=d}:=λ c g k d i j e=>
  ⟨.ref s⁻¹,_,I.laid (t':=s.toks) j (MB _) (show aC X.prog X.w _ d _ (.lst f) from⟨k,c,i,g,e⟩),rfl,q _ (I.hok.fresh (MB _))⟩
 rcases m with m | m
 .let⟨c,g,y,k⟩:=I.list m;have t:=g.length;let⟨o,z,B,n,A⟩:=y.isList;exact call_list_seq p (.inl rfl) z B A (λ d i j e=>x c g k d i j e) (by erw[ME]<;>lia)
 .let⟨c,g,y,k⟩:=I.tuple m;have t:=g.length;let⟨o,z,B,n,A⟩:=y;exact call_list_seq p (.inr rfl) z B A (λ d i j e=>x c g k d i j e) (by erw[ME]<;>lia)
theorem ji:aW X (.type "tuple") (λ xs H Q=>∃p d,xs=[.ref p]/\((dI X.K H p d/\∀l,H l=none->Q (.ref l) (upd H l (.tup d)))\/(bI X.K H p d/\Q (.ref p) H))):=by
 intro aa s Y H xs z Q I r h;let⟨p,d,rfl,h⟩:=h;let⟨u,rfl,t⟩:=vals1 r;cases t;rcases h with⟨j,q⟩ | ⟨j,q⟩
 .let⟨c,g,i,k⟩:=I.list j;have m:=g.length;refine call_tuple_list i.isList (λ f x=>?_) (by erw[ME]<;>lia);have n:Inv X aa Y H {s with heap:=f}:=I.kept (t':=s.toks) x;have y:Inv X aa Y (upd H f.objs.size (.tup d)) {s with heap:=f.push {cls:=.type "tuple",data:=.seq c.toArray}}:=
   n.laid (t':=s.toks) (λ b o e=>Mv _ e) (MB _) (show aC X.prog X.w _ _ _ (.tup d) from⟨k,c,g,jg.new _ _⟩)
  exact⟨.ref f.objs.size,_,y,rfl,q _ (n.hok.fresh (MB _))⟩
 .let⟨c,g,i,k⟩:=I.tuple j;exact call_tuple_same i ⟨.ref p,H,I,rfl,q⟩
def l7(K:ae)(T:String)(x:V)(H:Hp):Prop:=match x with
 |.str _=>T="str"
 |.int _=>T="int"
 |.ref p=>(T="list"/\∃d,dI K H p d)\/(T="tuple"/\∃o,K.lookup p=some o/\o.cls=.type "tuple"/\o.dict=none)\/
   (T="dict"/\((∃c,H p=@(.dK c))\/∃c,H p=@(.dT c)))\/(T="set"/\∃S n,H p=@(.set S n))
 |_=>False
theorem oO{T:String}{x:V}(I:Inv X aa Y H s)(r:RelV x v)(g:l7 X.K T x H) :
  s.TypeIs v T/\∀a,v=.ref a->Exists λ m=>s.heap.get? a=some m/\m.dict=none:=by
 cases x with
 |str z=>
  let⟨t,rfl⟩:=r;cases (show T="str" from g);exact⟨O5 s z t,λ _ e=>nomatch e⟩
 |int i=>
  let⟨t,rfl⟩:=r;cases (show T="int" from g);exact⟨typeIs_int s i t,λ _ e=>nomatch e⟩
 |ref p=>
  cases r;rcases g with⟨rfl,xs,u⟩ | ⟨rfl,o,d,hc,j⟩ | ⟨rfl,d⟩ | ⟨rfl,S,n,d⟩
  .let⟨q,_,l,_⟩:=I.list u;refine⟨l.isList.typeIs,λ a e=>?_⟩;cases e;let⟨o,n,e,c,j,_⟩:=l;exact⟨o,e,j⟩
  .refine⟨⟨o,I.bA p o d,hc⟩,λ a e=>?_⟩;cases e;exact⟨o,I.bA _ o d,j⟩
  .have z:∃o,s.heap.get? p=some o/\o.ExactDict:=by
    rcases d with⟨h,d⟩ | ⟨h,d⟩
    .let⟨_,_,_,_,o,_,_,e,f,_⟩:=I.hok p _ d;exact⟨o,e,f⟩
    .let⟨_,_,_,_,o,_,_,e,f,_⟩:=I.hok p _ d;exact⟨o,e,f⟩
   let⟨o,e,f⟩:=z;refine⟨⟨o,e,f.1⟩,λ a k=>?_⟩;cases k;exact⟨o,e,f.2.1⟩
  .let⟨o,_,_,_,e,f,_⟩:=I.hok p _ d;refine⟨⟨o,e,f.1⟩,λ a k=>?_⟩;cases k;exact⟨o,e,f.2.1⟩
 |_=>exact False.elim g
variable{o e:Expr}{es:List Expr}{to:TE}{t:TA}{name:Str}{apos cpos:Pos}{T id:String}{r:V->List V->Hp->VK->Prop}
end
end L2
namespace L2
open PySem PySem.Spec PyProof.Rows List
def C0(X:Cx)(d:String)(r:V->List V->Hp->VK->Prop):Prop:=
 ∀(c:List (Addr×Obj)) (s:Shared) (Y:St) (H:Hp) (x:V) (a:List V) (v:Value) (b:List Value) (Q:VK),Inv X c Y H s->RelV x v->Vals a b->r x a H Q->
  wpAny (model X.prog X.w) X.A (call (.builtin d) (v::b)) (EP X c Y Q) X.xe s
theorem Vals.one{x:V}{us:List Value}(h:Vals [x] us):∃u,us=[u]/\RelV x u:=by
 cases h with | cons r t=>cases t;exact⟨_,rfl,r⟩
section
variable{X:Cx}{aa:List (Addr×Obj)}{Y:St}{H:Hp}{s:Shared}{l b:Addr}{xs ys zs:List V}
theorem Inv.sj{its its':List Value}{n:Nat}{f:Array Value->Array Value}{t':Nat}(I:Inv X aa Y H s)(i:H l=@(.lst xs))
  (e:s.heap.get? l=some {cls:=.type "list",data:=.seq its.toArray n}) (g:f its.toArray=its'.toArray) (c:Vals ys its') (a:ys.length<=sizeLine) :
  Inv X aa Y (upd H l (.lst ys)) {s with heap:=s.heap.update l (Obj.mapSeq f),toks:=t'}:=by
 have q:=PySem.IsL.update e f;rw[g] at q;refine I.write (x:=l) (e:=l) (by rw[i];exact trivial) (.inl rfl) (λ j u h d=>(NF s.heap (Obj.mapSeq f) (Ne.symm h)).trans d) ⟨_,q⟩ ?_;exact⟨a,its',_,c,q⟩
theorem Inv.GH{its:List Value}{t':Nat}(I:Inv X aa Y H s)(c:Vals ys its)(a:ys.length<=sizeLine) :
  Inv X aa Y (upd H s⁻¹ (.lst ys)) {s with heap:=s.heap.push {cls:=.type "list",data:=.seq its.toArray},toks:=t'}:=
 I.laid (λ _ _ q=>Mv _ q) (MB _) ⟨a,its,0,c,MC _ rfl⟩
theorem Inv.fresh(I:Inv X aa Y H s):H s⁻¹=none:=I.hok.fresh (MB _)
theorem Inv.Jx(I:Inv X aa Y H s)(a:H l=@(.lst xs)):xs.length<=sizeLine/\∃(its:List Value) (n:Nat),Vals xs its/\xs.length=its.length/\s.heap.get? l=some {cls:=.type "list",data:=.seq its.toArray n}:=by
 let⟨z,its,n,r,e⟩:=I.hok l _ a;exact⟨z,its,n,r,r.length,e⟩
end
section
variable{X:Cx}
def yH:V->List V->Hp->VK->Prop:=λ x b H Q=>∃l a y,x=.ref l/\b=[y]/\H l=some (.lst a)/\a.length<sizeLine/\Q .non (upd H l (.lst (a++[y])))
theorem jC:C0 X "list.append" yH:=by
 intro o s Y H x i v j Q I c d h;let⟨l,g,y,rfl,rfl,b,k,q⟩:=h;cases c;let⟨u,rfl,f⟩:=d.one;let⟨z,a,n,r,m,e⟩:=I.Jx b;refine OL F.slot_list_append ⟨_,e,rfl⟩ F.entry_list_append (F.args_list_append_2 _ _) (PySem.list_append l a.toArray n u (by rw[ME];lia)) ⟨e,?_⟩;refine⟨.non,_,I.sj (its':=a++[u]) b e 's' (r.append %[|f]) ?_,rfl,q⟩;rw[Nm,length_singleton];lia
end
variable{H:Hp}{P:Program}{X:Cx}{kvs:List (List Key×V)}{pos:Pos}{w:World}{xs:List (List Key×Addr×Value)}{y:V}
section
variable{κ:Type}[DecidableEq κ]
def fV(kvs:List (κ×V))(k:κ):Option V:=(kvs.find? λ a=>decide (a.1=k)).map (·.2)
def putK(kvs:List (κ×V))(k:κ)(v:V):List (κ×V):=
 if (kvs.any λ a=>decide (a.1=k))=true then kvs.map (λ a=>if a.1=k then (a.1,v) else a) else kvs++[(k,v)]
theorem ir{p:κ×V}{r:List (κ×V)}{k:κ}(e:p.1=k):fV (p::r) k=some p.2:=by simp[fV,Ou,e]
theorem iu{p:κ×V}{r:List (κ×V)}{k:κ}(e:¬p.1=k):fV (p::r) k=fV r k:=by simp[fV,Ou,e]
theorem l8(k:κ):∀kvs:List (κ×V),(kvs.any λ a=>decide (a.1=k))=(fV kvs k).isSome
 | []=>rfl
 |p::r=>by
  rw[ON]
  by_cases e:p.1=k
  .erw[ir e,N7 e,Bool.true_or,Option.isSome_some]
  .rw[iu e,Nt e,Bool.false_or];exact l8 k r
theorem l9(kvs:List (κ×V))(k:κ)(v:V):(putK kvs k v).length<=kvs.length+1:=by
 unfold putK;split
 .rw[Nk];lia
 .rw[Nm,MX,Qg];lia
theorem cC.cU{o:Option V}{u:Option Value}(r:cC o u):o.isSome=u.isSome:=by
 cases o with
 |none=>cases u with
  |none=>rfl
  |some _=>exact(show False from r).elim
 |some _=>cases u with
  |none=>exact(show False from r).elim
  |some _=>rfl
theorem KV.val{kvs:List (κ×V)}{vs:List (κ×Value)}(r:KV kvs vs)(k:κ):cC (fV kvs k) (valueAt vs k):=by
 unfold KV at r
 induction r with
 |nil=>exact True.intro
 |@cons p q ps a h t f=>
  let⟨d,g⟩:=h
  by_cases e:p.1=k
  .have c:q.1=k:=d.symm.trans e;have b:valueAt (q::a) k=some q.2:=by simp[valueAt,Ou,c]
   rw[ir e,b];exact g
  .have c:¬q.1=k:=λ z=>e (d.trans z);have b:valueAt (q::a) k=valueAt a k:=by simp[valueAt,Ou,c]
   rw[iu e,b];exact f
theorem KV.any{kvs:List (κ×V)}{vs:List (κ×Value)}(r:KV kvs vs)(k:κ):(kvs.any λ a=>decide (a.1=k))=vs.any λ a=>decide (a.1=k):=by
 unfold KV at r
 induction r with
 |nil=>rfl
 |cons h t b=>rw[ON,ON,b,h.1]
theorem KV.repl{kvs:List (κ×V)}{vs:List (κ×Value)}(r:KV kvs vs)(k:κ){u:Value}(c:RelV y u) :
  KV (kvs.map λ a=>if a.1=k then (a.1,y) else a) (vs.map λ a=>if a.1=k then (a.1,u) else a):=by
 unfold KV at r ⊢
 induction r with
 |nil=>exact .nil
 |@cons p q ps g h t d=>
  rw[Nj,Nj];refine .cons ?_ d;let⟨b,f⟩:=h
  by_cases e:p.1=k
  .rw[MO e,MO (b.symm.trans e)];exact⟨b,c⟩
  .rw[MN e,MN (λ z=>e (b.trans z))];exact⟨b,f⟩
theorem KV.put{kvs:List (κ×V)}{vs:List (κ×Value)}(r:KV kvs vs)(k:κ){u:Value}(a:RelV y u):KV (putK kvs k y) (stored vs k u):=by
 unfold putK stored;rw[r.any k]
 by_cases e:(vs.any λ b=>decide (b.1=k))=true
 .rw[MO e,MO e];exact r.repl k a
 .rw[MN e,MN e];exact Paired.snoc r ⟨rfl,a⟩
theorem KV.length{kvs:List (κ×V)}{vs:List (κ×Value)}(r:KV kvs vs):kvs.length=vs.length:=Qd r
end
theorem mh{k:Key}{u:Value}(r:RelV (kV k) u):(aB P w).is k u=true:=by
 cases k with
 |inl i=>let⟨t,e⟩:=(show ∃t,u=Value.int i t from r);subst e;exact gw P w i t
 |inr x=>let⟨t,e⟩:=(show ∃t,u=Value.str x t from r);subst e;exact gx P w x t
theorem jD:∀{ks:List Key} {us:List Value},Vals (ks.map kV) us->ItemsAre (aB P w) ks us
 | [],_,r=>by rw[Qk] at r;cases r;exact .nil
 |k::ks,_,r=>by
  rw[Nj] at r;cases r with
  |cons h t=>exact .cons (mh h) (jD t)
abbrev KT(H:Hp):List (List Key×V)->List (List Key×Addr×Value)->Prop:=Paired λ p q=>p.1=q.1/\H q.2.1=some (.tup (p.1.map kV))/\RelV p.2 q.2.2
theorem KT.val(r:KT H kvs xs)(k:List Key):cC (fV kvs k) ((atKey xs k).map (·.2)):=by
 induction r with
 |nil=>exact True.intro
 |@cons p q ps a h t f=>
  let⟨d,_,g⟩:=h
  by_cases e:p.1=k
  .have c:q.1=k:=d.symm.trans e;have b:atKey (q::a) k=some q.2:=by simp[atKey,Ou,c]
   rw[ir e,b];exact g
  .have c:¬q.1=k:=λ z=>e (d.trans z);have b:atKey (q::a) k=atKey a k:=by simp[atKey,Ou,c]
   rw[iu e,b];exact f
theorem KT.repl(r:KT H kvs xs)(k:List Key){u:Value}(d:RelV y u) :
  KT H (kvs.map λ b=>if b.1=k then (b.1,y) else b) (xs.map (putAt k u)):=by
 induction r with
 |nil=>exact .nil
 |@cons p q ps i h t f=>
  rw[Nj,Nj];refine .cons ?_ f;let⟨a,c,g⟩:=h;unfold putAt
  by_cases e:p.1=k
  .rw[MO e,MO (a.symm.trans e)];exact⟨a,c,d⟩
  .rw[MN e,MN (λ z=>e (a.trans z))];exact⟨a,c,g⟩
theorem KT.put(r:KT H kvs xs)(k:List Key){b:Addr}{u:Value}(d:H b=@(.tup (k.map kV)))(a:RelV y u) :
  KT H (putK kvs k y) (storedH xs k b u):=by
 have e:(kvs.any λ c=>decide (c.1=k))=(atKey xs k).isSome:=by
  rw[l8,(r.val k).cU,Pe]
 unfold putK storedH;rw[e]
 by_cases q:(atKey xs k).isSome=true
 .rw[MO q,MO q];exact r.repl k a
 .rw[MN q,MN q];exact Paired.snoc r ⟨rfl,d,a⟩
theorem KT.keeps{c:Hp}(r:KT H kvs xs)(d:∀b a,H b=some (.tup a)->c b=@(.tup a)):KT c kvs xs:=
 Paired.B8 r λ _ _ z=>⟨z.1,d _ _ z.2.1,z.2.2⟩
section
variable{P:Program}{w:World}{H:Hp}{h:Heap}{a:Addr}
theorem AO{u:HO}(b:cZ P w H h)(e:Rd H a u):aC P w H h a u:=e.ok b
theorem qe{kvs:List (Key×V)}(b:cZ P w H h)(e:Rd H a (.dK kvs)):kvs.length<=sizeLine/\(a==sysModules)=false/\∃vs,KV kvs vs/\h.DictOf (aB P w) a vs:=
 show aC P w H h a (.dK kvs) from AO b e
theorem GI{kvs:List (Key×V)}(b:cZ P w H h)(e:H a=@(.dK kvs)):kvs.length<=sizeLine/\(a==sysModules)=false/\∃vs,KV kvs vs/\h.DictOf (aB P w) a vs:=qe b (.inl e)
theorem oQ{ks:List Key}(c:cZ P w H h)(e:H a=@(.tup (ks.map kV))):(tupleKind (aB P w)).is h ks a:=by
 let⟨_,b,r,o,g,f,n,d⟩:=(show aC P w H h a (.tup (ks.map kV)) from c a _ e);exact⟨o,b.toArray,n,g,f.1,d,by simpa using jD r⟩
theorem AQ(d:cZ P w H h)(e:Rd H a (.dT kvs)):kvs.length<=sizeLine/\(a==sysModules)=false/\
  ∃xs,KT H kvs xs/\h.DictOfH (tupleKind (aB P w)) a xs:=by
 let⟨z,y,xs,r,o,u,v,s,n,k,j,i⟩:=(show aC P w H h a (.dT kvs) from AO d e);refine⟨z,y,xs,r,o,u,v,s,n,k,j,λ x b=>?_,i⟩;have c:∀{l:List (List Key×V)} {m:List (List Key×Addr×Value)},KT H l m->∀x∈m,(tupleKind (aB P w)).is h x.1 x.2.1:=by
  intro l m q
  induction q with
  |nil=>intro x b;exact nomatch b
  |@cons p q ps A f t g=>
   intro x b;rcases MJ.mp b with e | b
   .subst e;exact oQ d (by rw[<-f.1];exact f.2.1)
   .exact g x b
 exact c r x b
end
def yI(H:Hp)(a:Addr)(y:V)(r:Option V):Prop:=
 (∃kvs k,Rd H a (.dK kvs)/\y=kV k/\r=fV kvs k)\/∃kvs k b,Rd H a (.dT kvs)/\y=.ref b/\H b=some (.tup (k.map kV))/\r=fV kvs k
def GJ(H:Hp)(a:Addr)(y v:V)(c:Hp):Prop:=
 (∃kvs k,H a=some (.dK kvs)/\y=kV k/\kvs.length<sizeLine/\c=upd H a (.dK (putK kvs k v)))\/
 ∃kvs k b,H a=some (.dT kvs)/\y=.ref b/\H b=some (.tup (k.map kV))/\kvs.length<sizeLine/\c=upd H a (.dT (putK kvs k v))
theorem yI.k{a:Addr}{kvs:List (Key×V)}{k:Key}(e:H a=@(.dK kvs)):yI H a (kV k) (fV kvs k):=.inl ⟨kvs,k,.inl e,rfl,rfl⟩
theorem GJ.k{a:Addr}{kvs:List (Key×V)}{k:Key}{v:V}(e:H a=@(.dK kvs))(b:kvs.length<sizeLine):GJ H a (kV k) v (upd H a (.dK (putK kvs k v))):=.inl ⟨kvs,k,e,rfl,b,rfl⟩
section
variable{X:Cx}{aa:List (Addr×Obj)}{Y:St}{H:Hp}{s:Shared}{a:Addr}{y v:V}{u r:Value}{o:Option V}{A:Around}{E:Value->Shared->Prop}
theorem Inv.big(I:Inv X aa Y H s):sysModules<s⁻¹:=by
 have h:mainGlobals<s⁻¹:=(I.mod.glob.keeps I.bk).lt;exact Qm 'd' h
theorem Jy{Q:Value->Shared->Prop}(n:A.units+1<cLine)(I:Inv X aa Y H s)(g:yI H a y o)(m:RelV y u)(h:∀j,Inv X aa Y H j->Q (.bool o.isSome) j) :
  wpAny (model X.prog X.w) A (compareOp .In u (.ref a)) Q E s:=by
 rcases g with⟨kvs,k,e,f,l⟩ | ⟨kvs,k,b,e,f,p,l⟩
 .subst f;let⟨z,d,t,c,i⟩:=qe I.hok e;refine wpAny_in_of (mh m) d i.mapOf ?_;rw[<-(c.val k).cU,<-l];exact h _ (I.tok _)
 .subst f;cases (show u=Value.ref b from m);let⟨z,d,xs,c,i⟩:=AQ I.hok e;refine wpAny_in_heap (tupleKind_room_in1 n) (oQ I.hok p) d i ?_;have q:=(c.val k).cU;rw[Pe] at q;rw[<-q,<-l];exact h _ (I.tok _)
theorem yJ{Q:Value->Shared->Prop}(n:A.units+1<cLine)(I:Inv X aa Y H s)(g:yI H a y o)(m:RelV y u)(h:∀j,Inv X aa Y H j->Q (.bool (!o.isSome)) j) :
  wpAny (model X.prog X.w) A (compareOp .NotIn u (.ref a)) Q E s:=by
 rcases g with⟨kvs,k,e,f,l⟩ | ⟨kvs,k,b,e,f,p,l⟩
 .subst f;let⟨z,d,t,c,i⟩:=qe I.hok e;refine PZ (mh m) d i.mapOf ?_;rw[<-(c.val k).cU,<-l];exact h _ (I.tok _)
 .subst f;cases (show u=Value.ref b from m);let⟨z,d,xs,c,i⟩:=AQ I.hok e;refine wpAny_notIn_heap (tupleKind_room_in1 n) (oQ I.hok p) d i ?_;have q:=(c.val k).cU;rw[Pe] at q;rw[<-q,<-l];exact h _ (I.tok _)
theorem yK{h':Heap}{t':Nat}{c:HO}(I:Inv X aa Y H s)(f:Ga (H a))(g:Heap.SameBut a s.heap h')(h:∃q,h'.get? a=some q)(d:aC X.prog X.w (upd H a c) h' a c) :
  Inv X aa Y (upd H a c) {s with heap:=h',toks:=t'}:=
 I.write (x:=a) (e:=a) f (.inl rfl) (λ b q i z=>(g.2 b i).trans z) h d
theorem C1{e:Hp}{h':Heap}{kvs:List (Key×V)}{vs:List (Key×Value)}(z:kvs.length<=sizeLine)(c:(a==sysModules)=false)(b:KV kvs vs)(d:h'.DictOf (aB P w) a vs) :
  aC P w e h' a (.dK kvs):=⟨z,c,vs,b,d⟩
end
theorem mj(h:Heap)(a:sysModules<h.objs.size):aC P w H (h.push {cls:=.type "dict",data:=.dict #[]}) h.objs.size (.dK []):=
 ⟨Pc _,NQ.mpr (Ne.symm (MD a)),[],.nil,Heap.DictOf.new h⟩
def kG:List (TE×TE)->St->Hp->(List (V×V)->Hp->Prop)->Prop
 | [],_,H,Q=>Q [] H
 |(tk,a)::r,Y,H,Q=>tk Y H λ x e=>a Y e λ y d=>kG r Y d λ b c=>Q ((x,y)::b) c
abbrev VV:List (V×V)->List (Value×Value)->Prop:=Paired λ p q=>RelV p.1 q.1/\RelV p.2 q.2
def E4(X:Cx)(pos:Pos)(b:List (Option Expr))(a:List Expr)(f:List (TE×TE)):Prop:=
 ∀(d:List (Addr×Obj)) (s:Shared) (Y:St) (H:Hp) (Q:List (V×V)->Hp->Prop),Inv X d Y H s->kG f Y H Q->
  wpAny (model X.prog X.w) X.A (evalPairs (pairTrees b a X.env pos)) (λ g h=>∃c e,Inv X d Y e h/\VV c g/\Q c e) X.xe s
theorem yM:E4 X pos [] [] []:=λ a s Y H Q I h=>pairTrees_nil_walk ⟨[],H,I,.nil,h⟩
theorem uI{k v:Expr}{ks:List (Option Expr)}{vs:List Expr}{tk d:TE}{c:List (TE×TE)}(q:PE X k tk)(o:PE X v d)(p:E4 X pos ks vs c) :
  E4 X pos (some k::ks) (v::vs) ((tk,d)::c):=λ b s Y H Q I h=>
 pairTrees_cons_walk (aJ (q b s Y H _ I h) λ u f ⟨x,C,z,i,m⟩=>aJ (o b f Y C _ z m) λ E e ⟨y,B,t,g,l⟩=>
  aJ (p b e Y B _ t l) λ D F ⟨n,A,r,a,j⟩=>⟨(x,y)::n,A,r,.cons ⟨i,g⟩ a,j⟩)
def cG(kvs a:List (Key×V)):List (Key×V):=a.foldl (λ b c=>putK b c.1 c.2) kvs
theorem KV.merge:∀{a:List (Key×V)} {b:List (Key×Value)} {kvs:List (Key×V)} {vs:List (Key×Value)},KV a b->KV kvs vs->KV (cG kvs a) (merged vs b):=by
 intro a b kvs vs r;unfold KV at r
 induction r generalizing kvs vs with
 |nil=>intro q;exact q
 |@cons p q ps f h t d=>
  intro c;have e:KV (putK kvs p.1 p.2) (stored vs q.1 q.2):=by
   have:=c.put p.1 h.2;rw[<-h.1];exact this
  exact d e
theorem eU:∀(a kvs:List (Key×V)),(cG kvs a).length<=kvs.length+a.length
 | [],kvs=>by show kvs.length<=kvs.length+0;lia
 |p::r,kvs=>by
  have c:=eU r (putK kvs p.1 p.2);have b:=l9 kvs p.1 p.2;show (cG (putK kvs p.1 p.2) r).length<=_;rw[MX];lia
theorem iw{P:Program}{w:World}:∀{kvs:List (Key×V)} {ws:List (Value×Value)},VV (kvs.map λ e=>(kV e.1,e.2)) ws->∃d,Carries (aB P w) ws d/\KV kvs d
 | [],_,r=>by rw[Qk] at r;cases r;exact⟨[],True.intro,.nil⟩
 |p::kvs,_,r=>by
  rw[Nj] at r;cases r with
  |@cons a b as bs h t=>
   let⟨d,c,q⟩:=iw (P:=P) (w:=w) t;let⟨g,f⟩:=b;exact⟨(p.1,f)::d,⟨mh h.1,rfl,c⟩,.cons ⟨rfl,h.2⟩ q⟩
def GK(c:List (TE×TE)):TE:=fun Y H Q=>∀p,H p=none->kG c Y (upd H p (.dK [])) λ d b=>b p=some (.dK [])/\∃kvs:List (Key×V),d=kvs.map (λ a=>(kV a.1,a.2))/\kvs.length<=15/\Q (.ref p) (upd b p (.dK (cG [] kvs)))
theorem yN{b:List (Option Expr)}{d:List Expr}{j:List (TE×TE)}(h:E4 X pos b d j)(f:b.all (·.isSome)=true)(A:b.length=d.length)(E:b≠[])
  (K:b.length<=15):PE X (.Dict b d pos) (GK j):=by
 intro J s Y H Q I q;have x:=I.hok.fresh (MB s⁻¹);have L:=I.laid (a:=s⁻¹) (o:=.dK []) (h':=s.heap.push {cls:=.type "dict",data:=.dict #[]}) (t':=s.toks) (λ _ _ q=>Mv _ q) (MB _) (mj s.heap I.big);refine wpAny_Dict_walk (knd:=aB X.prog X.w) f A E K (aJ (h J _ Y _ _ L (q _ x)) λ M N ⟨O,S,k,i,e,kvs,F,R,r⟩=>?_);subst F;let⟨m,c,n⟩:=iw (P:=X.prog) (w:=X.w) i;let⟨z,C,l,p,G⟩:=GI k.hok e;cases p;refine⟨m,c,G,λ h' g u=>⟨.ref s⁻¹,_,?_,rfl,r⟩⟩;have t:(cG [] kvs).length<=sizeLine:=by
  have D:=eU kvs [];rw[Qg] at D;rw[NS];lia
 have B:∃q,h'.get? s⁻¹=some q:=let ⟨q,_,_,v,_⟩:=g;⟨q,v⟩;exact yK k (by rw[e];exact True.intro) u B (C1 t C (n.merge .nil) g)
end L2
namespace Att
open PySem PySem.W PySem.Calls PyProof.Rows List
theorem gK{P:Params}{h:Heap}:∀(ns:List Int) (vs:List Value),WellAll P h vs (ns.map WData.int)->IntsAre vs ns:=by
 intro ns
 induction ns with
 |nil=>
  intro vs w;rw[Qk] at w;cases w;exact .nil
 |cons n ns c=>
  intro vs w;rw[Nj] at w;cases w with
  |cons a b=>
   cases a;exact .cons _ _ (c _ b)
theorem sr{l:OpenLaw}{n:Nat}(t:l.most=some n){P:Params}{h:Heap}{args:List WData}{b:List Value}
  (c:l.row.toRowW.claim.pre args=true) (i:WellAll P h b args) :
  ∃a vs ns,b=[Value.ref a]/\args=[WData.list (ns.map WData.int)]/\h.get? a=some {cls:=.type "list",data:=.seq vs.toArray}/\IntsAre vs ns/\ns.length<=n:=by
 have j:WShape.hasAll [] args [.list .int]=true:=(pre_splitW c).1;have k:l.pre.holds [] {args:=args}=true:=(pre_splitW c).2;let⟨d,r,rfl,w,v⟩:=hasAllW_cons j;obtain rfl:=hasAllW_nil v;let⟨x,rfl,u⟩:=hasW_list w;let⟨ns,rfl⟩:=items_int u;have e:ns.length<=n:=by
  unfold OpenLaw.pre at k;have g:(WTm.not (.lt (.lit (.int (n:Int))) (.len (.arg 0)))).holds [] {args:=[.list (ns.map .int)]}=true:=by
   have g:=(holds_andW k).1;rw[t] at g;exact g
  have f:=condW_of g (w_not (w_lt w_lit (w_len_list (w_arg rfl))));rw[Nk] at f;refine Pn λ q=>?_;have p:(n:Int)<((ns.length:Nat):Int):=by lia
  first
   |(rw[N7 p] at f;exact absurd f 'd')
   |(simp at f;lia)
 cases i with
 |cons o m=>
  cases m;cases o with
  |list s hall=>exact⟨_,_,ns,rfl,rfl,s,gK ns _ hall,e⟩
theorem su(l:OpenLaw)(args:List WData):l.row.toRowW.claim.post args (.bool true) args=true:=
 postW_of (r:=l.row.toRowW) (X:=(true==true))
  (show WShape.has [] (.bool true) .bool=true by first | rfl | decide | simp[WShape.has,WShape.arms,WShape.armsAll])
  (show (WTm.eq .res (.lit (.bool true))).value [] {args:=args,res:=@(.bool true),after:=args}=some (.bool (true==true)) from w_eq_bool (w_res rfl) w_lit) rfl
theorem mq{l:OpenLaw}{n:Nat}{q:Program}{e:List Str}{I:(Str->Option Value)->Heap->Prop}{H:World->Heap->Prop}{d:DefRec}
  (N:l.most=some n) (A:d.params.defaults=[])
  (p:∀(w:World) (c b:Shared) (t x:Str->Option Value) (m:Addr) (o:Obj) (v u h:Value) (a:Addr) (vs:List Value) (ns:List Int),
   Ground q e [] I w c t x b.heap->H w b.heap->
   b.heap.get? m=some o->o.data=.func (docDef d.name d.params d.body d.scope v u h)->b.heap.CodeRec u d.name->t d.name=some (.ref m)->
   b.heap.get? a=some {cls:=.type "list",data:=.seq vs.toArray}->IntsAre vs ns->ns.length<=n->b.gens=#[]->
   codeAny (model l.prog w) callerA (.call (.ref m) ⟨[.ref a],[]⟩) (λ r s=>r=.ok (.ret (.bool true))/\OldK b.heap s.heap/\s.os=b.os/\AllBare s.gens) b) :
  WalkO q e I H l.row.toRowW d [] (λ f vs=>PySem.call f vs):=by
 intro w c b t x G W m o v u h V J M R B E z Q F C X i D K y P;obtain rfl:V=.none:=Dflts.none E A;obtain rfl:J=.none:=Dflts.noKw E;let⟨a,vs,ns,rfl,rfl,j,g,k⟩:=sr N i y;refine enter_call (NC (p w c b t x m o v u h a vs ns G W M (fd_plain R) B z j g k Q) λ r s L=>?_);let⟨rfl,U,T,S⟩:=L;exact⟨.inl ⟨.bool true,.bool true,[],rfl,λ _=>rfl,.bool true,su l _,λ _=>⟨List.Pairwise.nil,λ _ O=>(nomatch O)⟩⟩,U,T,S⟩
end Att
namespace L2
open PySem PySem.Spec PyProof.Rows List
theorem jE:∀{vs:List Value} {ns:List Int},IntsAre vs ns->Vals (ns.map V.int) vs
 |_,_,.nil=>.nil
 |_,_,.cons n t h=>.cons ⟨t,rfl⟩ (jE h)
def C2(H:Hp):Prop:=∀b,H b=none\/∃o a,H b=@(.frz o (.lst a))
theorem uJ{P:Program}{w:World}{K:ae}{t L:Str->Option Value}{CX:qb}{k:Nat}{N a:Addr}{Z:FuncData}{x:Str}{sp:Sp}{c:Shared}{vs:List Value}{ns:List Int}
  (KX:K.In c.heap) (B:c.heap.Ns mainGlobals t) (f:c.heap.Ns builtinsNs L) (KD:∀x:Str,x≠"__name__"->L x=bootBuiltins x) (C:c.heap.NoLimit) (hg:c.gens=#[])
  (I:c.heap.get? a=some {cls:=.type "list",data:=.seq vs.toArray}) (U:IntsAre vs ns) (T:ns.length<=sizeLine) (hr:aS k callerA)
  (F:∀i:Heap,K.In i->i.Ns mainGlobals t->aY P w K t i CX k N Z [x] sp) (l:∀(s:Shared) (u:Value),BindsTo s Z ⟨[u],[]⟩ [(x,u)])
  (oF:∀H:Hp,C2 H->dI K H a (ns.map V.int)->sp [.ref a] H (λ v _=>v=.bl true) λ _ _ _=>False)
  (JA:∀H e g,CX [] H c (λ _ _ _=>False) e g->False) :
  codeAny (model P w) callerA (.call (.ref N) ⟨[.ref a],[]⟩) (λ r g=>r=.ok (.ret (.bool true))/\OldK c.heap g.heap/\g.os=c.os/\AllBare g.gens) c:=by
 have R:=jE U;have JB:=U.length;have j:∀H:Hp,C2 H->dI K H a (ns.map V.int)->cZ P w H c.heap->(∀b,H b≠none->b=a)->(H a≠none->K.lookup a=none)->
   codeAny (model P w) callerA (.call (.ref N) ⟨[.ref a],[]⟩) (λ r g=>r=.ok (.ret (.bool true))/\OldK c.heap g.heap/\g.os=c.os/\AllBare g.gens) c:=by
  intro H X hS A Y hK;have S:∀{b:Addr} {o:Obj},c.heap.get? b=some o->H b=none->(kc c.heap H).get? b=some o:=λ e n=>t9 e n;have GC:∀{b:Addr} {o:Obj} {D:Array DictEntry} {E:Nat},c.heap.get? b=some o->o.data=.dict D E->H b=none:=λ {b o D E} e d=>by
   cases q:H b with
   |none=>rfl
   |some u=>
    have O:b=a:=Y b (by rw[q];simp);subst O;rw[I] at e;cases e;have d':Data.seq vs.toArray _=Data.dict D E:=d;cases d'
  have J:∀{b:Addr} {m:Str->Option Value},c.heap.Ns b m->(kc c.heap H).Ns b m:=λ {b m} ⟨o,D,E,e,d,r⟩=>⟨o,D,E,S e (GC e d),d,r⟩;have KG:K.In (kc c.heap H):=λ b o e=>S (KX b o e) (by
   cases q:H b with
   |none=>rfl
   |some u=>
    have O:b=a:=Y b (by rw[q];simp);subst O;rw[hK (by rw[q];simp)] at e;cases e)
  have hM:Mod K t (kc c.heap H):=⟨KG,J B,⟨L,J f,KD⟩,let ⟨mc,h1,h2⟩:=C;⟨mc,J h1,h2⟩⟩;have e0:oE P w K t (kc c.heap H) callerA [] c H:=⟨rfl,hM,λ b o e=>yf e,Qi (rR _ _),trivial,λ b f=>absurd (show b∈([]:List Addr) from f) 's',A,.of_eq hg⟩;refine NC ((F _ KG (J B)).run callerA [] c H ⟨[.ref a],[]⟩ [.ref a] [.ref a] _ _ hr e0 (l c (.ref a)) %[|rfl] (oF H X hS)) λ r g h=>?_;cases r with
  |error e=>exact(JA H e g h).elim
  |ok fl=>
   cases fl with
   |next=>exact False.elim h
   |brk=>exact False.elim h
   |cont=>exact False.elim h
   |ret u=>
    let⟨v,H',os,G,Q,y,r',q⟩:=h;have q':v=.bl true:=q;subst q';obtain rfl:u=Value.bool true:=r';refine⟨rfl,OldK.of_keep λ b o e=>?_,os,G⟩;cases q:H b with
    |none=>exact Q.keep b o e q (by intro z;exact absurd (show b∈([]:List Addr) from z) 's') 's'
    |some u=>
     rcases X b with z | ⟨ob,xs,z⟩
     .rw[q] at z;cases z
     .have z2:=Q.dM b ob _ z;let⟨e1,_⟩:=A b _ z;let⟨e2,_⟩:=y b _ z2;rw[e] at e1;cases e1;exact e2
 cases M:K.lookup a with
 |some o=>
  have e:=KX a o M;rw[I] at e;cases e;refine j (λ _=>none) (λ _=>.inl rfl) (.inr ⟨_,vs.toArray,_,M,rfl,rfl,rfl,by rw[ME,JB];exact T,~~~R⟩) (λ b u z=>by have p:(none:Option HO)=some u:=z;cases p) (λ b z=>absurd rfl z) λ z=>absurd rfl z
 |none=>
  refine j (λ b=>if b=a then some (.frz {cls:=.type "list",data:=.seq vs.toArray} (.lst (ns.map V.int))) else none) (λ b=>?_) (.inl (.inr ⟨{cls:=.type "list",data:=.seq vs.toArray},MO rfl⟩)) (λ b u z=>?_) (λ b z=>?_) λ _=>M
  .by_cases f:b=a
   .exact .inr ⟨_,_,MO f⟩
   .exact .inl (MN f)
  .by_cases f:b=a
   .have p:=(MO f).symm.trans z;cases p;subst f;exact⟨I,by rw[Nk];exact T,vs,_,R,I⟩
   .have p:=(MN f).symm.trans z;cases p
  .by_cases f:b=a
   .exact f
   .exact absurd (MN f) z
theorem yO{l:PySem.W.OpenLaw}{n k:Nat}{q:Program}{i:List Str}{Y:(Str->Option Value)->Heap->Prop}{E:World->Heap->Prop}{d:DefRec}{K:Params->ae}{CX:World->qb}{sp:World->Sp}{x:Str}
  (M:l.most=some n) (z:n<=sizeLine) (B:d.params.defaults=[]) (L:aS k callerA)
  (Q:∀(w:World) (h:Heap),E w h->(K w.params).In h)
  (F:∀(w:World) (m:Str->Option Value) (t:Addr) (h:Heap),(K w.params).In h->h.Ns mainGlobals m->m d.name=some (.ref t)->
   ∃C:FuncData,(∀(s:Shared) (u:Value),BindsTo s C ⟨[u],[]⟩ [(x,u)])/\
    ∀base:Heap,(K w.params).In base->base.Ns mainGlobals m->aY l.prog w (K w.params) m base (CX w) k t C [x] (sp w))
  (J:∀(w:World) (H:Hp) (a:Addr) (ns:List Int),ns.length<=n->C2 H->dI (K w.params) H a (ns.map V.int)->sp w [.ref a] H (λ v _=>v=.bl true) λ _ _ _=>False)
  (JA:∀(w:World) (H:Hp) (s:Shared) (e:Value) (y:Shared),CX w [] H s (λ _ _ _=>False) e y->False) :
  PySem.W.WalkO q i Y E l.row.toRowW d [] (λ f vs=>PySem.call f vs):=by
 refine Att.mq M B λ w D p m mb t o pm cd X a vs ns G Z ho hd O A r j c N=>?_;have I:=Q w _ Z;let⟨C,P,U⟩:=F w m t _ I G.T.g A;exact uJ I G.T.g G.T.b G.T.builtins G.T.nolimit N r j (MQ c z) L U P (λ H S R=>J w H a ns c S R) λ H e y=>JA w H p e y
def inClass(s:Stmt)(j:Nat):Stmt:=match s with
 |.ClassDef _ _ _ body _ _ _ _ _ _ _=>body.getD j (.Pass ⟨0,0,0,0⟩)
 |_=>.Pass ⟨0,0,0,0⟩
def er(s:Stmt):Arguments:=match s with
 |.FunctionDef _ a _ _ _ _ _ _ _ _=>a
 |_=>{posonlyargs:=[],args:=[],vararg:=none,kwonlyargs:=[],kw_defaults:=[],kwarg:=none,defaults:=[]}
def bx(s:Stmt):List Stmt:=match s with
 |.FunctionDef _ _ b _ _ _ _ _ _ _=>b
 |_=>[]
def av(s:Stmt):Scope:=match s with
 |.FunctionDef _ _ _ _ _ _ sc _ _ _=>sc
 |_=>{kind:=.function,names:=[],isGenerator:=false,isCoroutine:=false}
abbrev tX:qb:=λ _ _ _ _ _ _=>False
abbrev E0:XK:=λ _ _ _=>False
structure AR(K:ae)(x qual:Str)(st:Stmt)(f:Addr)(fd:FuncData):Prop where
 ex:∃(oc:Value) (od:Option Addr) (kV doc pm:Value) (an:Option Addr) (cdv ct:Value) (osl:Array (Option Value)),
  fd=PySem.W.fnOf x qual (er st) (bx st) (av st) .none kV doc pm an cdv ct/\K.lookup f=some ⟨oc,od,.func fd,osl⟩/\PySem.W.codeIn K cdv qual=true
 kp:PySem.W.keepIn K (.ref f)=true
section
variable{P:Program}{w:World}{K:ae}{mg:Str->Option Value}{base:Heap}
theorem AR.ok{x qual:Str}{st:Stmt}{f:Addr}{g:FuncData}{N c:List Str}{k:Nat}{sp:Sp}(F:AR K x qual st f g)(S:dm N c (av st))(d:∀vs H Q E,sp vs H Q E->vs.length=c.length)
  (b:∀(a:Value) (A:Around) (outer:List Env) (s:Shared) (H:Hp) (vs:List V) (Q:VK) (E:XK),aS k (A.deeper (envOfC qual (av st) s⁻¹ f a))->sp vs H Q E->
   ∃t,dO (fB tX P w K mg base N qual (av st) f a A outer s H E).bS (bx st) t/\t {nx:=λ _ o=>Q .non o,rt:=Q} (start N vs) H):aY P w K mg base tX (k+1) f g c sp:=by
 let⟨u,r,v,n,p,z,a,y,i,rfl,l,e⟩:=F.ex;refine AM l e S d λ A outer s H vs Q E m j=>?_;let⟨t,h,q⟩:=b a A outer s H vs Q E m j;exact⟨t,h.bS,q⟩
theorem C3{x qual:Str}{st:Stmt}{f:Addr}{j:Value}{i h:Option Addr}{d:Array (Option Value)}{g b e a ct:Value}(l:K.lookup f=some ⟨j,i,.func (PySem.W.fnOf x qual (er st) (bx st) (av st) .none g b e h a ct),d⟩)
  (c:PySem.W.codeIn K a qual=true) (k:PySem.W.keepIn K (.ref f)=true):AR K x qual st f (PySem.W.fnOf x qual (er st) (bx st) (av st) .none g b e h a ct):=⟨⟨j,i,g,b,e,h,a,ct,d,rfl,l,c⟩,k⟩
end
variable{P:Program}{env:Env}{its:Array Value}{w:World}
def fW:List Nat->St->St
 | [],Y=>Y
 |j::r,Y=>fW r (Y.set j none)
theorem qg:∀(js:List Nat) (Y:St),(fW js Y).length=Y.length
 | [],_=>rfl
 |j::r,Y=>by rw[fW,qg r,Py]
theorem mw:∀{js:List Nat} {Y:St} {i:Nat} {v:V},(fW js Y)[i]?=some (some v)->Y[i]?=some (some v)/\i∉js
 | [],_,_,_,h=>⟨h,by simp⟩
 |j::r,Y,i,v,h=>by
  let⟨a,c⟩:=mw (js:=r) h
  by_cases e:j=i
  .subst e;rw[Qn] at a;rw[MO rfl] at a;split at a<;>cases a
  .rw[Na e] at a;exact⟨a,λ b=>(MJ.mp b).elim (λ q=>e q.symm) c⟩
def bJ(env:Env):List (Str×NameKind)->List (Str×Addr)->List (Str×Addr)
 | [],acc=>acc
 |(n,k)::r,acc=>bJ env r (if k==.free then (match env.cells.lookup n with | some c=>(n,c)::acc | none=>acc) else acc)
theorem eV:∀(names:List (Str×NameKind)) (b:List (Str×Addr)),(∀y∈names,y.2=.free->∃c,env.cells.lookup y.1=some c)->
  (forIn (m:=Sem) names b λ x r=>match x with | (name,kind)=>if (kind==NameKind.free)=true then do let a <-cellOf env name;pure (ForInStep.yield ((name,a)::r)) else pure (ForInStep.yield r))=pure (bJ env names b)
 | [],b,_=>rfl
 |(n,k)::r,b,h=>by
  rw[forIn_cons];have d:=λ b=>eV r b λ y g=>h y (MP _ g)
  by_cases f:k=.free
  .subst f;let⟨c,e⟩:=h (n,.free) Nc rfl;have e:env.cells.lookup n=some c:=e;erw[Ny,ND,cellOf,e,pure_bind,bJ];exact d _
  .have i:(k==NameKind.free)=false:=by simpa using f
   erw[i,MS,MR,pure_bind,bJ];exact d _
theorem jj{scope:Scope}(h:∀y∈scope.names,y.2=.free->∃c,env.cells.lookup y.1=some c):closureFor scope env=pure (bJ env scope.names []):=by
 have q:=eV (env:=env) scope.names [] h;erw[closureFor]
 first
  |(rw[q];rfl)
  |(erw[pure_bind,bind_pure_comp,map_pure] at q ⊢;rw[q];rfl)
  |exact(OA (· >>= pure) q)
  |trace_state
theorem fX{x:Str}{c:Addr}:∀(names:List (Str×NameKind)) (a:List (Str×Addr)),(∀c,a.lookup x=some c->env.cells.lookup x=some c)->(bJ env names a).lookup x=some c->env.cells.lookup x=some c
 | [],a,h,e=>h _ e
 |(n,k)::r,a,h,e=>by
  refine fX r _ ?_ e;intro j b;split at b
  .split at b
   .ext i g
    by_cases d:x=n
    .subst d;erw[MH,Ny] at b;cases b;exact g
    .have f:(x==n)=false:=by simpa using d
     erw[MH,f] at b;exact h _ b
   .exact h _ b
  .exact h _ b
theorem jF{x:Str}:∀(names:List (Str×NameKind)) (a:List (Str×Addr)),(∃c,a.lookup x=some c)->∃c,(bJ env names a).lookup x=some c
 | [],a,h=>h
 |(n,k)::r,a,h=>by
  refine jF r _ ?_;split
  .split
   .ext f g
    by_cases b:x=n
    .subst b;exact⟨f,by simp[MH]⟩
    .have d:(x==n)=false:=by simpa using b
     let⟨c,e⟩:=h;exact⟨c,by erw[MH,d];exact e⟩
   .exact h
  .exact h
theorem fY{x:Str}:∀(names:List (Str×NameKind)) (a:List (Str×Addr)),(x,NameKind.free)∈names->(∃c,env.cells.lookup x=some c)->∃c,(bJ env names a).lookup x=some c
 |(n,k)::r,a,hm,⟨c,e⟩=>by
  rcases MJ.mp hm with q | q
  .cases q;refine jF r _ ⟨c,?_⟩;erw[Ny,ND,e,MH]
  .exact fY r _ q ⟨c,e⟩
structure dw(N:List Str)(js:List Nat)(scope KH:Scope):Prop where
 kind:scope.kind=.function
 cell:∀y∈scope.names,y.2=.cell->scope.names.lookup y.1=some .cell
 loc:∀y∈scope.names,y.2=.local->scope.names.lookup y.1=some .local
 own:∀p∈N.zipIdx,(scope.names.lookup p.1=some .local\/scope.names.lookup p.1=some .cell)->p.2∈js
 free:∀y∈scope.names,y.2=.free->KH.names.lookup y.1=some .cell\/KH.names.lookup y.1=some .free
theorem bZ{env:Env}:∀{names:List (Str×NameKind)} {x:Str} {b:NameKind},
  (names.map λ (n,k)=>if (k==NameKind.free&&env.scope.kind==.function&&env.kindOf n==some .cell) then (n,NameKind.cell) else (n,k)).lookup x=some b->
  ∃k,names.lookup x=some k/\(b=k\/(k=.free/\b=.cell))
 | [],_,_,h=>by simp at h
 |(n,k)::r,x,b,h=>by
  have g:=@bZ env r x b;have h:List.lookup x ((if (k==NameKind.free&&env.scope.kind==.function&&env.kindOf n==some .cell)=true then (n,NameKind.cell) else (n,k))::(r.map λ (n,k)=>if (k==NameKind.free&&env.scope.kind==.function&&env.kindOf n==some .cell) then (n,NameKind.cell) else (n,k)))=some b:=h
  by_cases c:(k==NameKind.free&&env.scope.kind==.function&&env.kindOf n==some .cell)=true
  .rw[MO c] at h;have i:k=.free:=by
    erw[Mz] at c;simpa using c.1.1
   cases a:x==n with
   |true=>
    erw[MH,a] at h;cases h;exact⟨k,by simp[MH,a],.inr ⟨i,rfl⟩⟩
   |false=>
    erw[MH,a] at h;let⟨f,e,d⟩:=g h;exact⟨f,by erw[MH,a];exact e,d⟩
  .rw[MN c] at h;cases a:x==n with
   |true=>
    erw[MH,a] at h;cases h;exact⟨k,by simp[MH,a],.inl rfl⟩
   |false=>
    erw[MH,a] at h;let⟨f,e,d⟩:=g h;exact⟨f,by erw[MH,a];exact e,d⟩
abbrev Cx.comp(X:Cx)(scope:Scope)(cl:List (Str×Addr))(a:Shared)(H₀:Hp)(b:List Addr)(c:List (Addr×Obj)):Cx:=
 {X with s₀:=a,H₀:=H₀,env:=compEnvC scope cl a⁻¹ X.env,outer:=X.stack,stack:=X.stack,ex:=b,fn:=λ x=>scope.names.lookup x==some .cell,pn:=X.pn++c,xe:=λ _ _=>False}
section
variable{X:Cx}{aa:List (Addr×Obj)}{Y:St}{H:Hp}{s:Shared}{scope:Scope}{js:List Nat}{fp:List Addr}
theorem iy(c:dw X.N js scope X.env.scope){x:Str}(d:(relabel scope X.env).names.lookup x=some .cell\/(relabel scope X.env).names.lookup x=some .free) :
  scope.names.lookup x=some .cell\/(scope.names.lookup x=some .free/\(x,NameKind.free)∈scope.names/\(X.env.kindOf x=some .cell\/X.env.kindOf x=some .free)):=by
 have k:∃a,(relabel scope X.env).names.lookup x=some a/\(a=.cell\/a=.free):=by
  rcases d with h | h
  .exact⟨_,h,.inl rfl⟩
  .exact⟨_,h,.inr rfl⟩
 let⟨a,h,f⟩:=k;let⟨k,e,r⟩:=bZ h;have b:k=.free->scope.names.lookup x=some .cell\/(scope.names.lookup x=some .free/\(x,NameKind.free)∈scope.names/\(X.env.kindOf x=some .cell\/X.env.kindOf x=some .free)):=λ g=>by
  subst g;exact .inr ⟨e,MY e,c.free _ (MY e) rfl⟩
 rcases r with r | r
 .subst r;rcases f with z | z
  .subst z;exact .inl e
  .exact b z
 .exact b r.1
theorem C4{x:Str}:∀{names:List (Str×NameKind)} {n:Nat} {a:List (Str×Addr)},(∀y∈names,y.2=.cell->y.1≠x)->(cellsFrom n names a).lookup x=a.lookup x:=by
 intro names
 induction names with
 |nil=>intro n a _;rw[N8]
 |cons y r e=>
  intro n a h;rw[N8];let⟨d,k⟩:=y;have f:=λ y g=>h y (MP _ g)
  by_cases b:k=.cell
  .have c:(k==NameKind.cell)=true:=by simpa using b
   erw[c,ND];rw[e f];have:=h (d,k) Nc b;have i:(x==d)=false:=by simpa using this.symm
   erw[MH,i]
  .have c:(k==NameKind.cell)=false:=by simpa using b
   erw[c,MS,MR];exact e f
structure uK(n:Nat)(h:Heap)(cells:List (Str×Addr)):Prop where
 below:∀x c,cells.lookup x=some c->c<n
 inj:∀x y c,cells.lookup x=some c->cells.lookup y=some c->x=y
 cell:∀x c,cells.lookup x=some c->∃v,h.IsCell c v
theorem GL{lo:Nat}{base:List (Str×Addr)}:∀{names:List (Str×NameKind)} {h:Heap} {b:List (Str×Addr)},uK h.objs.size h b->lo<=h.objs.size->(∀x c,b.lookup x=some c->base.lookup x=some c\/lo<=c)->
  uK (pushCells h names).objs.size (pushCells h names) (cellsFrom h.objs.size names b)/\∀x c,(cellsFrom h.objs.size names b).lookup x=some c->base.lookup x=some c\/lo<=c:=by
 intro names
 induction names with
 |nil=>intro h b F _ m;rw[N8,pushCells.eq_def];exact⟨F,m⟩
 |cons y r q=>
  intro h b F j m;rw[N8,pushCells.eq_def];let⟨d,k⟩:=y
  by_cases t:k=.cell
  .have p:(k==NameKind.cell)=true:=by simpa using t
   erw[p,ND];have g:(h.push {cls:=.type "cell",data:=.cell none}).objs.size=h.objs.size+1:=Ng ..;rw[<-g];refine q ⟨λ x c e=>?_,λ x y c l i=>?_,λ x c e=>?_⟩ (by rw[g];lia) λ x c e=>?_
   .rw[g]
    by_cases a:x=d
    .subst a;erw[MH,Ny] at e;cases e;exact NK _
    .have a:(x==d)=false:=by simpa using a
     erw[MH,a] at e;exact NG (F.below x c e)
   .by_cases a:x=d
    .by_cases f:y=d
     .exact a.trans f.symm
     .subst a;have f:(y==x)=false:=by simpa using f
      erw[MH,Ny] at l;erw[MH,f] at i;cases l;exact absurd (F.below y _ i) (N3 _)
    .have n:(x==d)=false:=by simpa using a
     erw[MH,n] at l
     by_cases f:y=d
     .subst f;erw[MH,Ny] at i;cases i;exact absurd (F.below x _ l) (N3 _)
     .have f:(y==d)=false:=by simpa using f
      erw[MH,f] at i;exact F.inj x y c l i
   .by_cases a:x=d
    .subst a;erw[MH,Ny] at e;cases e;exact⟨none,_,MC _ rfl,rfl⟩
    .have a:(x==d)=false:=by simpa using a
     erw[MH,a] at e;let⟨v,o,u,z⟩:=F.cell x c e;exact⟨v,o,Mv _ u,z⟩
   .by_cases a:x=d
    .subst a;erw[MH,Ny] at e;cases e;exact .inr j
    .have a:(x==d)=false:=by simpa using a
     erw[MH,a] at e;exact m x c e
  .have p:(k==NameKind.cell)=false:=by simpa using t
   erw[p,MS,MR];exact q F j m
theorem C5{x:Str}{lo:Nat}:∀{names:List (Str×NameKind)} {n:Nat} {a:List (Str×Addr)} {c:Addr},lo<=n->((x,NameKind.cell)∈names\/∀c,a.lookup x=some c->lo<=c)->(cellsFrom n names a).lookup x=some c->lo<=c:=by
 intro names
 induction names with
 |nil=>intro n a c _ h e;rw[N8] at e;exact(h.resolve_left 's') c e
 |cons y r j=>
  intro n a c d h e;rw[N8] at e;let⟨i,k⟩:=y
  by_cases f:k=.cell
  .have g:(k==NameKind.cell)=true:=by simpa using f
   erw[g,ND] at e;refine j (Nat.le_succ_of_le d) ?_ e
   by_cases b:x=i
   .subst b;refine .inr λ c e=>?_;erw[MH,Ny] at e;cases e;exact d
   .rcases h with h | h
    .rcases MJ.mp h with q | q
     .cases q;exact absurd rfl b
     .exact .inl q
    .refine .inr λ c e=>h c ?_;have b:(x==i)=false:=by simpa using b
     simpa only[MH,b] using e
  .have g:(k==NameKind.cell)=false:=by simpa using f
   erw[g,MS,MR] at e;refine j d ?_ e;rcases h with h | h
   .rcases MJ.mp h with q | q
    .cases q;exact absurd rfl f
    .exact .inl q
   .exact .inr h
structure CF(X:Cx)(scope:Scope)(n:Nat)(h:Heap)(cells:List (Str×Addr)):Prop where
 inj:∀x y c,cells.lookup x=some c->cells.lookup y=some c->x=y
 cell:∀x c,cells.lookup x=some c->∃v,h.IsCell c v
 old:∀x c,cells.lookup x=some c->X.env.cells.lookup x=some c\/n<c
 has:∀x,scope.names.lookup x=some .cell->∃c,cells.lookup x=some c
 out:∀x,scope.names.lookup x=some .free->cells.lookup x=(bJ X.env scope.names []).lookup x
 own:∀x c,scope.names.lookup x=some .cell->cells.lookup x=some c->n<=c
theorem Inv.comp(I:Inv X aa Y H s)(n:dw X.N js scope X.env.scope)(C:∀b∈fp,fT X aa H b){a:Heap}{d:Str->Option Value}{tk:Nat}{cells:List (Str×Addr)}
  (t:∀b∈fp,b<s⁻¹) (T:a.Ns s⁻¹ d) (B:∀b o,s.heap.get? b=some o->a.get? b=some o) (hm:∀x,d x=none) (F:CF X scope s⁻¹ a cells) :
  Inv (X.comp scope cells s H fp aa) [] (fW js Y) H {s with heap:=a,toks:=tk}:=by
 have y:∀x,(x,NameKind.free)∈scope.names->∃c,X.env.cells.lookup x=some c:=λ x E=>I.ok.has x (n.free _ E rfl);have D:∀x c,(bJ X.env scope.names []).lookup x=some c->X.env.cells.lookup x=some c:=λ x c e=>fX _ _ 's' e;have l:=I.fS;have V:=I.lt;refine⟨⟨I.mod,n.kind,I.ok.glob,I.ok.blt,MB _,F.inj,λ x E=>?_,λ x c z e=>F.own x c (~~~z) e,I.ok.hd,I.ok.frames,.inl rfl,λ b f=>⟨MD (t b f),λ x c e=>?_⟩,
  λ b o e=>I.bs b o e,MQ I.ok.bsz I.sz,λ b o e f=>?_,λ b f z=>?_,I.stack,λ b f=>I.gW b f⟩,rfl,I.bare,Un.kept B,⟨d,T,λ i x v L e2 h=>?_⟩,λ x c e=>F.cell x c e,I.hok.fresh (MB _),λ x c e=>?_,λ p J=>?_,I.hok.kept B,?_⟩
 .rcases iy n E with g | ⟨g,j,A⟩
  .exact F.has x g
  .show ∃c,cells.lookup x=some c;rw[F.out x g];exact fY _ _ j (y x j)
 .rcases F.old x c e with e | e
  .exact(C b f).2.2.2.2.1 x c e
  .exact NB (Qm (t b f) e)
 .have q:=(C b f).2.2.2.1;rcases q with q | q
  .exact I.ok.noex b o e q
  .exact absurd (Mx e) (Pz.mpr (MQ I.ok.bsz q))
 .rcases MJ.mp (l b z) with q | q
  .exact(C b f).2.1 q
  .exact(C b f).2.2.1 q
 .let⟨c1,c2⟩:=mw e2;have h:(relabel scope X.env).names.lookup x=some .local\/(relabel scope X.env).names.lookup x=some .cell\/(relabel scope X.env).names.lookup x=some .free:=h;have M:∀{P:Prop},(scope.names.lookup x=some .local\/scope.names.lookup x=some .cell)->P:=λ G=>absurd (n.own (x,i) (by rw[mem_zipIdx_iff_getElem?];exact L) G) c2;rcases h with h | h
  .let⟨k,G,r⟩:=bZ h;have:k=.local:=by
    rcases r with r | ⟨_,r⟩
    .exact r.symm
    .cases r
   subst this;exact M (.inl G)
  .rcases iy n h with g | ⟨g,j,A⟩
   .exact M (.inr g)
   let⟨m,U,W⟩:=I.loc;let⟨u,O,S⟩:=W i x v L c1 (.inr A);refine⟨u,O,.inr ⟨h,?_⟩⟩;rcases S with⟨q,_⟩ | ⟨_,c,R,Q⟩
   .rcases A with z | z<;>(rw[z] at q;cases q)
   .let⟨c',K⟩:=fY _ [] j (y x j);have:=D _ _ K;rw[R] at this;cases this;exact⟨c,(F.out x g).trans K,Q.keeps B⟩
 .rcases F.old x c e with e | e
  .exact I.freeC x c e
  .exact I.hok.fresh (Pq e)
 .rw[NP] at J;let⟨g,j,A,h4,Z⟩:=I.pin p J;refine⟨B _ _ g,j,MD (Mx g),λ z=>?_,Z⟩;rcases MJ.mp (l _ z) with q | q
  .exact A q
  .exact h4 q
 .rw[qg];exact I.len
theorem Inv.enter(I:Inv X aa Y H s)(p:dw X.N js scope X.env.scope)(B:∀b∈fp,fT X aa H b)(n:∀b∈fp,b<s⁻¹){Q:Env->Shared->Prop}{E:Value->Shared->Prop}
  (h:∀(cells:List (Str×Addr)) (a:Heap),(∀b o,s.heap.get? b=some o->a.get? b=some o)->CF X scope s⁻¹ a cells->Inv (X.comp scope cells s H fp aa) [] (fW js Y) H {s with heap:=a}->
   Q {scope:=scope,locals:=s⁻¹,globals:=X.env.globals,cells:=cells,qual:=X.env.qual,func:=none,code:=X.env.code,frame:=X.env.frame,builtins:=X.env.builtins} {s with heap:=a}) :
  wpAny (model X.prog X.w) X.A (newFunctionEnv scope X.env.globals (bJ X.env scope.names []) [] X.env.qual none .none (some X.env)) Q E s:=by
 unfold newFunctionEnv;refine Mu (wpAny_alloc ?_);refine Mu (wpAny_layCells _ (λ _ _ _=>rfl) _ _ _ _ ?_);refine Mu (MA (MA ?_));have i:(s.heap.push {cls:=.type (if (some X.env).isSome=true then "dict" else "frame"),data:=.dict #[]}).objs.size=s⁻¹+1:=Ng ..;have d:∀x c,(bJ X.env scope.names []).lookup x=some c->X.env.cells.lookup x=some c:=λ x c e=>fX _ _ 's' e;have r:∀x c,(bJ X.env scope.names []).lookup x=some c->∃v,s.heap.IsCell c v:=λ x c e=>I.cell x c (d x c e);have L:uK (s.heap.push {cls:=.type (if (some X.env).isSome=true then "dict" else "frame"),data:=.dict #[]}).objs.size (s.heap.push {cls:=.type (if (some X.env).isSome=true then "dict" else "frame"),data:=.dict #[]}) (bJ X.env scope.names []):=by
  refine⟨λ x c e=>?_,λ x y c J G=>I.ok.inj x y c (d _ _ J) (d _ _ G),λ x c e=>?_⟩
  .let⟨v,o,l,_⟩:=r x c e;rw[i];exact NG (Mx l)
  .let⟨v,o,l,D⟩:=r x c e;exact⟨v,o,Mv _ l,D⟩
 let⟨t,K⟩:=GL (lo:=s⁻¹+1) (base:=X.env.cells) (names:=scope.names) L (by rw[i];exact MB _) (λ x c e=>.inl (d x c e));have j:∀b o,s.heap.get? b=some o->(pushCells (s.heap.push {cls:=.type (if (some X.env).isSome=true then "dict" else "frame"),data:=.dict #[]}) scope.names).get? b=some o:=λ b o e=>pushCells_keeps _ _ _ _ (Mv _ e);have k:∀x,scope.names.lookup x=some .cell->∀c,(cellsFrom (s.heap.push {cls:=.type (if (some X.env).isSome=true then "dict" else "frame"),data:=.dict #[]}).objs.size scope.names (bJ X.env scope.names [])).lookup x=some c->s⁻¹<=c:=λ x f c e=>C5 (by rw[i];exact Ob _) (.inl (MY f)) e;have F:CF X scope s⁻¹ (pushCells (s.heap.push {cls:=.type (if (some X.env).isSome=true then "dict" else "frame"),data:=.dict #[]}) scope.names) (cellsFrom (s.heap.push {cls:=.type (if (some X.env).isSome=true then "dict" else "frame"),data:=.dict #[]}).objs.size scope.names (bJ X.env scope.names [])):=by
  refine⟨t.inj,t.cell,λ x c e=>?_,λ x f=>?_,λ x f=>?_,λ x c f e=>k x f c e⟩
  .rcases K x c e with q | q
   .exact .inl q
   .exact .inr q
  .have:=OC scope.names (s.heap.push {cls:=.type (if (some X.env).isSome=true then "dict" else "frame"),data:=.dict #[]}).objs.size (bJ X.env scope.names []) (.inl f);exact N4.mp this
  .refine C4 λ y u z e=>?_;have:=p.cell y u z;rw[e,f] at this;cases this
 have m:(pushCells (s.heap.push {cls:=.type (if (some X.env).isSome=true then "dict" else "frame"),data:=.dict #[]}) scope.names).Ns s⁻¹ λ _=>none:=by
  have g:(s.heap.push {cls:=.type (if (some X.env).isSome=true then "dict" else "frame"),data:=.dict #[]}).get? s⁻¹=some {cls:=.type (if (some X.env).isSome=true then "dict" else "frame"),data:=.dict #[]}:=MC _ rfl;refine⟨_,_,_,pushCells_keeps _ _ _ _ g,rfl,?_,?_⟩
  .intro e C;simp at C
  .intro M;rfl
 exact h _ _ j F (I.comp (tk:=s.toks) p B n m j (λ _=>rfl) F)
theorem cZ.off{h h':Heap}{C:Addr}(x:cZ P w H h)(c:H C=none)(k:∀b o,b≠C->h.get? b=some o->h'.get? b=some o):cZ P w H h':=λ a o e=>
 (x a o e).stay (λ b u d q=>k b u (by
  rintro rfl;rcases d with z | z
  .rw[z,e] at c;cases c
  .rw[z] at c;cases c) q) (λ _ q=>q) λ _ _ q=>q
theorem Inv.C6(I:Inv X aa Y H s){h:St}{l:Hp}{i:Shared}{cl:List (Str×Addr)}(f:∀b∈fp,fT X aa H b)(c:Inv (X.comp scope cl s H fp aa) [] h l i){h':Heap}
  (d:∀b o,b≠s⁻¹->i.heap.get? b=some o->h'.get? b=some o):Inv X aa Y l {i with heap:=h'}:=by
 have r:l s⁻¹=none:=c.free;have j:∀b o,s.heap.get? b=some o->b≠s⁻¹:=λ b o e=>MD (Mx e);have u:=c.base;refine I.AF (ch:=fp) c.os ⟨λ b o e n k a=>d b o (j b o e) (u.keep b o e n k a),λ b o e n k a=>?_,u.free,λ b o e a=>?_,u.tups,u.dM,u.eN⟩ (c.hok.off r d) c.bare λ b g=>⟨(f b g).2.2.2.1,(f b g).2.1,(f b g).2.2.2.2.1,(f b g).2.2.2.2.2⟩
 .let⟨m,q⟩:=u.slot b o e n k a;exact⟨m,d _ _ (j b o e) q⟩
 .let⟨p,q⟩:=u.there b o e a;exact⟨p,d _ _ (j b o e) q⟩
end
def iz(X:Cx)(ifs:List Expr)(t:TT):Prop:=
 ∀(a:List (Addr×Obj)) (s:Shared) (Y:St) (H:Hp) (Q:Bool->Hp->Prop),Inv X a Y H s->t Y H Q->
  wpAny (model X.prog X.w) X.A (forIn ifs true λ c r=>if r=true then do let ok <-isTrue c X.env (eval c X.env);pure (ForInStep.yield ok) else pure (ForInStep.yield r)) (TP X a Y Q) X.xe s
def JD:TT:=λ _ H Q=>Q true H
theorem uL{X:Cx}:iz X [] JD:=λ a s Y H Q I h=>wpAny_tests_nil ⟨H,I,h⟩
theorem uM{X:Cx}{c:Expr}{t:TT}(h:PT X c t):iz X [c] t:=λ a s Y H Q I q=>wpAny_tests_one (h a s Y H Q I q)
mutual
inductive Dt(K:ae)(H:Hp):V->PyData->Prop
 |non:Dt K H .non .none
 |bl (b):Dt K H (.bl b) (.bool b)
 |int (i):Dt K H (.int i) (.int i)
 |str (x):Dt K H (.str x) (.str x)
 |lst {a xs ds}:dI K H a xs->AU K H xs ds->Dt K H (.ref a) (.list ds)
 |tup {a xs ds}:bI K H a xs->AU K H xs ds->Dt K H (.ref a) (.tuple ds)
inductive AU(K:ae)(H:Hp):List V->List PyData->Prop
 |nil:AU K H [] []
 |cons {x xs d ds}:Dt K H x d->AU K H xs ds->AU K H (x::xs) (d::ds)
end
section
variable{X:Cx}{aa:List (Addr×Obj)}{Y:St}{H:Hp}{s:Shared}
mutual
theorem Inv.reads(I:Inv X aa Y H s):∀{v:V} {d:PyData} {u:Value},Dt X.K H v d->RelV v u->∃g,Reads s.heap u d g
 |_,_,_,.non,r=>by cases r;exact⟨_,.none⟩
 |_,_,_,.bl b,r=>by cases r;exact⟨_,.bool b⟩
 |_,_,_,.int i,r=>by let⟨t,rfl⟩:=r;exact⟨_,.int i t⟩
 |_,_,_,.str x,r=>by let⟨t,rfl⟩:=r;exact⟨_,.str x t⟩
 |_,_,_,.lst h t,r=>by
  cases r;let⟨its,a,p,j⟩:=I.list h;let⟨o,ho,f,n,e⟩:=p.isList;let⟨g,c⟩:=I.readsAll t a;exact⟨_,.list ho f e (~~~c)⟩
 |_,_,_,.tup h t,r=>by
  cases r;let⟨its,a,p,j⟩:=I.tuple h;let⟨o,ho,f,n,e⟩:=p;let⟨g,c⟩:=I.readsAll t a;exact⟨_,.tuple ho f e (~~~c)⟩
theorem Inv.readsAll(I:Inv X aa Y H s):∀{v:List V} {d:List PyData} {u:List Value},AU X.K H v d->Vals v u->∃c,ReadsAll s.heap u d c
 |_,_,_,.nil,.nil=>⟨_,.nil⟩
 |_,_,_,.cons h t,.cons r rs=>by
  let⟨c,a⟩:=I.reads h r;let⟨e,b⟩:=I.readsAll t rs;exact⟨_,.cons a b⟩
end
def JE(K:ae):R2:=λ x y H Q=>∃d e,Dt K H x d/\Dt K H y e/\d.canLay0=true/\e.canLay0=true/\d.depth<=60/\Q (.bl (PyData.eqv d e)) H
def JF(K:ae):R2:=λ x y H Q=>∃d e,Dt K H x d/\Dt K H y e/\d.canLay0=true/\e.canLay0=true/\d.depth<=60/\Q (.bl (!PyData.eqv d e)) H
theorem C7(l:X.A.units+64<cLine):dg X (compareOp .Eq) (JE X.K):=by
 intro aa s Y H x y v u Q I b a h;let⟨d,e,k,j,i,g,m,q⟩:=h;let⟨o,f⟩:=I.reads k b;let⟨n,c⟩:=I.reads j a;exact PySem.SeqAt.compareEq_reads f c i g (by have:min d.depth e.depth<=d.depth:=Nat.min_le_left _ _;lia) ⟨.bl _,H,I,rfl,q⟩
theorem C8(l:X.A.units+64<cLine):dg X (compareOp .NotEq) (JF X.K):=by
 intro aa s Y H x y v u Q I b a h;let⟨d,e,k,j,i,g,m,q⟩:=h;let⟨o,f⟩:=I.reads k b;let⟨n,c⟩:=I.reads j a;exact PySem.SeqAt.compareNe_reads f c i g (by have:min d.depth e.depth<=d.depth:=Nat.min_le_left _ _;lia) ⟨.bl _,H,I,rfl,q⟩
end
section
variable{X:Cx}
theorem uN(a:List Bool):((List.range a.length).all λ i=>a.getD i true)=a.all id:=by
 induction a with
 |nil=>rfl
 |cons b r c=>
  rw[MX,range_succ_eq_map,Pk,Qc,Pk];show (b&&_)=(b&&_);rw[<-c];rfl
theorem uO(E:X.A.handled=none):aW X (.builtin "all") (λ xs H Q=>∃(p:Addr) (a:List Bool),xs=[.ref p]/\dI X.K H p (a.map V.bl)/\Q (.bl (a.all id)) H):=by
 intro N s Y H xs F Q I r h;let⟨p,a,rfl,C,q⟩:=h;let⟨u,rfl,x⟩:=vals1 r;cases x;let⟨its,k,B,J⟩:=I.list C;have j:=B.isList;have g:p<s⁻¹:=by let⟨_,e,_⟩:=j;exact Mx e
 have d:=k.length;rw[Nk] at d;refine call_all_walk (OB j ?_);refine⟨_,_,_,_,_,_,(λ i=>a.getD i true),rfl,Walks.list (A:=X.A.in1) E s⁻¹ p (MD g) its.toArray,⟨⟨_,MC _ rfl,rfl,rfl⟩,j.push _⟩,?_,?_⟩
 .intro i v G O R f c;have f:its[i]?=some v:=by simpa using f
  have L:i<its.length:=(Mw.mp f).1;have m:i<a.length:=by lia
  have e:(a.map V.bl)[i]?=some (V.bl (a[i])):=by simp[m]
  let⟨u,l,y⟩:=k.get e;rw[f] at l;cases l;cases y;have:a.getD i true=a[i]:=by simp[List.getD,m]
  dsimp only at c;rw[this] at c;exact Nn c
 .intro M t D;have e:((List.range its.toArray.size).all λ i=>a.getD i true)=a.all id:=by
   rw[ME,<-d];exact uN a
  rw[e];refine⟨.bl _,H,I.kept (t':=t) λ b o n=>D b o (λ z=>?_) (Mv _ n),rfl,q⟩;rw[Nz] at z;exact MD (Mx n) z
theorem fZ{x:V}:∀{xs:List V} {us:List Value},Vals xs us->xs.all cR=true->us.countP (CZ x)=xs.countP λ y=>l0 y x
 |_,_,.nil,_=>rfl
 |_,_,.cons r t,h=>by
  erw[Pk,Mz] at h;rw[countP_cons,countP_cons,fZ t h.2,oN r h.1]
end
def asc(z:Str):Bool:=z.cps.all (· < 128)
def JG(z:Str):It:=⟨λ i _=>i<z.cps.size,λ i H x a=>a=H/\∃c,z.cps[i]?=some c/\x=.str ⟨#[c]⟩,λ i _=>z.cps.size<=i⟩
theorem uP{K:ae}{x:Expr}(z:Str)(t:Tok)(it:Addr):Turn P w K x (JG z) [it] it (λ i h=>h.IsStrIter it "str_ascii_iterator" z t i) where
 mem:=by simp
 obj:=λ i h st b f=>by
  obtain rfl:b=it:=by simpa using f
  let⟨o,e,c,d⟩:=st;exact⟨o,e,λ v q=>by rw[d] at q;cases q⟩
 keep:=λ i h j st k=>let ⟨o,e,r⟩:=st;⟨o,k it 's' o e,r⟩
 item:=by
  intro X l hw m hc i u s Y H E I hf st a;subst l hw m;have a:i<z.cps.size:=a;let⟨f0,f1,f2,p,f4,n⟩:=hf it 's';refine wpAny_pyNext_ascii_item st (c:=z.cps[i]) (by simp[a]) λ j g y=>?_;have B:Inv X u Y H {s with heap:=j,toks:=s.toks+1}:=I.turned (λ b o f e=>(y.2 b f).trans e) f0 f1 p f4 n;let⟨o,e,c,d⟩:=id g;exact⟨_,rfl,p6 (s:={s with heap:=j,toks:=s.toks+1}) e c d 'd' ⟨.str ⟨#[z.cps[i]]⟩,H,B,⟨_,rfl⟩,⟨rfl,_,by simp[a],rfl⟩,g,λ b f=>(hf b f).1⟩⟩
 done:=by
  intro X l hw m hc i u s Y H E I hf st a;subst l hw m;have a:z.cps.size<=i:=a;let⟨f0,f1,f2,p,f4,n⟩:=hf it 's';exact wpAny_pyNext_ascii_end (I.ok.hd hc) st (by simp[a]) λ j A=>⟨rfl,I.turned (t':=s.toks) (λ b o f e=>A b o f e) f0 f1 p f4 n⟩
 self:=λ _ _ _ _ _ st h=>wpAny_pyIter_striter_ascii st h
section
variable{X:Cx}{tg:Expr}
def JH(a:TE):TI:=fun Y H R=>a Y H λ x b=>∃z,x=.str z/\asc z=true/\R (JG z) b
theorem C9{l:Expr}{d:TE}(i:PE X l d):PI X tg l (JH d):=by
 intro m s Y H R I h;refine aJ (i m s Y H _ I h) λ v a ⟨x,n,c,f,g⟩=>?_;let⟨z,rfl,k,q⟩:=g;let⟨t,rfl⟩:=f;refine wpAny_pyIter_ascii k ?_;refine⟨a⁻¹,[a⁻¹],_,_,n,rfl,c.kept (t':=a.toks) λ b o e=>Mv _ e,uP z t _,⟨_,MC _ rfl,rfl,rfl⟩,λ b j=>?_,q⟩;obtain rfl:b=a⁻¹:=by simpa using j
 exact c.lT (MB _) (c.hok.fresh (MB _))
end
def IB(K:ae)(a:Addr):It:=
 ⟨λ i H=>∃b x,dI K H a b/\b[i]?=some x,λ i H x c=>∃p v,H p=none/\x=.ref p/\c=upd H p (.tup [.int i,v])/\∀b,dI K H a b->b[i]?=some v,λ i H=>∃b,dI K H a b/\b.length<=i⟩
theorem sy{K:ae}{elts:List Expr}{x1}{pos:Pos}(a e it:Addr)(y:e≠it) :
  Turn P w K (.Tuple elts x1 pos) (IB K a) [e,it] e (λ i h=>(∃old,IsEnum h e it (i:Int) old)/\h.IsListIter it a i) where
 mem:=by simp
 obj:=λ i h st b f=>by
  let⟨⟨old,he⟩,o,t,hc,hd⟩:=st;rcases MJ.mp f with rfl | f
  .refine⟨_,he,λ v q=>?_⟩;have q':Data.fields _=Data.cell v:=q;cases q'
  .obtain rfl:b=it:=by simpa using f
   exact⟨o,t,λ v q=>by rw[hd] at q;cases q⟩
 keep:=λ i h h' st k=>by
  let⟨⟨old,he⟩,o,t,r⟩:=st;exact⟨⟨old,k e 's' _ he⟩,o,k it 's' o t,r⟩
 item:=by
  intro X Q hw R hc i Z s Y H E I hf st O;subst Q hw R;let⟨xs,x,F,M⟩:=O;let⟨⟨old,he⟩,hit⟩:=st;let⟨its,L,p,hz⟩:=I.list F;let⟨u,hu,ru⟩:=L.get M;let⟨f0,f1,f2,f3,f4,f5⟩:=hf e 's';let⟨G,g1,g2,g3,T,S⟩:=hf it 's';refine wpAny_pyNext_enum_item he hit p.isList (x:=u) (~~~hu) y λ h1 t hi ht hs k1=>⟨_,rfl,?_⟩;have A:e<s⁻¹:=Mx he;have N:it<s⁻¹:=by let⟨o,q,_⟩:=hit;exact Mx q
  refine O6 (s:={s with heap:=h1,toks:=s.toks+1}) t λ j hE C=>?_;have l:∀b o,b≠e->b≠it->s.heap.get? b=some o->j.get? b=some o:=λ b o V n2 q=>C.extBut b o V (k1 b o V n2 q);have JI:j.get? s⁻¹=some {cls:=.type "tuple",data:=.seq #[.int i s.toks,u]}:=C.extBut _ _ (NB A) ht;have hsz2:j.objs.size=s⁻¹+1:=by rw[C.1];exact hs
  have g:H s⁻¹=none:=I.hok.fresh (MB _);have D:∀b o,H b=some o->b≠e/\b≠it:=λ b o q=>⟨(λ z=>by rw[z,f0] at q;cases q),(λ z=>by rw[z,G] at q;cases q)⟩;have hok:cZ X.prog X.w (upd H s⁻¹ (.tup [.int i,x])) j:=by
   have lift:∀b o,H b=some o->aC X.prog X.w (upd H s⁻¹ (.tup [.int i,x])) j b o:=λ b o q=>
    (I.hok b o q).stay (λ c v B r=>l c v (by
     rcases B with z | z
     .rw[z];exact(D b o q).1
     .exact(D c _ z).1) (by
     rcases B with z | z
     .rw[z];exact(D b o q).2
     .exact(D c _ z).2) r) (λ c r=>by rw[ai (au r g)];exact r) λ c U r=>by rw[ai (au r g)];exact r
   intro b o q
   by_cases J:b=s⁻¹
   .subst J;rw[aq] at q;cases q;exact⟨by show 2<=sizeLine;decide,[.int i s.toks,u],.cons ⟨_,rfl⟩ %[|ru],⟨_,JI,⟨rfl,rfl⟩,_,rfl⟩⟩
   .rw[ai J] at q;exact lift b o q
  have I2:Inv X Z Y (upd H s⁻¹ (.tup [.int i,x])) {s with heap:=j,toks:=s.toks+1}:=by
   refine I.step (g':=s.gens) (d':=s.drawn) (ch:=[e,it]) (λ b f=>?_) (λ b o hL f d q n=>?_) (λ b o hL f d q n=>?_) (λ b o d q n=>?_) (λ b o d q=>?_) (λ b U q=>by rw[ai (au q g)];exact q) (λ b o u q=>by rw[ai (au q g)];exact q)
    (λ b ps q=>⟨#[],by rw[ai (au q g),q];simp⟩) (λ m hm=>?_) hok I.bare
   .rcases MJ.mp f with rfl | f
    .exact⟨f3,f1,f4,f5⟩
    .obtain rfl:b=it:=by simpa using f
     exact⟨g3,g1,T,S⟩
   .erw[Nq,MU,Nr,O7] at d;exact l b o d.1 d.2 q
   .erw[Nq,MU,Nr,O7] at d;exact⟨o.slots,l b o d.1 d.2 q⟩
   .rw[ai (MD (Mx q))];exact n
   .erw[Nq,MU,Nr,O7] at d;exact⟨o,l b o d.1 d.2 q⟩
   .let⟨o,es,ep,q,r⟩:=hm;exact⟨o,es,ep,l _ o (Ne.symm f1) (Ne.symm g1) q,r⟩
  refine⟨.ref s⁻¹,_,I2,rfl,⟨_,x,g,rfl,rfl,λ U hy=>by rw[I.lQ hy F];exact M⟩,⟨⟨_,by have:=hE;rw[show ((i:Int)+1)=((i+1:Nat):Int) by lia] at this;exact this⟩,?_⟩,λ b f=>?_⟩
  .let⟨o,q,r⟩:=hi;exact⟨o,C.extBut _ _ (Ne.symm y) q,r⟩
  .rcases MJ.mp f with rfl | f
   .rw[ai (MD A)];exact f0
   .obtain rfl:b=it:=by simpa using f
    rw[ai (MD N)];exact G
 done:=by
  intro X Q hw R hc i Z s Y H E I hf st O;subst Q hw R;let⟨xs,F,M⟩:=O;let⟨⟨old,he⟩,hit⟩:=st;let⟨its,L,p,hz⟩:=I.list F;let⟨G,g1,g2,g3,T,S⟩:=hf it 's';have hl:=L.length;exact wpAny_pyNext_enum_end (I.ok.hd hc) he hit p.isList (by simp;lia) λ h' J=>⟨rfl,I.turned (t':=s.toks) (λ b o f q=>J b o f q) G g1 g3 T S⟩
 self:=λ _ _ _ _ _ st h=>by
  let⟨⟨old,he⟩,_⟩:=st;exact OE he h
section
variable{X:Cx}
def GN(K:ae)(e:TA):TI:=fun Y H R=>e Y H λ d b=>∃a,d=[.ref a]/\(∃c,dI K b a c)/\R (IB K a) b
theorem yP{l:Expr}{j:TA}{p pos d:Pos}{f:List Expr}{o}(B:Gl X "enumerate")(hm:X.mg "enumerate"=none)(ha:PA X [l] j)(hs:starEach [l] X.env=[(false,eval l X.env)]:=by rfl) :
  PI X (.Tuple f o d) (.Call (.Name "enumerate" p) [l] [] pos) (GN X.K j):=by
 intro m s Y H R I h;refine Call_ (eY I B hm (u:=.type "enumerate") 'k' (NR (aJ (ha pos m s Y H _ I h) λ G e ⟨F,n,c,t,v⟩=>?_) hs rfl));let⟨a,rfl,⟨E,z⟩,q⟩:=v;let⟨u,rfl,r⟩:=vals1 t;cases r;let⟨its,J,x,L⟩:=c.list z;refine call_enumerate_list x.isList λ C k g y A=>?_;refine OE k ?_;have D:Inv X m Y n {e with heap:=C}:=c.kept (t':=e.toks) A;refine⟨_,_,_,_,n,rfl,D,sy a (e⁻¹+1) e⁻¹ (Nat.succ_ne_self _),⟨⟨_,k⟩,g⟩,λ b i=>?_,q⟩;rcases MJ.mp i with rfl | i
 .exact c.lT (Ob _) (c.hok.fresh (Ob _))
 .obtain rfl:b=e⁻¹:=by simpa using i
  exact c.lT (MB _) (c.hok.fresh (MB _))
end
theorem GO:isSubtype (.type "tuple") (.type "set")=pure false:=by rw[isSubtype_type];kernel_rfl
theorem GP:isSubtype (.type "tuple") (.type "frozenset")=pure false:=by rw[isSubtype_type];kernel_rfl
section
variable{prog:Program}{w:World}{A:Around}{E:Value->Shared->Prop}{s:Shared}
set_option maxHeartbeats 3200000 in
theorem iA{l:Addr}{ns:List Int}{Q:Value->Shared->Prop}
  (hh:A.handled=none) (hl:s.heap.IsTuple l its) (hi:IntsAre its.toList ns) (B:its.size+1<scanBound)
  (h:∀(h':Heap) (tk:Nat),h'.SetOf (intKind prog w) s⁻¹ (λ j=>(firstMet (λ i=>ns.getD i 0) its.size).any (·==j)) (firstMet (λ i=>ns.getD i 0) its.size).length->
   (∀b o,b<s⁻¹->s.heap.get? b=some o->h'.get? b=some o)->Q (.ref s⁻¹) {s with heap:=h',toks:=tk}) :
  wpAny (model prog w) A (call (.type "set") [.ref l]) Q E s:=by
 let⟨cc,tl,W⟩:=F.called_set.mro;have J:=F.called_set.made;have V:=F.called_set.sub;refine O4 (PK ?_);show wpAny _ _ (callAny (.type "set") _) _ _ _;refine MA ⟨Ov _ 'k',codeAny_builtin F.entry_type_call ?_⟩;rw[Around.under_plain (weight_type_call_type "set" [.ref l] []) rfl];have k1:=F.called_set.notType;have k2:=F.called_set.canCreate;have k3:=F.typeCall_set_1 (.ref l)
 repeat (any_goals (first | assumption | wp_step))
 refine NC (code_set_new_1 (.ref l) (E:=E) (Q₁:=λ S g=>∃a:Bool,S=.ref s⁻¹/\g={s with heap:=s.heap.push {cls:=.type "set",dict:=none,data:=.set #[] 0 (.fresh 0 0 a)}}) λ a=>⟨a,rfl,rfl⟩) λ r g I=>?_;cases r with
 |error e=>exact I
 |ok fl=>
  cases fl with
  |ret S=>
   let⟨a,rfl,rfl⟩:=I;have Y:(s.heap.push {cls:=.type "set",dict:=none,data:=.set #[] 0 (.fresh 0 0 a)}).get? s⁻¹=some {cls:=.type "set",dict:=none,data:=.set #[] 0 (.fresh 0 0 a)}:=MC _ rfl;have gT:Shared.TypeIs {s with heap:=s.heap.push {cls:=.type "set",dict:=none,data:=.set #[] 0 (.fresh 0 0 a)}} (.ref s⁻¹) "set":=⟨_,Y,rfl⟩;have k4:=F.called_set.init.lookup;have k5:=F.called_set.init.bind (.ref s⁻¹)
   repeat (any_goals (first | assumption | wp_step))
   refine NC (N2 (R:=wants (λ r f=>r=.none/\∃h' tk,f={s with heap:=h',toks:=tk}/\
     h'.SetOf (intKind prog w) s⁻¹ (λ j=>(firstMet (λ i=>ns.getD i 0) its.size).any (·==j)) (firstMet (λ i=>ns.getD i 0) its.size).length/\
     (∀b o,b<s⁻¹->s.heap.get? b=some o->h'.get? b=some o)) E) F.called_set.init.plain F.entry_set_init (check_set_init_1 gT ?_)) λ p f c=>?_
   .let⟨ol,q,y,T,x⟩:=hl;let⟨O,k,G,d⟩:=ol;simp only at y x;subst y;subst x;have Lk:(s.heap.push {cls:=.type "set",dict:=none,data:=.set #[] 0 (.fresh 0 0 a)}).get? l=some {cls:=.type "tuple",dict:=k,data:=.seq its T,slots:=d}:=Mv _ q;have k6:=GO;have k7:=GP;have k8:(Value.type "tuple"==Value.type "dict")=false:=by decide
    have X:(s.heap.push {cls:=.type "set",dict:=none,data:=.set #[] 0 (.fresh 0 0 a)}).IsTuple l its:=⟨_,Lk,rfl,T,rfl⟩;unfold Builtin.«set.__init__» noKeywords Builtin.Frozenset.updateFrom;generalize N:pyIter=PI
    wp_walk
    subst N;refine NU X ?_;refine Mu (wpAny_runValue ?_);have U:l<s⁻¹:=Mx q;have h3:A.in1.in1.in1.handled=none:=by simp[hh]
    have nI:l≠(s.heap.push {cls:=.type "set",dict:=none,data:=.set #[] 0 (.fresh 0 0 a)}).objs.size:=by
     rw[Ng];exact MD (NG U)
    have nS:s⁻¹∉[(s.heap.push {cls:=.type "set",dict:=none,data:=.set #[] 0 (.fresh 0 0 a)}).objs.size,l]:=by
     rw[Ng];erw[Nq,Nz,MU,Nr,O7];exact⟨MD (NK _),NB U⟩
    have H:∀(i:Nat) (v:Value),its[i]?=some v->∃t,v=.int ((λ i=>ns.getD i 0) i) t:=λ i v H=>
     IntsAre.int_at hi i v (by rw[Array.getElem?_toList];exact H)
    refine codeAny_set_update_loopS ((Walks.tuple h3 _ l nI its).toS) s⁻¹
     nS (λ i=>ns.getD i 0) H B (its.size - 0) 0 _ 'o' (Pc _)
     ⟨⟨_,MC _ rfl,rfl,rfl⟩,(X.push _)⟩ ?hS0 ?hR
    case hS0=>
     have u:((s.heap.push {cls:=.type "set",dict:=none,data:=.set #[] 0 (.fresh 0 0 a)}).push {cls:=.type "tuple_iterator",data:=.fields #[.ref l,.int 0 0]}).get? s⁻¹
       = some {cls:=.type "set",dict:=none,data:=.set #[] 0 (.fresh 0 0 a)}:=Mv _ Y
     exact SetOf_congr ((setObjOf_fresh (knd:=intKind prog w) a).setOf u (by unfold scanBound;lia)) (λ _=>rfl) rfl
    case hR=>
     intro Z z m;let⟨h',g',d',C,D⟩:=Z;have eg:g'=s.gens:=z.gens;have ed:d'=s.drawn:=z.drawn;have eo:D=s.os:=z.os;subst eg;subst ed;subst eo;show wpAny _ _ _ _ _ _;refine MA ?_;show wpAny _ _ (ret Value.none) _ _ _;refine MA ⟨rfl,h',C,rfl,m,λ b o B e=>?_⟩;have M:b≠s⁻¹:=MD B;have L:b≠(s.heap.push {cls:=.type "set",dict:=none,data:=.set #[] 0 (.fresh 0 0 a)}).objs.size:=by
      rw[Ng];exact MD (NG B)
     exact z.heap b o (by erw[Nq,Nz,MU,Nr,O7];exact⟨M,L⟩) (Mv _ (Mv _ e))
   .cases p with
    |error e=>exact c
    |ok n=>
     cases n with
     |ret r=>
      let⟨rfl,h',tk,rfl,m,K⟩:=c
      repeat (any_goals (first | assumption | wp_step))
      exact h _ _ m K
     |_=>exact c.elim
  |_=>exact I.elim
end
section
variable{X:Cx}
def unlike(ns:List Int):Nat:=(firstMet (λ i=>ns.getD i 0) ns.length).length
theorem sC(n:X.A.handled=none):aW X (.type "set") (λ xs H Q=>∃(a:Addr) (ns:List Int),xs=[.ref a]/\bI X.K H a (ns.map V.int)/\ns.length<=4000/\∀p S,H p=none->Q (.ref p) (upd H p (.set S (unlike ns)))):=by
 intro z s Y H xs v Q I r h;let⟨a,ns,rfl,l,x,q⟩:=h;let⟨u,rfl,i⟩:=vals1 r;cases i;let⟨its,d,k,y⟩:=I.tuple l;have c:=d.length;rw[Nk] at c;refine iA n (show s.heap.IsTuple a its.toArray from k) (by simpa using intsAre_of d) (by rw[ME];unfold scanBound;lia) λ t g f m=>?_;rw[show its.toArray.size=ns.length by simp[c]] at f;have j:∀b o,s.heap.get? b=some o->t.get? b=some o:=λ b o e=>m b o (Mx e) e;exact⟨.ref s⁻¹,_,I.laid (t':=g) (o:=.set _ (unlike ns)) j (MB _) f,rfl,q _ _ (I.hok.fresh (MB _))⟩
theorem jk:aW X (.builtin "len") (λ xs H Q=>∃(a:Addr) (S:Int->Bool) (n:Nat),xs=[.ref a]/\H a=some (.set S n)/\Q (.int n) H):=by
 intro x s Y H xs l Q I r h;let⟨a,S,n,rfl,c,q⟩:=h;let⟨u,rfl,b⟩:=vals1 r;cases b;let⟨o,k,v,t,j,i,g,p,m,f,e,d⟩:=I.hok _ _ c;subst d;refine call_len_set j i g e (by have:k.size<4096:=f;lia) ⟨.int _,H,I.tok _,⟨_,rfl⟩,q⟩
def iB(P:Program)(w:World)(a:Addr)(S:Key->Bool)(n:Nat):HO:=.ext λ h=>h.SetOf (aB P w) a S n
theorem qh{H:Hp}{h:Heap}{a:Addr}{S:Key->Bool}{n:Nat}(x:h.SetOf (aB P w) a S n):aC P w H h a (iB P w a S n):=by
 let⟨o,r⟩:=id x;let⟨m,p,t,e,r⟩:=r;refine⟨x,⟨o,e⟩,λ l j ⟨g,b,c,d,i,f⟩ k=>⟨g,b,c,d,k _ i,f⟩⟩
theorem sD:aW X (.type "set") (λ xs H Q=>xs=[]/\∀p,H p=none->Q (.ref p) (upd H p (iB X.prog X.w p (λ _=>false) 0))):=by
 intro g s Y H xs f Q I r h;let⟨rfl,q⟩:=h;cases r;refine call_set_0 λ c=>?_;have d:(s.heap.push {cls:=.type "set",dict:=none,data:=.set #[] 0 (.fresh 0 0 c)}).get? s⁻¹=some {cls:=.type "set",dict:=none,data:=.set #[] 0 (.fresh 0 0 c)}:=MC _ rfl;refine⟨.ref s⁻¹,_,I.laid (t':=s.toks) (o:=iB X.prog X.w s⁻¹ (λ _=>false) 0) (λ b o e=>Mv _ e) (MB _) (qh ?_),rfl,q _ (I.hok.fresh (MB _))⟩
 letI:BEq Key:=⟨λ a b=>decide (a=b)⟩
 haveI:LawfulBEq Key:={eq_of_beq:=λ h=>Oh h,rfl:=N7 rfl}
 exact SetOf_congr ((setObjOf_fresh (knd:=aB X.prog X.w) c).setOf d (by unfold scanBound;lia)) (λ _=>rfl) rfl
theorem uQ{k:Key}{u:Value}(r:RelV (kV k) u):g8 k u=true/\u.scannable=true:=by
 cases k with
 |inl i=>let⟨t,rfl⟩:=r;exact⟨jq i t,rfl⟩
 |inr x=>let⟨t,rfl⟩:=r;exact⟨jr x t,rfl⟩
def Dc(P:Program)(w:World):R2:=λ x y H Q=>∃a S n k,y=.ref a/\x=kV k/\H a=some (iB P w a S n)/\Q (.bl (S k)) H
theorem sE:dg X (compareOp .In) (Dc X.prog X.w):=by
 intro i s Y H x y v u Q I c b h;let⟨a,S,n,k,rfl,rfl,d,q⟩:=h;cases b;let⟨g,f⟩:=uQ c;let⟨e,_⟩:=I.hok _ _ d;exact wpAny_inSet_of (knd:=aB X.prog X.w) g f e ⟨.bl _,H,I.tok _,rfl,q⟩
def yQ(P:Program)(w:World):V->List V->Hp->VK->Prop:=λ x b H Q=>∃a S n k,x=.ref a/\b=[kV k]/\H a=some (iB P w a S n)/\n<4000/\Q .non (upd H a (iB P w a (λ j=>S j||decide (j=k)) (if S k then n else n+1)))
theorem oR:C0 X "set.add" (yQ X.prog X.w):=by
 intro F s Y H x A v B Q I g i h;let⟨a,S,n,k,rfl,rfl,d,C,q⟩:=h;cases g;let⟨u,rfl,j⟩:=i.one;let⟨y,r⟩:=uQ j;let⟨p,_⟩:=id (I.hok _ _ d);refine call_set_add (knd:=aB X.prog X.w) y r p (by unfold scanBound;lia) λ z f c=>?_;have l:∃u,z.get? a=some u:=by let⟨o,D,E,t,e,_⟩:=c;exact⟨o,e⟩
 exact⟨.non,_,I.write (x:=a) (e:=a) (t':=s.toks+1) (by rw[d];trivial) (.inl rfl) (λ b o m e=>f.extBut b o m e) l (qh c),rfl,q⟩
end
section
variable{prog:Program}{w:World}{A:Around}{E:Value->Shared->Prop}
theorem AV{it l:Addr}(d:l≠it):∀(n i:Nat) (s:Shared) (Q:List Value->Shared->Prop),s.heap.IsListIter it l i->s.heap.IsList l its->i+n<=its.size->
  (∀h',h'.IsListIter it l (i+n)->Heap.SameBut it s.heap h'->Q ((its.toList.drop i).take n) {s with heap:=h'})->wpAny (model prog w) A (draw (.ref it) n) Q E s
 |0,i,s,Q,a,_,_,q=>by
  show wpAny _ _ (pure []) Q E s;exact MA (by simpa using q s.heap a (Heap.SameBut.refl ..))
 |n+1,i,s,Q,a,b,le,q=>by
  have f:i<its.size:=by lia
  show wpAny _ _ (pyNext (.ref it) >>= _) Q E s;refine Mu (Pr a b (x:=its[i]) (by simp[f]) λ m k c=>?_);refine Mu (Nl (AV d n (i+1) _ _ k (b.extBut c.extBut d) 'o' λ h j g=>MA ?_));have e:its.toList.drop i=its[i]::its.toList.drop (i+1):=by simp[drop_eq_getElem_cons,f]
  have z:=q h (by rw[show i+(n+1)=i+1+n by lia];exact j) (c.trans g);rw[e,take_succ_cons] at z;exact z
theorem yR{s:Shared}{t:Addr}{c:List (Bool×(Value->Sem Unit))}{Q:Unit->Shared->Prop}(m:A.handled=none)(a:s.heap.IsList t its)
  (l:c.length=its.size) (d:c.findIdx? (·.1)=none)
  (h:∀h',Heap.ExtBut s⁻¹ s.heap h'->wpAny (model prog w) A (assignInOrder (c.map (·.2)) its.toList) Q E {s with heap:=h'}) :
  wpAny (model prog w) A (unpack (.ref t) c) Q E s:=by
 have i:t≠s⁻¹:=by let⟨o,k,_⟩:=a;exact MD (Mx k)
 unfold unpack;rw[l,d];refine Mu (Nl ?_);unfold unpackItems;refine Mu ?_
 .unfold notIterableAtAll;refine Mu (wpAny_specialOf a.typeIs slot_list_iter.lookup (MA ?_));erw[MS,MR];refine Mu (Nl (OB a ?_));refine Mu (Nl (AV i its.size 0 _ _ ⟨_,MC _ rfl,rfl,rfl⟩ (a.push _) 'o' λ p u g=>?_));have f:List.take its.size (List.drop 0 its.toList)=its.toList:=by rw[drop_zero];exact take_of_length_le 's'
  rw[f,MN 's'];have r:p.IsList t its:=(a.push _).extBut g.extBut i;refine Mu (Nl (wpAny_pyNext_list_end m u r 's' λ n q=>?_));erw[Option.isSome_none,MS,MR];exact MA (h n λ b o j e=>q b o j (g.extBut b o j (Mv _ e)))
end
section
variable{X:Cx}{pos:Pos}
def JJ(K:ae)(n:Nat)(t:x9):TG:=λ v Y H Q=>∃a b,v=.ref a/\dI K H a b/\b.length=n/\t b Y H Q
theorem Df{es:List Expr}{k:Nat}{t:x9}{n:Nat}(x:X.calm=true)(h:n5 X es t)
  (p:(assignEach es X.env).length=n:=by rfl) (d:(assignEach es X.env).findIdx? (·.1)=none:=by rfl):PG X (.Tuple es k pos) (JJ X.K n t):=by
 intro g s Y H v u Q I r c;let⟨a,i,rfl,m,q,c⟩:=c;cases r;let⟨its,f,j,A⟩:=I.list m;rw[assign_Tuple];refine Mu (Nh (yR (I.ok.hd x) j.isList (by simp[p,<-q,f.length]) d λ y l=>?_));have z:Inv X g Y H {s with heap:=y}:=I.kept (t':=s.toks) λ b o e=>l b o (MD (Mx e)) e;exact h g _ Y H i _ Q z (~~~f) c
theorem sF:dg X (compareOp .LtE) (λ x y H Q=>∃i j,x=.str i/\y=.str j/\Q (.bl (!decide (j.cps.toList<i.cps.toList))) H):=by
 intro d s Y H x y v u Q I b a h;let⟨i,j,rfl,rfl,q⟩:=h;let⟨t,rfl⟩:=b;let⟨c,rfl⟩:=a;exact PySem.P.le_str (ki I q rfl)
theorem Dg:E3 X (λ x lo d H Q=>∃z,x=.str z/\z.length<=sizeLine/\Q (.str (Txt.slice z lo d)) H):=by
 intro r s Y H x v A y lo d B Q I n c o m h;let⟨z,rfl,p,q⟩:=h;let⟨t,rfl⟩:=n;have b:∀g k,EP X r Y Q (.str (Txt.slice z lo d) g) {s with toks:=k}:=λ g k=>⟨.str _,H,I.tok k,⟨_,rfl⟩,q⟩;have a:=MQ (Txt.slice_le z lo d) p;refine⟨"str",_,F.slot_str_getitem.lookup,O5 _ _ _,?_⟩;cases o with
 |none=>
  cases m with
  |none=>exact N9 (l:=none) (u:=none) (st:=none) c rfl (OR ⟨a,b⟩)
  |int j e=>exact N9 (l:=none) (u:=some (j,e)) (st:=none) c rfl (OR ⟨a,b⟩)
 |int i f=>
  cases m with
  |none=>exact N9 (l:=some (i,f)) (u:=none) (st:=none) c rfl (OR ⟨a,b⟩)
  |int j e=>exact N9 (l:=some (i,f)) (u:=some (j,e)) (st:=none) c rfl (OR ⟨a,b⟩)
end
end L2
namespace L2
open PySem PySem.Spec PyProof.Rows List
open AutoSeq1 (wpAny_loadPart')
variable{Q:Value->Shared->Prop}{i:Nat}{it:Addr}{its:Array Value}
section
variable{prog:Program}{w:World}{A:Around}{E:Value->Shared->Prop}{s:Shared}
theorem nextT{l:Addr}{x:Value}(a:s.heap.IsTupleIter it l i)(b:s.heap.IsTuple l its)(h:its[i]?=some x)
  (q:∀h',h'.IsTupleIter it l (i+1)->Heap.SameBut it s.heap h'->Q x {s with heap:=h'}):wpAny (model prog w) A (Builtin.SmallTypes.nextOf (.ref it)) Q E s:=by
 let⟨o,d,g,c⟩:=id a;let⟨p,f,_,n,e⟩:=b;unfold Builtin.SmallTypes.nextOf;refine Mu (Nv (name:=Str.ofString "__next__") a.typeIs NV (N6 NV a.typeIs OW ?_ (OS _)));show wpAny _ _ (field (.ref it) 0 >>= _) _ _ s;refine Mu (Ni d c (x:=.ref l) rfl ?_);show wpAny _ _ (if (Value.ref l==Value.none)=true then _ else _) _ _ s;rw[MN (show ¬((Value.ref l==Value.none)=true) from M5)];show wpAny _ _ (field (.ref it) 1 >>= _) _ _ s;refine Mu (Ni d c (x:=.int i 0) rfl ?_);show wpAny _ _ (seqItems? (.ref l) >>= _) _ _ s;refine Mu (wpAny_seqItems f e ?_);erw[OF,h];refine Mu (O8 d c 's' (MA ⟨x,rfl,MA (q _ ?_ (Heap.SameBut.update ..))⟩));exact⟨_,NY _ d (OJ (Ow c _)),(Obj.cls_mapFields ..).trans g,by rw[Ow c];simp[rawInt]⟩
theorem uR{l:Addr}(f:A.handled=none)(a:s.heap.IsTupleIter it l i)(b:s.heap.IsTuple l its)(j:its[i]?=none)
  (q:∀h' e,Heap.ExtBut it s.heap h'->(Exists λ o=>h'.get? e=some o/\o.cls=.type "StopIteration")->E (.ref e) {s with heap:=h'}):wpAny (model prog w) A (Builtin.SmallTypes.nextOf (.ref it)) Q E s:=by
 let⟨o,d,r,c⟩:=id a;let⟨p,h,_,n,g⟩:=b;unfold Builtin.SmallTypes.nextOf;refine Mu (Nv (name:=Str.ofString "__next__") a.typeIs NV (N6 NV a.typeIs OW ?_ (OS _)));show wpAny _ _ (field (.ref it) 0 >>= _) _ _ s;refine Mu (Ni d c (x:=.ref l) rfl ?_);show wpAny _ _ (if (Value.ref l==Value.none)=true then _ else _) _ _ s;rw[MN (show ¬((Value.ref l==Value.none)=true) from M5)];show wpAny _ _ (field (.ref it) 1 >>= _) _ _ s;refine Mu (Ni d c (x:=.int i 0) rfl ?_);show wpAny _ _ (seqItems? (.ref l) >>= _) _ _ s;refine Mu (wpAny_seqItems h g ?_);erw[OF,j];refine Mu (O1 (Mu (O8 d c 's' ?_)));show wpAny _ _ (newExc (.type "StopIteration") [] >>= _) _ _ _;refine Mu ?_;erw[newExc,newTuple];refine Mu (Np ?_ (by size_fits));refine Mu (m:=firstArgMember _ _) (wpAny_of_eq (a:=Value.none) (by first | rfl | (erw[firstArgMember];rfl)) ?_);refine Np ?_ (by size_fits);erw[raiseNew];refine Mu (wpAny_handled ?_)
 first | rw[show A.in1.handled=none from f] | rw[f]
 refine Mu (MA (wpAny_throw ?_));refine q _ _ (λ b o k e=>?_) ⟨_,MC _ rfl,rfl⟩;exact Mv _ (Mv _ ((Heap.SameBut.update ..).extBut b o k e))
theorem oS{e l:Addr}{x c:Value}{Q:Option Value->Shared->Prop}
  (H:IsEnum s.heap e it i c) (a:s.heap.IsTupleIter it l i) (b:s.heap.IsTuple l its) (hx:its[i]?=some x) (C:e≠it)
  (q:∀h',IsEnumOut h' e it ((i:Int)+1) x s⁻¹->h'.IsTupleIter it l (i+1)->
   h'.get? s⁻¹=some {cls:=.type "tuple",data:=.seq #[.int i s.toks,x]}->h'.objs.size=s⁻¹+1->
   (∀b o,b≠e->b≠it->s.heap.get? b=some o->h'.get? b=some o)->Q @(.ref s⁻¹) {s with heap:=h',toks:=s.toks+1}) :
  wpAny (model prog w) A (pyNext (.ref e)) Q E s:=by
 have W:s.TypeIs (.ref e) "enumerate":=⟨_,H,rfl⟩;unfold pyNext;refine Mu (wpAny_attempt (Nv (name:=Str.ofString "__next__") W Of (N6 Of W PC ?_ (Po _))));let⟨j,g,d,f,k⟩:=s;show wpAny _ _ (field (.ref e) 2 >>= _) _ _ _;refine Mu (Ni H rfl (x:=.ref it) rfl ?_);refine Mu (nextT a b hx λ m X B=>?_);replace B:Heap.SameBut it j m:=B;have M:IsEnum m e it i c:=(B.2 e C).trans H;show wpAny _ _ (field (.ref e) 3 >>= _) _ _ ⟨m,g,d,f,k⟩;refine Mu (Ni M rfl (x:=rawInt i) rfl ?_);show wpAny _ _ (field (.ref e) 4 >>= _) _ _ ⟨m,g,d,f,k⟩;refine Mu (Ni M rfl (x:=.none) rfl ?_);show wpAny _ _ (mkInt i >>= _) _ _ ⟨m,g,d,f,k⟩;refine Mu (wpAny_mkInt ?_);show wpAny _ _ (setField (.ref e) 3 (rawInt ((i:Int)+1)) >>= _) _ _ ⟨m,g,d,f+1,k⟩;refine Mu (Od M 's' λ F L z=>?_);replace z:Heap.SameBut e m F:=z;replace L:IsEnum F e it ((i:Int)+1) c:=L;show wpAny _ _ (setField (.ref e) 4 .none >>= _) _ _ ⟨F,g,d,f+1,k⟩;refine Mu (Od L 's' λ p K y=>?_);replace y:Heap.SameBut e F p:=y;replace K:IsEnum p e it ((i:Int)+1) c:=K;show wpAny _ _ (newTuple [.int i f,x] >>= _) _ _ ⟨p,g,d,f+1,k⟩;refine Mu (wpAny_newTuple ?_);have J:IsEnum (p.push {cls:=.type "tuple",data:=.seq #[.int i f,x]}) e it ((i:Int)+1) c:=Mv _ K;generalize h:p.push {cls:=.type "tuple",data:=.seq #[.int i f,x]}=D at J;have G:p.objs.size=j.objs.size:=by rw[y.1,z.1,B.1]
 have S:e<j.objs.size:=Mx H;have Z:D.get? j.objs.size=some {cls:=.type "tuple",data:=.seq #[.int i f,x]}:=by rw[<-h,<-G];exact MC _ rfl
 have Y:D.objs.size=j.objs.size+1:=by rw[<-h,Ng,G]
 have k4:∀b o,b≠e->b≠it->j.get? b=some o->D.get? b=some o:=λ b o n N O=>by
  rw[<-h];exact Mv _ (y.extBut b o n (z.extBut b o n (B.extBut b o N O)))
 have a4:D.IsTupleIter it l (i+1):=by
  rw[<-h];let⟨o,ho,r⟩:=(X.extBut z.extBut (Ne.symm C)).extBut y.extBut (Ne.symm C);exact⟨o,Mv _ ho,r⟩
 show wpAny _ _ (Builtin.SmallTypes.ownedTupleIsFree (.ref e) >>= _) _ _ ⟨D,g,d,f+1,k⟩;rw[G];clear h K y L z M B X G p F m;refine Mu ?_;unfold Builtin.SmallTypes.ownedTupleIsFree;refine Mu (Ni J rfl (x:=.none) rfl (MA ?_));erw[ND];refine Mu (O1 ?_);refine Mu (Ni J rfl (x:=c) rfl ?_);refine Mu (Od J 's' λ I V v=>?_);replace v:Heap.SameBut e D I:=v;replace V:IsEnum I e it ((i:Int)+1) x:=V;show wpAny _ _ (Builtin.SmallTypes.ownedTupleHandOut (.ref e) (.ref j.objs.size) >>= _) _ _ ⟨I,g,d,f+1,k⟩;refine Mu ?_;unfold Builtin.SmallTypes.ownedTupleHandOut;refine Mu (Od V 's' λ R U u=>?_);replace u:Heap.SameBut e I R:=u;replace U:IsEnumOut R e it ((i:Int)+1) x j.objs.size:=U;refine Od U 's' λ P T t=>?_;replace t:Heap.SameBut e R P:=t;replace T:IsEnumOut P e it ((i:Int)+1) x j.objs.size:=T;refine Mu (wpAny_letGo (MA ⟨_,rfl,MA (q P T ?_ ?_ ?_ ?_)⟩))
 .exact((a4.extBut v.extBut (Ne.symm C)).extBut u.extBut (Ne.symm C)).extBut t.extBut (Ne.symm C)
 .exact t.extBut _ _ (NB S) (u.extBut _ _ (NB S) (v.extBut _ _ (NB S) Z))
 .rw[t.1,u.1,v.1,Y]
 .exact λ b o n N O=>t.extBut b o n (u.extBut b o n (v.extBut b o n (k4 b o n N O)))
theorem sG{e l:Addr}{c:Value}{Q:Option Value->Shared->Prop}(n:A.handled=none)
  (d:IsEnum s.heap e it i c) (a:s.heap.IsTupleIter it l i) (b:s.heap.IsTuple l its) (m:its[i]?=none)
  (q:∀h',Heap.ExtBut it s.heap h'->Q none {s with heap:=h'}):wpAny (model prog w) A (pyNext (.ref e)) Q E s:=by
 have f:s.TypeIs (.ref e) "enumerate":=⟨_,d,rfl⟩;unfold pyNext;refine Mu (wpAny_attempt (Nv (name:=Str.ofString "__next__") f Of (N6 Of f PC ?_ (Po _))));show wpAny _ _ (field (.ref e) 2 >>= _) _ _ _;refine Mu (Ni d rfl (x:=.ref it) rfl ?_);refine Mu (uR n a b m λ h' x k j=>?_);let⟨o,h,g⟩:=j;refine Mu (wpAny_isInstance (T:="StopIteration") (b:=true) ⟨o,h,g⟩ isSubtype_stop ?_);exact MA (q _ k)
theorem sH(l:Addr)(its:Array Value)(n:Nat)(b:Option Addr)(k:Array (Option Value)) :
  Meets (Builtin.«enumerate.__new__» ⟨[.type "enumerate",.ref l],[]⟩) (λ _ R s=>s.heap.get? l=some {cls:=.type "tuple",dict:=b,data:=.seq its n,slots:=k}/\
   R (.ok (.ret (.ref (s.heap.push {cls:=.type "tuple_iterator",data:=.fields #[.ref l,.int 0 0]}).objs.size)))
    {s with heap:=(s.heap.push {cls:=.type "tuple_iterator",data:=.fields #[.ref l,.int 0 0]}).push {cls:=.type "enumerate",data:=.fields #[.none,.bool false,.ref s⁻¹,rawInt 0,.none,.none]}}):=
 .of_wp λ prog w A R s h=>by
  let⟨o,g,d,j,m⟩:=s;let⟨a,h⟩:=h;have e:=sub_enumerate;have f:Heap.IsTuple (Shared.heap ⟨o,g,d,j,m⟩) l its:=⟨_,a,rfl,n,rfl⟩
  wp_walk using wpAny_loadPart' a
  refine wpAny_stack_any λ p=>MA ?_;split
  .ext c _ _ _ _ _;cases (c==Value.type "enumerate")
   all_goals
    wp_walk using wpAny_loadPart' a,NU f
    exact⟨_,rfl,h⟩
  .wp_walk using wpAny_loadPart' a,NU f
   exact⟨_,rfl,h⟩
theorem oU{l:Addr}(p:s.heap.IsTuple l its)
  (h:∀h',IsEnum h' (s⁻¹+1) s⁻¹ 0 .none->h'.IsTupleIter s⁻¹ l 0->h'.objs.size=s⁻¹+2->
   (∀b o,s.heap.get? b=some o->h'.get? b=some o)->Q (.ref (s⁻¹+1)) {s with heap:=h'}) :
  wpAny (model prog w) A (call (.type "enumerate") [.ref l]) Q E s:=by
 let⟨⟨c,g,q,k⟩,m,f,n,e⟩:=p;replace f:c=.type "tuple":=f;replace e:q=.seq its n:=e;subst f e;refine callType_new F.called_enumerate 'd' (F.typeCall_enumerate_1 _) (F.newCall_enumerate_1 _) (λ a=>F.args_object_init_2 a _) F.entry_enumerate_new (sH l its n g k) ⟨m,?_⟩;have d:(s.heap.push {cls:=.type "tuple_iterator",data:=.fields #[.ref l,.int 0 0]}).objs.size=s⁻¹+1:=Ng ..;show _/\_;rw[d];have j:IsEnum ((s.heap.push {cls:=.type "tuple_iterator",data:=.fields #[.ref l,.int 0 0]}).push
   {cls:=.type "enumerate",data:=.fields #[.none,.bool false,.ref s⁻¹,rawInt 0,.none,.none]}) (s⁻¹+1) s⁻¹ 0 .none:=by
  have:=MC (s.heap.push {cls:=.type "tuple_iterator",data:=.fields #[.ref l,.int 0 0]})
   (o:={cls:=.type "enumerate",data:=.fields #[.none,.bool false,.ref s⁻¹,rawInt 0,.none,.none]}) rfl
  rw[d] at this;exact this
 refine⟨⟨_,j,rfl⟩,h _ j ⟨_,Mv _ (MC _ rfl),rfl,rfl⟩ (by rw[Ng,d]) λ b o x=>Mv _ (Mv _ x)⟩
end
end L2
namespace L2
open PySem PySem.Spec PyProof.Rows List
def JK(K:ae)(a:Addr):It:=
 ⟨λ i H=>∃b x,bI K H a b/\b[i]?=some x,λ i H x c=>∃p v,H p=none/\x=.ref p/\c=upd H p (.tup [.int i,v])/\∀b,bI K H a b->b[i]?=some v,λ i H=>∃b,bI K H a b/\b.length<=i⟩
theorem oV{P:Program}{w:World}{K:ae}{elts:List Expr}{x1}{pos:Pos}(a e it:Addr)(y:e≠it) :
  Turn P w K (.Tuple elts x1 pos) (JK K a) [e,it] e (λ i h=>(∃old,IsEnum h e it (i:Int) old)/\h.IsTupleIter it a i) where
 mem:=by simp
 obj:=λ i h st b f=>by
  let⟨⟨old,he⟩,o,t,hc,hd⟩:=st;rcases MJ.mp f with rfl | f
  .refine⟨_,he,λ v q=>?_⟩;have q':Data.fields _=Data.cell v:=q;cases q'
  .obtain rfl:b=it:=by simpa using f
   exact⟨o,t,λ v q=>by rw[hd] at q;cases q⟩
 keep:=λ i h h' st k=>by
  let⟨⟨old,he⟩,o,t,r⟩:=st;exact⟨⟨old,k e 's' _ he⟩,o,k it 's' o t,r⟩
 item:=by
  intro X Q hw R hc i Z s Y H E I hf st O;subst Q hw R;let⟨xs,x,F,M⟩:=O;let⟨⟨old,he⟩,hit⟩:=st;let⟨its,L,p,hz⟩:=I.tuple F;let⟨u,hu,ru⟩:=L.get M;let⟨f0,f1,f2,f3,f4,f5⟩:=hf e 's';let⟨G,g1,g2,g3,T,S⟩:=hf it 's';refine oS he hit (show s.heap.IsTuple a its.toArray from p) (x:=u) (~~~hu) y λ h1 t hi ht hs k1=>⟨_,rfl,?_⟩;have A:e<s⁻¹:=Mx he;have N:it<s⁻¹:=by let⟨o,q,_⟩:=hit;exact Mx q
  refine O6 (s:={s with heap:=h1,toks:=s.toks+1}) t λ j hE C=>?_;have l:∀b o,b≠e->b≠it->s.heap.get? b=some o->j.get? b=some o:=λ b o V n2 q=>C.extBut b o V (k1 b o V n2 q);have JI:j.get? s⁻¹=some {cls:=.type "tuple",data:=.seq #[.int i s.toks,u]}:=C.extBut _ _ (NB A) ht;have hsz2:j.objs.size=s⁻¹+1:=by rw[C.1];exact hs
  have g:H s⁻¹=none:=I.hok.fresh (MB _);have D:∀b o,H b=some o->b≠e/\b≠it:=λ b o q=>⟨(λ z=>by rw[z,f0] at q;cases q),(λ z=>by rw[z,G] at q;cases q)⟩;have hok:cZ X.prog X.w (upd H s⁻¹ (.tup [.int i,x])) j:=by
   have lift:∀b o,H b=some o->aC X.prog X.w (upd H s⁻¹ (.tup [.int i,x])) j b o:=λ b o q=>
    (I.hok b o q).stay (λ c v B r=>l c v (by
     rcases B with z | z
     .rw[z];exact(D b o q).1
     .exact(D c _ z).1) (by
     rcases B with z | z
     .rw[z];exact(D b o q).2
     .exact(D c _ z).2) r) (λ c r=>by rw[ai (au r g)];exact r) λ c U r=>by rw[ai (au r g)];exact r
   intro b o q
   by_cases J:b=s⁻¹
   .subst J;rw[aq] at q;cases q;exact⟨by show 2<=sizeLine;decide,[.int i s.toks,u],.cons ⟨_,rfl⟩ %[|ru],⟨_,JI,⟨rfl,rfl⟩,_,rfl⟩⟩
   .rw[ai J] at q;exact lift b o q
  have I2:Inv X Z Y (upd H s⁻¹ (.tup [.int i,x])) {s with heap:=j,toks:=s.toks+1}:=by
   refine I.step (g':=s.gens) (d':=s.drawn) (ch:=[e,it]) (λ b f=>?_) (λ b o hL f d q n=>?_) (λ b o hL f d q n=>?_) (λ b o d q n=>?_) (λ b o d q=>?_) (λ b U q=>by rw[ai (au q g)];exact q) (λ b o u q=>by rw[ai (au q g)];exact q)
    (λ b ps q=>⟨#[],by rw[ai (au q g),q];simp⟩) (λ m hm=>?_) hok I.bare
   .rcases MJ.mp f with rfl | f
    .exact⟨f3,f1,f4,f5⟩
    .obtain rfl:b=it:=by simpa using f
     exact⟨g3,g1,T,S⟩
   .erw[Nq,MU,Nr,O7] at d;exact l b o d.1 d.2 q
   .erw[Nq,MU,Nr,O7] at d;exact⟨o.slots,l b o d.1 d.2 q⟩
   .rw[ai (MD (Mx q))];exact n
   .erw[Nq,MU,Nr,O7] at d;exact⟨o,l b o d.1 d.2 q⟩
   .let⟨o,es,ep,q,r⟩:=hm;exact⟨o,es,ep,l _ o (Ne.symm f1) (Ne.symm g1) q,r⟩
  refine⟨.ref s⁻¹,_,I2,rfl,⟨_,x,g,rfl,rfl,λ U hy=>by rw[I.ju hy F];exact M⟩,⟨⟨_,by have:=hE;rw[show ((i:Int)+1)=((i+1:Nat):Int) by lia] at this;exact this⟩,?_⟩,λ b f=>?_⟩
  .let⟨o,q,r⟩:=hi;exact⟨o,C.extBut _ _ (Ne.symm y) q,r⟩
  .rcases MJ.mp f with rfl | f
   .rw[ai (MD A)];exact f0
   .obtain rfl:b=it:=by simpa using f
    rw[ai (MD N)];exact G
 done:=by
  intro X Q hw R hc i Z s Y H E I hf st O;subst Q hw R;let⟨xs,F,M⟩:=O;let⟨⟨old,he⟩,hit⟩:=st;let⟨its,L,p,hz⟩:=I.tuple F;let⟨G,g1,g2,g3,T,S⟩:=hf it 's';have hl:=L.length;exact sG (I.ok.hd hc) he hit (show s.heap.IsTuple a its.toArray from p) (by simp;lia) λ h' J=>⟨rfl,I.turned (t':=s.toks) (λ b o f q=>J b o f q) G g1 g3 T S⟩
 self:=λ _ _ _ _ _ st h=>by
  let⟨⟨old,he⟩,_⟩:=st;exact OE he h
section
variable{X:Cx}
def Dh(K:ae)(e:TA):TI:=fun Y H R=>e Y H λ d b=>∃a,d=[.ref a]/\(∃c,bI K b a c)/\R (JK K a) b
theorem uT{l:Expr}{k:TA}{p pos e:Pos}{f:List Expr}{r}(B:Gl X "enumerate")(hm:X.mg "enumerate"=none)(ha:PA X [l] k)(hs:starEach [l] X.env=[(false,eval l X.env)]:=by rfl) :
  PI X (.Tuple f r e) (.Call (.Name "enumerate" p) [l] [] pos) (Dh X.K k):=by
 intro n s Y H R I h;refine Call_ (eY I B hm (u:=.type "enumerate") 'k' (NR (aJ (ha pos n s Y H _ I h) λ G c ⟨F,o,d,v,w⟩=>?_) hs rfl));let⟨a,rfl,⟨E,z⟩,q⟩:=w;let⟨u,rfl,t⟩:=vals1 v;cases t;let⟨g,J,x,L⟩:=d.tuple z;refine oU (show c.heap.IsTuple a g.toArray from x) λ C m i y A=>?_;refine OE m ?_;have D:Inv X n Y o {c with heap:=C}:=d.kept (t':=c.toks) A;refine⟨_,_,_,_,o,rfl,D,oV a (c⁻¹+1) c⁻¹ (Nat.succ_ne_self _),⟨⟨_,m⟩,i⟩,λ b j=>?_,q⟩;rcases MJ.mp j with rfl | j
 .exact d.lT (Ob _) (d.hok.fresh (Ob _))
 .obtain rfl:b=c⁻¹:=by simpa using j
  exact d.lT (MB _) (d.hok.fresh (MB _))
end
structure TopD(K:ae)(w:World)(a:Addr)(kvs:List (Str×V)):Prop where
 ex:∃(es:Array DictEntry) (n:Nat),K.lookup a=some ⟨.type "dict",none,.dict es n,#[]⟩/\PySem.W.KeysLit w.params es.toList/\∀x,cC (kvs.lookup x) (findBy Value.isStrOf es x)
 lo:(a==sysModules)=false
section
variable{X:Cx}
def sI(K:ae)(w:World):R2:=λ x y H Q=>∃z a b,x=.str z/\y=.ref a/\TopD K w a b/\Q (.bl (!(b.lookup z).isSome)) H
theorem cC.isSome{o:Option V}{u:Option Value}(r:cC o u):u.isSome=o.isSome:=by
 cases o<;>cases u<;>first | rfl | exact r.elim
theorem fE:dg X (compareOp .NotIn) (sI X.K X.w):=by
 intro j s Y H x y v u Q I c b h;let⟨z,a,d,rfl,rfl,T,q⟩:=h;let⟨t,rfl⟩:=c;cases b;let⟨i,n,g,f,e⟩:=T.ex;refine PZ (strKind_is X.prog X.w z t) T.lo (PL (prog:=X.prog) I.bA g f) ?_;refine⟨.bl _,H,I.tok _,rfl,?_⟩;rw[(e z).isSome];exact q
def Di(K:ae)(w:World):R2:=λ x y H Q=>∃z a b v,y=.str z/\x=.ref a/\TopD K w a b/\b.lookup z=some v/\Q v H
theorem Dj:CT X (Di X.K X.w):=by
 intro b c C s Y H x y v u Q I g f h k;let⟨z,a,j,o,rfl,rfl,T,l,q⟩:=h;let⟨t,rfl⟩:=f;cases g;let⟨B,n,A,p,m⟩:=T.ex;have r:=m z;rw[l] at r;let⟨u,e,i⟩:=r.some_of;have d:=PL (prog:=X.prog) I.bA A p;exact tail_any d.typeIs slot_dict_getitem.lookup (wpAny_getItem_of (strKind_is X.prog X.w z t) d e ⟨o,H,I.tok _,i,q⟩) k
end
end L2
namespace D
open PySem List
variable{α:Type}
inductive W where
 |non | bl (b:Bool) | int (i:Int) | str (x:Str) | tup (xs:List W) | fz (xs:List W) | obj (c:Str) (ks:List Str) (vs:List W) | ref (n:Nat)
 deriving Inhabited
inductive O where
 |lst (xs:List W) | ins (c:Str) (fs:List (Str×W)) | set (ks:List L2.Key) | dic (fs:List (Str×W))
 |exc (c f:Str) (ws:List W)
abbrev Mem:=List O
abbrev Loc:=List (Option W)
inductive R(α:Type) where
 |no
 |ok (a:α) (m:Mem)
@[inline] noncomputable def R.bind{J:Type}(x:R α)(f:α->Mem->R J):R J:=match x with
 |.no=>.no
 |.ok a m=>f a m
inductive U where
 |isx (tab:List (Str×Bool)) | xfl (f:Str) (cs:List Str)
 |mkx (c:Str) (f:Option Str)
 |sj | mind | kin (kvs:List (Str×W)) | knin (kvs:List (Str×W)) | kget (kvs:List (Str×W)) | dict (ks:List Str) | isc (c:Str) | kv | dcm | dzip | dlst
inductive B where
 |len | abs | max | min | divmod | all | any | list | tuple | int | sorted | sum | repr | str | dum
 deriving DecidableEq
mutual
inductive T where
 |var (i:Nat) | tup (ts:Ts)
inductive Ts where
 |nil | cons (t:T) (ts:Ts)
end
mutual
inductive E where
 |var (i:Nat) | cst (w:W)
 |bin (op:Operator) (a b:E) | neg (a:E) | not (a:E) | and (a b:E) | or (a b:E)
 |cmp (op:CmpOp) (a b:E) | chain (o1 o2:CmpOp) (a b c:E)
 |ife (t a b:E) | tup (es:Es) | lst (es:Es) | idx (a b:E)
 |slc (a:E) (lo hi:Oe)
 |call (f:Nat) (es:Es) | blt (b:B) (es:Es) | isI (a:E) (t:String)
 |meth (o:E) (m:String) (es:Es)
 |comp (g:G)
 |rng (a:E) | rng2 (a b:E) | enm (a:E) | zip (es:Es) | lrng (a:E)
 |frz (a:E) | fld (a:E) (f:Str) | make (c:Str) (es:Es) | mth (o:E) (m:Str) (es:Es) | set0 | fus (u:U) (a:E)
inductive Es where
 |nil | cons (e:E) (es:Es)
inductive Oe where
 |none | some (e:E)
inductive G where
 |elt (e:E) | gen (t:T) (js:List Nat) (it:E) (ifs:Es) (rest:G)
end
mutual
inductive A where
 |pt (t:T) | sub (o i:E) | tup (l:As)
inductive As where
 |nil | cons (a:A) (l:As)
end
inductive Dk where
 |drop | ret | asg (t:A)
mutual
inductive S where
 |asg (t:A) (e:E) | aug (i:Nat) (op:Operator) (e:E) | expr (e:E) | ret (e:E) | retN
 |ife (t:E) (a b:Ss) | for_ (t:T) (it:E) (b:Ss) | while_ (t:E) (b:Ss) | pass | brk | cont | never
 |fas (o:E) (f:Str) (e:E)
 |rais (c:Str) (f:Option Str) (e:E) | xc (h:Dk) (c:Option Str) (i:Nat) (es:Es) | tr (b:Ss) (cs:List Str) (i:Option Nat) (h:Ss)
inductive Ss where
 |nil | cons (s:S) (r:Ss)
end
def lim:Nat:=1000000
def new(o:O)(m:Mem):R W:=.ok (.ref m.length) (m++[o])
def getL(m:Mem):W->Option (List W)
 |.ref n=>match m[n]? with
  |some (.lst xs)=>some xs
  |_=>none
 |.fz xs=>some xs
 |_=>none
def bM(m:Mem):W->Option (List W)
 |.tup xs=>some xs
 |w=>getL m w
def cH(f:W->Option α):List W->Option (List α)
 | []=>some []
 |x::xs=>match f x with
  |none=>none
  |some d=>match cH f xs with
   |none=>none
   |some ds=>some (d::ds)
def toD:Nat->Mem->W->Option PyData
 |0,_,_=>none
 |n+1,m,w=>match w with
  |.non=>some .none
  |.bl b=>some (.bool b)
  |.int i=>some (.int i)
  |.str x=>if x.cps.all (· < 0x110000) then some (.str x) else none
  |.tup xs=>(cH (toD n m) xs).map .tuple
  |.fz xs=>(cH (toD n m) xs).map .list
  |.ref a=>match getL m (.ref a) with
   |some xs=>(cH (toD n m) xs).map .list
   |none=>none
  |.obj _ _ _=>none
def sJ(m:Mem)(x y:W):R Bool:=match toD 60 m x,toD 60 m y with
 |some d,some e=>.ok (PyData.eqv d e) m
 |_,_=>.no
def truthy(m:Mem):W->R Bool
 |.non=>.ok false m
 |.bl b=>.ok b m
 |.int i=>.ok (i != 0) m
 |.str x=>if x.length<=lim then .ok ((x.length:Int) != 0) m else .no
 |.tup xs=>.ok (!xs.isEmpty) m
 |.fz xs=>.ok (!xs.isEmpty) m
 |.ref n=>match getL m (.ref n) with
  |some xs=>.ok (!xs.isEmpty) m
  |none=>.no
 |.obj _ _ _=>.no
def iC(i j:Int):Bool:=(decide (-(2^64)<i)&&decide (i<2^64))||(decide (-(2^64)<j)&&decide (j<2^64))
def yS(m:Mem)(x y:W):R W:=match getL m x,getL m y with
 |some xs,some a=>if xs.length+a.length<=lim then new (.lst (xs++a)) m else .no
 |_,_=>.no
def Ll(n:Nat)(xs:List W):List W:=(List.replicate n xs).flatten
def binop(b:Operator)(x y:W)(m:Mem):R W:=match b with
 |.Add=>match x,y with
  |.int i,.int j=>.ok (.int (i+j)) m
  |.tup xs,.tup a=>if xs.length+a.length<=lim then .ok (.tup (xs++a)) m else .no
  |x,y=>yS m x y
 |.Sub=>match x,y with
  |.int i,.int j=>.ok (.int (i - j)) m
  |_,_=>.no
 |.Mult=>match x,y with
  |.int i,.int j=>if iC i j then .ok (.int (i*j)) m else .no
  |_,_=>.no
 |.FloorDiv=>match x,y with
  |.int i,.int j=>if 0<j/\j<1073741824 then .ok (.int (i / j)) m else .no
  |_,_=>.no
 |.Mod=>match x,y with
  |.int i,.int j=>if 0<j then .ok (.int (i%j)) m else .no
  |_,_=>.no
 |.Pow=>match x,y with
  |.int i,.int j=>if 0<=j/\j<=1000000/\i.natAbs<2^64 then .ok (.int (i^j.toNat)) m else .no
  |_,_=>.no
 |_=>.no
def mz(m:Mem)(x:W)(a:List W):R Bool:=match toD 60 m x,cH (toD 60 m) a with
 |some d,some b=>.ok (b.any λ e=>PyData.eqv e d) m
 |_,_=>.no
def mC(k:L2.Key)(ks:List L2.Key):Bool:=ks.any λ j=>decide (j=k)
def Dm:W->Option L2.Key
 |.int i=>some (.inl i)
 |.str x=>some (.inr x)
 |_=>none
def Dn(m:Mem)(x y:W):R Bool:=match y with
 |.str b=>match x with
  |.str a=>.ok (!(Builtin.Str.occurrences b a 0 b.length 1).isEmpty) m
  |_=>.no
 |.ref n=>match m[n]? with
  |some (.lst c)=>mz m x c
  |some (.set d)=>match Dm x with
   |some k=>.ok (mC k d) m
   |none=>.no
  |some (.dic fs)=>match x with
   |.str z=>.ok (fs.lookup z).isSome m
   |_=>.no
  |_=>.no
 |.fz c=>mz m x c
 |.tup c=>mz m x c
 |_=>.no
def uU:W->Bool
 |.non=>true
 |_=>false
def bF:List W->Option (List Int)
 | []=>some []
 |.int b::r=>(bF r).map (b::·)
 |_::_=>none
def aK(d:CmpOp)(x y:W)(m:Mem):R Bool:=match d with
 |.Eq=>sJ m x y
 |.NotEq=>(sJ m x y).bind λ b m=>.ok (!b) m
 |.Lt=>match x,y with
  |.int i,.int j=>.ok (decide (i<j)) m
  |_,_=>.no
 |.LtE=>match x,y with
  |.int i,.int j=>.ok (decide (i<=j)) m
  |.str a,.str b=>.ok (!decide (b.cps.toList<a.cps.toList)) m
  |_,_=>.no
 |.Gt=>match x,y with | .int i,.int j=>.ok (decide (j<i)) m | _,_=>.no
 |.GtE=>match x,y with | .int i,.int j=>.ok (decide (j<=i)) m | _,_=>.no
 |.In=>Dn m x y
 |.NotIn=>match y with
  |.ref n=>match m[n]? with
   |some (.lst c)=>(mz m x c).bind λ b m=>.ok (!b) m
   |some (.dic fs)=>match x with
    |.str z=>.ok (!(fs.lookup z).isSome) m
    |_=>.no
   |_=>.no
  |.fz c=>(mz m x c).bind λ b m=>.ok (!b) m
  |.tup c=>(mz m x c).bind λ b m=>.ok (!b) m
  |_=>.no
 |.Is=>match y with
  |.non=>.ok (uU x) m
  |_=>.no
 |.IsNot=>match y with
  |.non=>.ok (!uU x) m
  |_=>.no
def dR(x y:W)(m:Mem):R W:=match y with
 |.int i=>match x with
  |.str z=>if z.length<=lim then match L2.oK z.cps.toList i with
   |some c=>.ok (.str ⟨#[c]⟩) m
   |none=>.no else .no
  |x=>match bM m x with
   |some xs=>match L2.oK xs i with
    |some w=>.ok w m
    |none=>.no
   |none=>.no
 |.str z=>match x with
  |.ref n=>match m[n]? with
   |some (.dic fs)=>match fs.lookup z with
    |some w=>.ok w m
    |none=>.no
   |_=>.no
  |_=>.no
 |_=>.no
def sL(xs:List W)(lo a:Option Int):List W:=(xs.drop (HT.br xs.length 0 lo)).take (HT.br xs.length xs.length a - HT.br xs.length 0 lo)
def qj(x:W)(lo a:Option Int)(m:Mem):R W:=match x with
 |.tup xs=>.ok (.tup (sL xs lo a)) m
 |.str z=>if z.length<=lim then .ok (.str (Txt.slice z lo a)) m else .no
 |x=>match getL m x with
  |some xs=>new (.lst (sL xs lo a)) m
  |none=>.no
def mD(o i v:W)(m:Mem):R Unit:=match o,i with
 |.ref n,.int k=>match m[n]? with
  |some (.lst xs)=>match L2.uH xs.length k with
   |some j=>.ok () (m.set n (.lst (xs.set j v)))
   |none=>.no
  |_=>.no
 |_,_=>.no
def bools:List W->Option (List Bool)
 | []=>some []
 |.bl b::r=>(bools r).map (b::·)
 |_::_=>none
def iD(m:Mem)(t:String):W->Option Bool
 |.non=>some (t=="NoneType")
 |.bl _=>some (t=="bool"||t=="int")
 |.int _=>some (t=="int")
 |.str _=>some (t=="str")
 |.tup _=>some (t=="tuple")
 |.fz _=>some (t=="list")
 |.ref n=>match m[n]? with
  |some (.lst _)=>some (t=="list")
  |_=>none
 |.obj _ _ _=>none
def uV:W->Option (List Int)
 |.tup xs=>bF xs
 |_=>none
def jG:List W->Option (List Str)
 | []=>some []
 |.str b::r=>(jG r).map (b::·)
 |_::_=>none
def ins(x:Int):List Int->List Int
 | []=>[x]
 |y::r=>if y<x then y::ins x r else x::y::r
def KI:List Int->List Int
 | []=>[]
 |x::r=>ins x (KI r)
def KJ(a:List W):Option (List W):=match bF a with
 |some ns=>if ns.length<64 then some ((KI ns).map .int) else none
 |none=>none
def gC(b:B)(xs:List W)(m:Mem):R W:=match b with
 |.len=>match xs with
  | [x]=>match x with
   |.str z=>if z.length<=lim then .ok (.int z.length) m else .no
   |x=>match bM m x with
    |some a=>.ok (.int a.length) m
    |none=>.no
  |_=>.no
 |.abs=>match xs with
  | [.int i]=>.ok (.int (if i<0 then -i else i)) m
  |_=>.no
 |.max=>match xs with
  | [.int i,.int j]=>.ok (.int (if j>i then j else i)) m
  | [.tup a]=>match bF a with
   |some (n::r)=>.ok (.int (r.foldl max n)) m
   |_=>.no
  |_=>.no
 |.min=>match xs with
  | [.int i,.int j]=>.ok (.int (if j<i then j else i)) m
  | [.tup a]=>match bF a with
   |some (n::r)=>.ok (.int (r.foldl min n)) m
   |_=>.no
  |_=>.no
 |.divmod=>match xs with
  | [.int i,.int j]=>if 0<j/\j<1073741824 then .ok (.tup [.int (i / j),.int (i%j)]) m else .no
  |_=>.no
 |.all=>match xs with
  | [x]=>match getL m x with
   |some a=>match bools a with
    |some bs=>.ok (.bl (bs.all id)) m
    |none=>.no
   |none=>.no
  |_=>.no
 |.any=>match xs with
  | [x]=>match getL m x with
   |some a=>match bools a with
    |some bs=>.ok (.bl (bs.any id)) m
    |none=>.no
   |none=>.no
  |_=>.no
 |.list=>match xs with
  | [x]=>match bM m x with
   |some a=>new (.lst a) m
   |none=>.no
  |_=>.no
 |.tuple=>match xs with
  | [x]=>match bM m x with
   |some a=>.ok (.tup a) m
   |none=>.no
  |_=>.no
 |.int=>match xs with
  | [.int i]=>.ok (.int i) m
  | [.bl b]=>.ok (.int (if b then 1 else 0)) m
  | [.str z]=>match intText? z with
   |some n=>if z.length<=640 then .ok (.int n) m else .no
   |none=>.no
  |_=>.no
 |_=>.no
def uW(xs:List W)(m:Mem):R W:=match bF xs with
 |some ns=>if ns.length<=4000 then .ok (.int (L2.unlike ns)) m else .no
 |none=>.no
def Lm(f:List W->List (List Int)->R W)(x:W)(m:Mem):R W:=match getL m x with
 |none=>.no
 |some a=>match cH uV a with
  |none=>.no
  |some b=>f a b
def uX(ks:List Str)(x:W)(m:Mem):R W:=match x with
 |.tup ws=>if ks.length=ws.length/\ks.Nodup/\ks.length<=15 then new (.dic (ks.zip ws)) m else .no
 |_=>.no
def Dp(x:W)(m:Mem):R W:=match x with
 |.tup [a,b]=>match bM m a,bM m b with
  |some xs,some d=>match jG xs with
   |some c=>if c.length=d.length/\c.length<=1000/\c.Nodup then new (.dic (c.zip d)) m else .no
   |none=>.no
  |_,_=>.no
 |_=>.no
def iE(m:Mem):W->Option (Str×List (Str×W))
 |.ref n=>match m[n]? with
  |some (.ins c fs)=>some (c,fs)
  |_=>none
 |.obj c ks vs=>some (c,ks.zip vs)
 |_=>none
def GQ(c:Str)(x:W)(m:Mem):R W:=match iE m x with
 |some (d,_)=>if d=c then .ok (.bl true) m else .no
 |none=>.no
def qk(a:List (Str×Bool))(x:W)(m:Mem):R W:=match x with
 |.ref n=>match m[n]? with
  |some (.exc c _ _)=>match a.lookup c with
   |some b=>.ok (.bl b) m
   |none=>.no
  |_=>.no
 |_=>.no
def ql(f:Str)(a:List Str)(x:W)(m:Mem):R W:=match x with
 |.ref n=>match m[n]? with
  |some (.exc c g [w])=>if g=f/\a.contains c=true then .ok w m else .no
  |_=>.no
 |_=>.no
def mE(c:Str)(a:Option Str)(x:W)(m:Mem):R W:=match a with
 |none=>new (.exc c "" []) m
 |some f=>new (.exc c f [x]) m
def bX(u:U)(x:W)(m:Mem):R W:=match u with
 |.isx tab=>qk tab x m
 |.xfl f cs=>ql f cs x m
 |.mkx c d=>mE c d x m
 |.sj=>match x with
  |.tup xs=>uW xs m
  |_=>.no
 |.mind=>.no
 |.kin a=>match x with
  |.str z=>.ok (.bl (a.lookup z).isSome) m
  |.int _=>.ok (.bl false) m
  |_=>.no
 |.knin a=>match x with
  |.str z=>.ok (.bl (!(a.lookup z).isSome)) m
  |.int _=>.ok (.bl true) m
  |_=>.no
 |.kget a=>match x with
  |.str z=>match a.lookup z with
   |some w=>.ok w m
   |none=>.no
  |_=>.no
 |.dict b=>uX b x m
 |.isc c=>GQ c x m
 |.kv=>.no
 |.dcm=>.no
 |.dzip=>Dp x m
 |.dlst=>.no
def mF(n:Nat)(a xs:List W)(m:Mem):R W:=match xs with
 | [x]=>if a.length<lim then .ok .non (m.set n (.lst (a++[x]))) else .no
 |_=>.no
def yT(n:Nat)(xs:List W)(m:Mem):R W:=match xs with
 | []=>.ok .non (m.set n (.lst []))
 |_=>.no
def sM(n:Nat)(a xs:List W)(m:Mem):R W:=match xs with
 | []=>.ok .non (m.set n (.lst a.reverse))
 |_=>.no
def GR(n:Nat)(a xs:List W)(m:Mem):R W:=match xs with
 | []=>match a[a.length - 1]? with
  |some y=>.ok y (m.set n (.lst a.dropLast))
  |none=>.no
 | [.int i]=>if -(2^63)<=i/\i<2^63 then match seqIndex? i a.length with
  |some k=>match a[k]? with
   |some y=>.ok y (m.set n (.lst (a.eraseIdx k)))
   |none=>.no
  |none=>.no else .no
 |_=>.no
def uY(n:Nat)(a xs:List W)(m:Mem):R W:=match xs with
 | [.ref b]=>match m[b]? with
  |some (.lst zs)=>if a.length+zs.length<=lim then .ok .non (m.set n (.lst (a++zs))) else .no
  |_=>.no
 |_=>.no
def uZ(n:Nat)(a xs:List W)(m:Mem):R W:=match xs with
 | [.int i,y]=>if 0<=i/\i<=a.length/\a.length<lim then .ok .non (m.set n (.lst (a.take i.toNat++[y]++a.drop i.toNat))) else .no
 |_=>.no
def dz(a xs:List W)(m:Mem):R W:=match xs with
 | [x]=>match x with
  |.str z=>match jG a with
   |some ss=>.ok (.int (ss.count z)) m
   |none=>.no
  |.int z=>match bF a with
   |some ss=>.ok (.int (ss.count z)) m
   |none=>.no
  |_=>.no
 |_=>.no
def gY(a xs:List W)(m:Mem):R W:=match xs with
 | [.int i]=>match bF a with
  |some ns=>if ns.idxOf i<ns.length/\ns.length<=1000000 then .ok (.int (ns.idxOf i:Nat)) m else .no
  |none=>.no
 |_=>.no
def gD(n:Nat)(a:List W)(name:String)(xs:List W)(m:Mem):R W:=
 if name="append" then mF n a xs m
 else if name="clear" then yT n xs m
 else if name="reverse" then sM n a xs m
 else if name="pop" then GR n a xs m
 else if name="extend" then uY n a xs m
 else if name="insert" then uZ n a xs m
 else if name="count" then dz a xs m
 else if name="lindex" then gY a xs m
 else .no
def Dq(z:Str)(xs:List W)(m:Mem):R W:=match xs with
 | [x]=>match getL m x with
  |some a=>match jG a with
   |some ss=>if (ss.map (·.length)).sum+ss.length*z.length<=16777216 then .ok (.str (Txt.join z ss)) m else .no
   |none=>.no
  |none=>.no
 |_=>.no
def u5(z:Str)(xs:List W)(m:Mem):R W:=match xs with
 | [.str y]=>match (Builtin.Str.occurrences z y 0 z.length 1).head? with
  |some p=>.ok (.int (p:Nat)) m
  |none=>.no
 |_=>.no
def oW(z:Str)(xs:List W)(m:Mem):R W:=match xs with
 | [.str y]=>.ok (.bl (Txt.endswith z y)) m
 |_=>.no
def kH(z:Str)(xs:List W)(m:Mem):R W:=match xs with
 | [.str y]=>if y.length=1/\z.length<=lim then new (.lst ((Txt.split z y).map .str)) m else .no
 |_=>.no
def iF(z:Str)(name:String)(xs:List W)(m:Mem):R W:=
 if name="join" then Dq z xs m
 else if name="index" then u5 z xs m
 else if name="endswith" then oW z xs m
 else if name="split" then kH z xs m
 else .no
def AW(n:Nat)(ks:List L2.Key)(xs:List W)(m:Mem):R W:=match xs with
 | [x]=>match Dm x with
  |some k=>if ks.length<4000 then .ok .non (m.set n (.set (if mC k ks then ks else ks++[k]))) else .no
  |none=>.no
 |_=>.no
def cD(n:Nat)(ks:List L2.Key)(name:String)(xs:List W)(m:Mem):R W:=
 if name="add" then AW n ks xs m
 else .no
def bT(o:W)(name:String)(xs:List W)(m:Mem):R W:=match o with
 |.ref n=>match m[n]? with
  |some (.lst a)=>gD n a name xs m
  |some (.set b)=>cD n b name xs m
  |_=>.no
 |.str z=>iF z name xs m
 |.fz a=>if name="lindex" then gY a xs m
  else if name="count" then dz a xs m
  else .no
 |.tup a=>if name="tcount" then dz a xs m else .no
 |_=>.no
inductive Kd where
 |lst | str | set | no
 |tup
 deriving DecidableEq
def kdOf(m:Mem):W->Kd
 |.ref n=>match m[n]? with
  |some (.lst _)=>.lst
  |some (.set _)=>.set
  |_=>.no
 |.str _=>.str
 |.fz _=>.lst
 |.tup _=>.tup
 |_=>.no
def sN(name:String):Kd:=if name="join"\/name="index"\/name="endswith"\/name="split" then .str else if name="add" then .set else
 if name="tcount" then .tup else
 .lst
mutual
def jl(g:Nat->Option W):W->Option W
 |.tup xs=>(dN g xs).map .tup
 |.fz xs=>(dN g xs).map .fz
 |.obj c ks vs=>(dN g vs).map (.obj c ks)
 |.ref n=>g n
 |.non=>some .non
 |.bl b=>some (.bl b)
 |.int i=>some (.int i)
 |.str x=>some (.str x)
def dN(g:Nat->Option W):List W->Option (List W)
 | []=>some []
 |x::r=>match jl g x with
  |none=>none
  |some y=>match dN g r with
   |none=>none
   |some a=>some (y::a)
end
def AX(m:Mem)(k:Nat):Nat->Nat->Option W
 |0,a=>if a<k then some (.ref a) else none
 |n+1,a=>if a<k then some (.ref a) else match m[a]? with
  |some (.lst xs)=>(dN (AX m k n) xs).map .fz
  |some (.ins c fs)=>(dN (AX m k n) (fs.map (·.2))).map (.obj c (fs.map (·.1)))
  |_=>none
mutual
def fc(k:Nat):W->Bool
 |.tup xs=>bG k xs
 |.fz xs=>bG k xs
 |.obj _ _ vs=>bG k vs
 |.ref n=>decide (n<k)
 |.non=>true
 |.bl _=>true
 |.int _=>true
 |.str _=>true
def bG(k:Nat):List W->Bool
 | []=>true
 |x::r=>fc k x&&bG k r
end
def dB(k:Nat):O->Bool
 |.lst xs=>bG k xs
 |.ins _ fs=>bG k (fs.map (·.2))
 |.set _=>true
 |.dic fs=>bG k (fs.map (·.2))
 |.exc _ _ ws=>bG k ws
def sO(k:Nat)(m:Mem):Bool:=m.all (dB k)
def u6(m:Mem)(r:R W):R W:=match r with
 |.no=>.no
 |.ok w a=>if m.length<=a.length/\sO m.length (a.take m.length)=true then match jl (AX a m.length 8) w with
  |some b=>.ok b (a.take m.length)
  |none=>.no else .no
def fW:List Nat->Loc->Loc
 | [],Z=>Z
 |j::r,Z=>fW r (Z.set j none)
mutual
def aG:T->W->Loc->Option Loc
 |.var i,w,Z=>some (Z.set i (some w))
 |.tup ts,w,Z=>match w with
  |.tup xs=>bU ts xs Z
  |.fz xs=>bU ts xs Z
  |_=>none
def bU:Ts->List W->Loc->Option Loc
 |.nil,xs,Z=>match xs with
  | []=>some Z
  |_::_=>none
 |.cons t ts,xs,Z=>match xs with
  | []=>none
  |x::xs=>match aG t x Z with
   |some Z=>bU ts xs Z
   |none=>none
end
inductive Src where
 |lst (n:Nat) | tup (xs:List W) | rng (lo:Int) (k:Nat) | enm (s:Src) | zip (ss:List Src)
inductive Nx where
 |bad | fin | it (w:W)
inductive Ln where
 |bad | fin | its (ws:List W)
mutual
def Src.get:Src->Mem->Nat->Nx
 |.lst n,m,i=>match getL m (.ref n) with
  |some xs=>match xs[i]? with
   |some w=>.it w
   |none=>.fin
  |none=>.bad
 |.tup xs,_,i=>match xs[i]? with
  |some w=>.it w
  |none=>.fin
 |.rng lo k,_,i=>if i<k then .it (.int (lo+i)) else .fin
 |.enm s,m,i=>match s.get m i with
  |.it w=>.it (.tup [.int i,w])
  |.fin=>.fin
  |.bad=>.bad
 |.zip ss,m,i=>match Src.GS ss m i with
  |.its ws=>.it (.tup ws)
  |.fin=>.fin
  |.bad=>.bad
def Src.GS:List Src->Mem->Nat->Ln
 | [],_,_=>.its []
 |s::ss,m,i=>match s.get m i,Src.GS ss m i with
  |.bad,_=>.bad
  |_,.bad=>.bad
  |.it w,.its ws=>.its (w::ws)
  |_,_=>.fin
end
mutual
def Src.len:Src->Mem->Nat
 |.lst n,m=>match getL m (.ref n) with
  |some xs=>xs.length
  |none=>0
 |.tup xs,_=>xs.length
 |.rng _ k,_=>k
 |.enm s,m=>s.len m
 |.zip ss,m=>Src.lens ss m
def Src.lens:List Src->Mem->Nat
 | [],_=>0
 |s::ss,m=>max (s.len m) (Src.lens ss m)
end
def srcOf(m:Mem):W->Option Src
 |.tup xs=>some (.tup xs)
 |.fz xs=>some (.tup xs)
 |.ref n=>match getL m (.ref n) with
  |some _=>some (.lst n)
  |none=>none
 |_=>none
def u7(m:Mem):List W->Option (List Src)
 | []=>some []
 |w::ws=>match srcOf m w with
  |none=>none
  |some s=>match u7 m ws with
   |none=>none
   |some ss=>some (s::ss)
def signs(z:Str):List W:=z.cps.toList.map λ c=>W.str ⟨#[c]⟩
def GU(m:Mem):W->Option Src
 |.str z=>if L2.asc z then some (.tup (signs z)) else none
 |w=>srcOf m w
inductive F where
 |nx (Z:Loc) | rt (w:W) | bk (Z:Loc) | ct (Z:Loc)
 |rz (c:Str) (fw:Option (Str×W)) (Z:Loc)
set_option genInjectivity false in
structure Cs where
 flds:List (Str×Str)
 mths:List ((Str×Str)×Nat)
 ini:List (Str×Nat)
 dic:List (Str×List (Str×W)):=[]
 isc:List Str:=[]
set_option genInjectivity false in
structure Cx where
 call:Nat->List W->Mem->R W
 fuel:Nat
 cs:Cs
 flow:Nat->List W->Mem->R F
def qm(a:Cs)(x:W)(f:Str)(m:Mem):R W:=match iE m x with
 |some (c,fs)=>if a.flds.contains (c,f) then match fs.lookup f with
  |some w=>.ok w m
  |none=>.no else .no
 |none=>.no
def qp(a:Cs)(x:W)(f:Str)(m:Mem):Option Nat:=match iE m x with
 |some (c,fs)=>if (fs.lookup f).isNone then a.mths.lookup (c,f) else none
 |none=>none
def bY(f:Str)(v:W):List (Str×W)->List (Str×W)
 | []=>[(f,v)]
 |(g,x)::r=>if g=f then (g,v)::r else (g,x)::bY f v r
def u9(a:Cs)(x:W)(f:Str)(v:W)(m:Mem):R Unit:=match x with
 |.ref n=>match m[n]? with
  |some (.ins c fs)=>if a.flds.contains (c,f)/\fs.length<1000 then .ok () (m.set n (.ins c (bY f v fs))) else .no
  |_=>.no
 |_=>.no
def vc(C:Cx)(c:Str)(ws:List W)(m:Mem):R W:=match C.cs.ini.lookup c with
 |some i=>(C.call i (.ref m.length::ws) (m++[.ins c []])).bind λ w a=>match w with
  |.non=>.ok (.ref m.length) a
  |_=>.no
 |none=>.no
def dS(get:Mem->Nat->Nx)(t:T)(body:Loc->Mem->R F):Nat->Nat->Loc->Mem->R F
 |k,i,Z,m=>match get m i with
  |.bad=>.no
  |.fin=>.ok (.nx Z) m
  |.it x=>match k with
   |0=>.no
   |k+1=>match aG t x Z with
    |none=>.no
    |some Z=>(body Z m).bind λ f m=>match f with
     |.nx Z=>dS get t body k (i+1) Z m
     |.ct Z=>dS get t body k (i+1) Z m
     |.bk Z=>.ok (.nx Z) m
     |.rt w=>.ok (.rt w) m
     |.rz c w Z=>.ok (.rz c w Z) m
def dU(c:Loc->Mem->R Bool)(body:Loc->Mem->R F):Nat->Loc->Mem->R F
 |0,_,_=>.no
 |k+1,Z,m=>(c Z m).bind λ b m=>if b then (body Z m).bind λ f m=>match f with
   |.nx Z=>dU c body k Z m
   |.ct Z=>dU c body k Z m
   |.bk Z=>.ok (.nx Z) m
   |.rt w=>.ok (.rt w) m
   |.rz c w Z=>.ok (.rz c w Z) m
  else .ok (.nx Z) m
def bC(get:Mem->Nat->Nx)(t:T)(test:Loc->Mem->R Bool)(body:Loc->Mem->List W->R (List W×Loc)):Nat->Nat->Loc->Mem->List W->R (List W×Loc)
 |k,i,Z,m,acc=>match get m i with
  |.bad=>.no
  |.fin=>.ok (acc,Z) m
  |.it x=>match k with
   |0=>.no
   |k+1=>match aG t x Z with
    |none=>.no
    |some Z=>(test Z m).bind λ b m=>if b then (body Z m acc).bind λ p m=>bC get t test body k (i+1) p.2 m p.1 else bC get t test body k (i+1) Z m acc
def GV(x:W)(m:Mem):R Src:=match GU m x with
 |some s=>.ok s m
 |none=>.no
structure Ev where
 v:R W
 t:R Bool
 i:R Src
def vx(v:R W):Ev:=⟨v,v.bind λ w m=>truthy m w,v.bind GV⟩
def tx(v:R W)(t:R Bool):Ev:=⟨v,t,v.bind GV⟩
def ix(i:R Src):Ev:=⟨.no,.no,i⟩
mutual
def bV(C:Cx):E->Loc->Mem->Ev
 |.var i,Z,m=>vx (match Z[i]? with
  |some (some w)=>.ok w m
  |_=>.no)
 |.cst w,_,m=>vx (.ok w m)
 |.bin op a b,Z,m=>vx ((bV C a Z m).v.bind λ x m=>(bV C b Z m).v.bind λ y m=>binop op x y m)
 |.neg a,Z,m=>vx ((bV C a Z m).v.bind λ x m=>match x with
  |.int i=>.ok (.int (-i)) m
  |_=>.no)
 |.not a,Z,m=>tx ((bV C a Z m).v.bind λ x m=>match x with
  |.bl b=>.ok (.bl (!b)) m
  |_=>.no) ((bV C a Z m).t.bind λ c m=>.ok (!c) m)
 |.and a b,Z,m=>tx ((bV C a Z m).v.bind λ x m=>match x with
  |.bl c=>if c then (bV C b Z m).v else .ok (.bl false) m
  |_=>.no) ((bV C a Z m).t.bind λ c m=>if c then (bV C b Z m).t else .ok false m)
 |.or a b,Z,m=>tx ((bV C a Z m).v.bind λ x m=>(truthy m x).bind λ c m=>if c then .ok x m else (bV C b Z m).v) ((bV C a Z m).t.bind λ c m=>if c then .ok true m else (bV C b Z m).t)
 |.cmp op a b,Z,m=>tx ((bV C a Z m).v.bind λ x m=>(bV C b Z m).v.bind λ y m=>(aK op x y m).bind λ c m=>.ok (.bl c) m) ((bV C a Z m).v.bind λ x m=>(bV C b Z m).v.bind λ y m=>aK op x y m)
 |.chain e d a b c,Z,m=>tx ((bV C a Z m).v.bind λ x m=>(bV C b Z m).v.bind λ y m=>(aK e x y m).bind λ k m=>
   if k then (bV C c Z m).v.bind λ z m=>(aK d y z m).bind λ k m=>.ok (.bl k) m else .ok (.bl false) m) ((bV C a Z m).v.bind λ x m=>(bV C b Z m).v.bind λ y m=>(aK e x y m).bind λ k m=>
   if k then (bV C c Z m).v.bind λ z m=>aK d y z m else .ok false m)
 |.ife t a b,Z,m=>tx ((bV C t Z m).t.bind λ c m=>if c then (bV C a Z m).v else (bV C b Z m).v) ((bV C t Z m).t.bind λ c m=>if c then (bV C a Z m).t else (bV C b Z m).t)
 |.tup es,Z,m=>vx ((aH C es Z m).bind λ ws m=>if ws.length<=lim then .ok (.tup ws) m else .no)
 |.lst es,Z,m=>vx ((aH C es Z m).bind λ ws m=>if ws.length<=lim then new (.lst ws) m else .no)
 |.idx a b,Z,m=>vx ((bV C a Z m).v.bind λ x m=>(bV C b Z m).v.bind λ y m=>dR x y m)
 |.slc a lo hi,Z,m=>vx ((bV C a Z m).v.bind λ x m=>(vd C lo Z m).bind λ l m=>(vd C hi Z m).bind λ u m=>qj x l u m)
 |.call f es,Z,m=>vx ((aH C es Z m).bind λ ws m=>C.call f ws m)
 |.blt b es,Z,m=>vx ((aH C es Z m).bind λ ws m=>gC b ws m)
 |.isI a t,Z,m=>vx ((bV C a Z m).v.bind λ x m=>match iD m t x with
  |some b=>.ok (.bl b) m
  |none=>.no)
 |.meth o name es,Z,m=>vx ((bV C o Z m).v.bind λ x m=>if kdOf m x=sN name then (aH C es Z m).bind λ ws m=>bT x name ws m else .no)
 |.comp g,Z,m=>vx ((f9 C g Z m []).bind λ p m=>new (.lst p.1) m)
 |.lrng a,Z,m=>vx ((bV C a Z m).v.bind λ x m=>match x with
  |.int j=>if 0<=j/\j<=1000000 then new (.lst ((List.range j.toNat).map λ i=>W.int (i:Nat))) m else .no
  |_=>.no)
 |.frz a,Z,m=>vx (u6 m (bV C a Z m).v)
 |.fld a f,Z,m=>vx ((bV C a Z m).v.bind λ x m=>qm C.cs x f m)
 |.make c es,Z,m=>vx ((aH C es Z m).bind λ ws m=>vc C c ws m)
 |.mth o f es,Z,m=>vx ((bV C o Z m).v.bind λ x m=>match qp C.cs x f m with
  |some i=>(aH C es Z m).bind λ ws m=>C.call i (x::ws) m
  |none=>.no)
 |.set0,_,m=>vx (new (.set []) m)
 |.fus u a,Z,m=>vx ((bV C a Z m).v.bind λ x m=>bX u x m)
 |.rng a,Z,m=>ix ((bV C a Z m).v.bind λ x m=>match x with
  |.int j=>if -(2^62)<=j/\j<2^62 then .ok (.rng 0 j.toNat) m else .no
  |_=>.no)
 |.rng2 a b,Z,m=>ix ((bV C a Z m).v.bind λ x m=>(bV C b Z m).v.bind λ y m=>match x,y with
  |.int i,.int j=>if -(2^62)<=i/\i<2^62/\-(2^62)<=j/\j<2^62 then .ok (.rng i (j - i).toNat) m else .no
  |_,_=>.no)
 |.enm a,Z,m=>ix ((bV C a Z m).v.bind λ x m=>match srcOf m x with
  |some s=>.ok (.enm s) m
  |none=>.no)
 |.zip es,Z,m=>ix ((aH C es Z m).bind λ xs m=>match u7 m xs with
  |some ss=>.ok (.zip ss) m
  |none=>.no)
def aH(C:Cx):Es->Loc->Mem->R (List W)
 |.nil,_,m=>.ok [] m
 |.cons e es,Z,m=>(bV C e Z m).v.bind λ w m=>(aH C es Z m).bind λ ws m=>.ok (w::ws) m
def vd(C:Cx):Oe->Loc->Mem->R (Option Int)
 |.none,_,m=>.ok none m
 |.some e,Z,m=>(bV C e Z m).v.bind λ w m=>match w with
  |.int i=>.ok (some i) m
  |_=>.no
def f9(C:Cx):G->Loc->Mem->List W->R (List W×Loc)
 |.elt e,Z,m,a=>(bV C e Z m).v.bind λ w m=>if a.length<lim then .ok (a++[w],Z) m else .no
 |.gen t js it ifs rest,Z,m,a=>(bV C it Z m).i.bind λ s m=>bC s.get t (fun Z m=>aX C ifs Z m) (fun Z m a=>f9 C rest Z m a) (s.len m) 0 (fW js Z) m a
def aX(C:Cx):Es->Loc->Mem->R Bool
 |.nil,_,m=>.ok true m
 |.cons e es,Z,m=>(bV C e Z m).t.bind λ b m=>if b then aX C es Z m else .ok false m
end
def ao(C:Cx)(e:E)(Z:Loc)(m:Mem):R W:=(bV C e Z m).v
def aR(C:Cx)(e:E)(Z:Loc)(m:Mem):R Bool:=(bV C e Z m).t
def gE(C:Cx)(e:E)(Z:Loc)(m:Mem):R Src:=(bV C e Z m).i
section
variable{C:Cx}{Z:Loc}{m:Mem}
theorem aZ(i:Nat):ao C (.var i) Z m=(match Z[i]? with
   |some (some w)=>.ok w m
   |_=>.no):=rfl
theorem mG(i:Nat):aR C (.var i) Z m=(ao C (.var i) Z m).bind λ w m=>D.truthy m w:=rfl
theorem bN(w:W):ao C (.cst w) Z m=(.ok w m):=rfl
theorem mH(w:W):aR C (.cst w) Z m=(ao C (.cst w) Z m).bind λ w m=>D.truthy m w:=rfl
theorem gF(c:Operator)(a b:E):ao C (.bin c a b) Z m=((ao C a Z m).bind λ x m=>(ao C b Z m).bind λ y m=>binop c x y m):=rfl
theorem mJ(c:Operator)(a b:E):aR C (.bin c a b) Z m=(ao C (.bin c a b) Z m).bind λ w m=>D.truthy m w:=rfl
theorem qt(a:E):ao C (.neg a) Z m=((ao C a Z m).bind λ x m=>match x with
   |.int i=>.ok (.int (-i)) m
   |_=>.no):=rfl
theorem mK(a:E):aR C (.neg a) Z m=(ao C (.neg a) Z m).bind λ w m=>D.truthy m w:=rfl
theorem qu(a:E):ao C (.not a) Z m=((ao C a Z m).bind λ x m=>match x with
   |.bl b=>.ok (.bl (!b)) m
   |_=>.no):=rfl
theorem qw(a b:E):ao C (.and a b) Z m=((ao C a Z m).bind λ x m=>match x with
   |.bl c=>if c then ao C b Z m else .ok (.bl false) m
   |_=>.no):=rfl
theorem yU(a b:E):ao C (.or a b) Z m=((ao C a Z m).bind λ x m=>(D.truthy m x).bind λ c m=>if c then .ok x m else ao C b Z m):=rfl
theorem mL(d:CmpOp)(a b:E):ao C (.cmp d a b) Z m=((ao C a Z m).bind λ x m=>(ao C b Z m).bind λ y m=>(aK d x y m).bind λ c m=>.ok (.bl c) m):=rfl
theorem gZ(e d:CmpOp)(a b c:E):ao C (.chain e d a b c) Z m=((ao C a Z m).bind λ x m=>(ao C b Z m).bind λ y m=>(aK e x y m).bind λ k m=>
    if k then (ao C c Z m).bind λ z m=>(aK d y z m).bind λ k m=>.ok (.bl k) m else .ok (.bl false) m):=rfl
theorem qA(t a b:E):ao C (.ife t a b) Z m=((aR C t Z m).bind λ c m=>if c then ao C a Z m else ao C b Z m):=rfl
theorem iG(es:Es):ao C (.tup es) Z m=((aH C es Z m).bind λ ws m=>if ws.length<=lim then .ok (.tup ws) m else .no):=rfl
theorem mO(es:Es):aR C (.tup es) Z m=(ao C (.tup es) Z m).bind λ w m=>D.truthy m w:=rfl
theorem gG(es:Es):ao C (.lst es) Z m=((aH C es Z m).bind λ ws m=>if ws.length<=lim then new (.lst ws) m else .no):=rfl
theorem mQ(es:Es):aR C (.lst es) Z m=(ao C (.lst es) Z m).bind λ w m=>D.truthy m w:=rfl
theorem gH(a b:E):ao C (.idx a b) Z m=((ao C a Z m).bind λ x m=>(ao C b Z m).bind λ y m=>dR x y m):=rfl
theorem mR(a b:E):aR C (.idx a b) Z m=(ao C (.idx a b) Z m).bind λ w m=>D.truthy m w:=rfl
theorem qC(a:E)(lo b:Oe):ao C (.slc a lo b) Z m=((ao C a Z m).bind λ x m=>(vd C lo Z m).bind λ l m=>(vd C b Z m).bind λ u m=>qj x l u m):=rfl
theorem mS(a:E)(lo b:Oe):aR C (.slc a lo b) Z m=(ao C (.slc a lo b) Z m).bind λ w m=>D.truthy m w:=rfl
theorem iH(f:Nat)(es:Es):ao C (.call f es) Z m=((aH C es Z m).bind λ ws m=>C.call f ws m):=rfl
theorem iI(f:Nat)(es:Es):aR C (.call f es) Z m=(ao C (.call f es) Z m).bind λ w m=>D.truthy m w:=rfl
theorem iJ(b:B)(es:Es):ao C (.blt b es) Z m=((aH C es Z m).bind λ ws m=>gC b ws m):=rfl
theorem mT(b:B)(es:Es):aR C (.blt b es) Z m=(ao C (.blt b es) Z m).bind λ w m=>D.truthy m w:=rfl
theorem qD(a:E)(t:String):ao C (.isI a t) Z m=((ao C a Z m).bind λ x m=>match iD m t x with
   |some b=>.ok (.bl b) m
   |none=>.no):=rfl
theorem mU(a:E)(t:String):aR C (.isI a t) Z m=(ao C (.isI a t) Z m).bind λ w m=>D.truthy m w:=rfl
theorem iK(o:E)(name:String)(es:Es):ao C (.meth o name es) Z m=((ao C o Z m).bind λ x m=>if kdOf m x=sN name then (aH C es Z m).bind λ ws m=>bT x name ws m else .no):=rfl
theorem iL(o:E)(name:String)(es:Es):aR C (.meth o name es) Z m=(ao C (.meth o name es) Z m).bind λ w m=>D.truthy m w:=rfl
theorem iM(g:G):aR C (.comp g) Z m=(ao C (.comp g) Z m).bind λ w m=>D.truthy m w:=rfl
theorem oX(a:E):ao C (.lrng a) Z m=((ao C a Z m).bind λ x m=>match x with
   |.int j=>if 0<=j/\j<=1000000 then new (.lst ((List.range j.toNat).map λ i=>W.int (i:Nat))) m else .no
   |_=>.no):=rfl
theorem iN(a:E):aR C (.lrng a) Z m=(ao C (.lrng a) Z m).bind λ w m=>D.truthy m w:=rfl
theorem bO(u:U)(a:E):ao C (.fus u a) Z m=((ao C a Z m).bind λ x m=>bX u x m):=rfl
theorem iO(u:U)(a:E):aR C (.fus u a) Z m=(ao C (.fus u a) Z m).bind λ w m=>D.truthy m w:=rfl
theorem mV(a:E):aR C (.frz a) Z m=(ao C (.frz a) Z m).bind λ w m=>D.truthy m w:=rfl
theorem qE(a:E)(f:Str):ao C (.fld a f) Z m=((ao C a Z m).bind λ x m=>qm C.cs x f m):=rfl
theorem mW(a:E)(f:Str):aR C (.fld a f) Z m=(ao C (.fld a f) Z m).bind λ w m=>D.truthy m w:=rfl
theorem oY(c:Str)(es:Es):ao C (.make c es) Z m=((aH C es Z m).bind λ ws m=>vc C c ws m):=rfl
theorem iP(c:Str)(es:Es):aR C (.make c es) Z m=(ao C (.make c es) Z m).bind λ w m=>D.truthy m w:=rfl
theorem qF(o:E)(f:Str)(es:Es):ao C (.mth o f es) Z m=((ao C o Z m).bind λ x m=>match qp C.cs x f m with
   |some i=>(aH C es Z m).bind λ ws m=>C.call i (x::ws) m
   |none=>.no):=rfl
theorem mX(o:E)(f:Str)(es:Es):aR C (.mth o f es) Z m=(ao C (.mth o f es) Z m).bind λ w m=>D.truthy m w:=rfl
theorem kI :ao C (.set0) Z m=(new (.set []) m):=rfl
theorem iQ :aR C (.set0) Z m=(ao C (.set0) Z m).bind λ w m=>D.truthy m w:=rfl
theorem jH(a b:E):aR C (.and a b) Z m=((aR C a Z m).bind λ c m=>if c then aR C b Z m else .ok false m):=rfl
theorem iR(a b:E):aR C (.or a b) Z m=((aR C a Z m).bind λ c m=>if c then .ok true m else aR C b Z m):=rfl
theorem fF(a:E):aR C (.not a) Z m=((aR C a Z m).bind λ c m=>.ok (!c) m):=rfl
theorem dW(c:CmpOp)(a b:E):aR C (.cmp c a b) Z m=((ao C a Z m).bind λ x m=>(ao C b Z m).bind λ y m=>aK c x y m):=rfl
theorem eB(e d:CmpOp)(a b c:E):aR C (.chain e d a b c) Z m=((ao C a Z m).bind λ x m=>(ao C b Z m).bind λ y m=>(aK e x y m).bind λ k m=>
   if k then (ao C c Z m).bind λ z m=>aK d y z m else .ok false m):=rfl
theorem jI(t a b:E):aR C (.ife t a b) Z m=((aR C t Z m).bind λ c m=>if c then aR C a Z m else aR C b Z m):=rfl
theorem bh:aH C .nil Z m=.ok [] m:=rfl
theorem aN(e:E)(es:Es):aH C (.cons e es) Z m=((ao C e Z m).bind λ w m=>(aH C es Z m).bind λ ws m=>.ok (w::ws) m):=rfl
theorem Dr:vd C .none Z m=.ok none m:=rfl
theorem Ds(e:E):vd C (.some e) Z m=((ao C e Z m).bind λ w m=>match w with
   |.int i=>.ok (some i) m
   |_=>.no):=rfl
theorem aU{J:Type}{a:α}{m:Mem}{f:α->Mem->R J}:(R.ok a m).bind f=f a m:=Eq.trans rfl rfl
theorem iS(g:G):ao C (.comp g) Z m=((f9 C g Z m []).bind λ p m=>new (.lst p.1) m):=rfl
theorem jJ(a:E):ao C (.frz a) Z m=u6 m (ao C a Z m):=rfl
theorem AY(a:E):gE C (.rng a) Z m=(ao C a Z m).bind λ x m=>match x with
  |.int j=>if -(2^62)<=j/\j<2^62 then .ok (.rng 0 j.toNat) m else .no
  |_=>.no:=rfl
theorem AZ(a:E):gE C (.enm a) Z m=(ao C a Z m).bind λ x m=>match srcOf m x with
  |some s=>.ok (.enm s) m
  |none=>.no:=rfl
theorem GW{a:List W}(e:E):f9 C (.elt e) Z m a=(ao C e Z m).bind λ w m=>if a.length<lim then .ok (a++[w],Z) m else .no:=rfl
theorem GX{a:List W}(t:T)(js:List Nat)(it:E)(ifs:Es)(b:G):f9 C (.gen t js it ifs b) Z m a=(gE C it Z m).bind λ s m=>bC s.get t (fun Z m=>aX C ifs Z m) (fun Z m a=>f9 C b Z m a) (s.len m) 0 (fW js Z) m a:=rfl
theorem GY:aX C .nil Z m=.ok true m:=rfl
theorem Du(e:E)(es:Es):aX C (.cons e es) Z m=(aR C e Z m).bind λ b m=>if b then aX C es Z m else .ok false m:=rfl
def bW:=And.intro (@bh) (@aN)
def A1:=And.intro (@Dr) (@Ds)
def jK:=And.intro (@GW) (@GX)
def g6:=And.intro (@GY) (@Du)
end
mutual
def cN(C:Cx):A->W->Loc->Mem->R Loc
 |.pt t,w,Z,m=>match aG t w Z with
  |some Z=>.ok Z m
  |none=>.no
 |.sub o i,w,Z,m=>(ao C o Z m).bind λ x m=>(ao C i Z m).bind λ y m=>(mD x y w m).bind λ _ m=>.ok Z m
 |.tup l,w,Z,m=>match bM m w with
  |some xs=>cJ C l xs Z m
  |none=>.no
def cJ(C:Cx):As->List W->Loc->Mem->R Loc
 |.nil,xs,Z,m=>match xs with
  | []=>.ok Z m
  |_::_=>.no
 |.cons a l,xs,Z,m=>match xs with
  | []=>.no
  |x::xs=>(cN C a x Z m).bind fun Z m=>cJ C l xs Z m
end
def qG(c:Operator)(x y:W)(m:Mem):R W:=match c with
 |.Add=>match x,y with
  |.int a,.int b=>.ok (.int (a+b)) m
  |_,_=>.no
 |.Sub=>match x,y with
  |.int a,.int b=>.ok (.int (a - b)) m
  |_,_=>.no
 |_=>.no
def outF:F->Mem->R W
 |.nx _,m=>.ok .non m
 |.rt w,m=>.ok w m
 |_,_=>.no
def qH(C:Cx)(h:Dk)(Z:Loc)(w:W)(m:Mem):R F:=match h with
 |.drop=>.ok (.nx Z) m
 |.ret=>.ok (.rt w) m
 |.asg t=>(cN C t w Z m).bind fun Z m=>.ok (.nx Z) m
def E5(C:Cx)(h:Dk)(Z:Loc)(b:Option W)(a:F)(m:Mem):R F:=match a with
 |.rz c d _=>.ok (.rz c d Z) m
 |a=>(outF a m).bind λ w m=>match b with
  |none=>qH C h Z w m
  |some x=>match w with
   |.non=>qH C h Z x m
   |_=>.no
def GZ(c:Str):Option (Str×W)->O
 |none=>.exc c "" []
 |some (f,w)=>.exc c f [w]
def sP(i:Option Nat)(w:Option W)(Z:Loc):Loc:=match i with
 |none=>Z
 |some i=>Z.set i w
def gone(i:Option Nat)(a:F)(m:Mem):R F:=match a with
 |.nx Z=>.ok (.nx (sP i none Z)) m
 |.bk Z=>.ok (.bk (sP i none Z)) m
 |.ct Z=>.ok (.ct (sP i none Z)) m
 |.rt w=>.ok (.rt w) m
 |.rz _ _ _=>.no
mutual
def aT(C:Cx):S->Loc->Mem->R F
 |.asg t e,Z,m=>(ao C e Z m).bind λ w m=>(cN C t w Z m).bind fun Z m=>.ok (.nx Z) m
 |.aug i op e,Z,m=>match Z[i]? with
  |some (some x)=>(ao C e Z m).bind λ y m=>(qG op x y m).bind λ z m=>.ok (.nx (Z.set i (some z))) m
  |_=>.no
 |.expr e,Z,m=>(ao C e Z m).bind λ _ m=>.ok (.nx Z) m
 |.ret e,Z,m=>(ao C e Z m).bind λ w m=>.ok (.rt w) m
 |.retN,_,m=>.ok (.rt .non) m
 |.ife t a b,Z,m=>(aR C t Z m).bind λ c m=>if c then aD C a Z m else aD C b Z m
 |.for_ t it b,Z,m=>(gE C it Z m).bind λ s m=>dS s.get t (fun Z m=>aD C b Z m) (s.len m) 0 Z m
 |.while_ t b,Z,m=>dU (fun Z m=>aR C t Z m) (fun Z m=>aD C b Z m) C.fuel Z m
 |.pass,Z,m=>.ok (.nx Z) m
 |.brk,Z,m=>.ok (.bk Z) m
 |.cont,Z,m=>.ok (.ct Z) m
 |.never,_,_=>.no
 |.fas o f e,Z,m=>(ao C e Z m).bind λ w m=>(ao C o Z m).bind λ x m=>(u9 C.cs x f w m).bind λ _ m=>.ok (.nx Z) m
 |.rais c f e,Z,m=>(ao C e Z m).bind λ w m=>.ok (.rz c (f.map λ g=>(g,w)) Z) m
 |.xc h none i es,Z,m=>(aH C es Z m).bind λ ws m=>(C.flow i ws m).bind λ d m=>E5 C h Z none d m
 |.xc h (some c) i es,Z,m=>(aH C es Z m).bind λ ws m=>(C.flow i (.ref m.length::ws) (m++[.ins c []])).bind λ d m1=>E5 C h Z @(.ref m.length) d m1
 |.tr b cs i h,Z,m=>(aD C b Z m).bind λ d m=>match d with
  |.rz c j Z1=>if cs.contains c then (aD C h (sP i @(.ref m.length) Z1) (m++[GZ c j])).bind λ d m=>gone i d m else .no
  |d=>.ok d m
def aD(C:Cx):Ss->Loc->Mem->R F
 |.nil,Z,m=>.ok (.nx Z) m
 |.cons s r,Z,m=>(aT C s Z m).bind λ f m=>match f with
  |.nx Z=>aD C r Z m
  |f=>.ok f m
end
section
variable{C:Cx}{Z:Loc}{m:Mem}
theorem dX(t:A)(e:E):aT C (.asg t e) Z m=(ao C e Z m).bind λ w m=>(cN C t w Z m).bind fun Z m=>.ok (.nx Z) m:=rfl
theorem jL(i:Nat)(a:Operator)(e:E):aT C (.aug i a e) Z m=match Z[i]? with
  |some (some x)=>(ao C e Z m).bind λ y m=>(qG a x y m).bind λ z m=>.ok (.nx (Z.set i (some z))) m
  |_=>.no:=rfl
theorem iT(e:E):aT C (.expr e) Z m=(ao C e Z m).bind λ _ m=>.ok (.nx Z) m:=rfl
theorem jM(e:E):aT C (.ret e) Z m=(ao C e Z m).bind λ w m=>.ok (.rt w) m:=rfl
theorem iU:aT C .retN Z m=.ok (.rt .non) m:=rfl
theorem jN(t:E)(a b:Ss):aT C (.ife t a b) Z m=(aR C t Z m).bind λ c m=>if c then aD C a Z m else aD C b Z m:=rfl
theorem iV(t:T)(it:E)(b:Ss):aT C (.for_ t it b) Z m=(gE C it Z m).bind λ s m=>dS s.get t (fun Z m=>aD C b Z m) (s.len m) 0 Z m:=rfl
theorem fG(t:E)(b:Ss):aT C (.while_ t b) Z m=dU (fun Z m=>aR C t Z m) (fun Z m=>aD C b Z m) C.fuel Z m:=rfl
theorem iW:aT C .pass Z m=.ok (.nx Z) m:=rfl
theorem mY:aT C .brk Z m=.ok (.bk Z) m:=rfl
theorem iX:aT C .cont Z m=.ok (.ct Z) m:=rfl
theorem fH:aT C .never Z m=.no:=rfl
theorem mZ(o:E)(f:Str)(e:E):aT C (.fas o f e) Z m=(ao C e Z m).bind λ w m=>(ao C o Z m).bind λ x m=>(u9 C.cs x f w m).bind λ _ m=>.ok (.nx Z) m:=rfl
theorem ve(c:Str)(f:Option Str)(e:E):aT C (.rais c f e) Z m=(ao C e Z m).bind λ w m=>.ok (.rz c (f.map λ g=>(g,w)) Z) m:=rfl
theorem vf(h:Dk)(i:Nat)(es:Es):aT C (.xc h none i es) Z m=(aH C es Z m).bind λ ws m=>(C.flow i ws m).bind λ a m=>E5 C h Z none a m:=rfl
theorem vg(h:Dk)(c:Str)(i:Nat)(es:Es):aT C (.xc h (some c) i es) Z m=(aH C es Z m).bind λ ws m=>(C.flow i (.ref m.length::ws) (m++[.ins c []])).bind λ a m1=>E5 C h Z @(.ref m.length) a m1:=rfl
theorem G0(b:Ss)(d:List Str)(i:Option Nat)(h:Ss):aT C (.tr b d i h) Z m=(aD C b Z m).bind λ a m=>match a with
  |.rz c e Z1=>if d.contains c then (aD C h (sP i @(.ref m.length) Z1) (m++[GZ c e])).bind λ a m=>gone i a m else .no
  |a=>.ok a m:=rfl
theorem iY:aD C .nil Z m=.ok (.nx Z) m:=rfl
theorem dD(s:S)(r:Ss):aD C (.cons s r) Z m=(aT C s Z m).bind λ f m=>match f with
  |.nx Z=>aD C r Z m
  |f=>.ok f m:=rfl
end
set_option genInjectivity false in
structure Fn where
 np:Nat
 nl:Nat
 body:Ss
def cK(n:Nat)(ws:List W):Loc:=ws.map some++List.replicate (n - ws.length) none
end D
namespace L2
open PySem PySem.Spec PyProof.Rows List
variable{C fa:Addr}{E' xe:Value->Shared->Prop}{H:Hp}{K:ae}{M:Model}{P:Program}{Q:Unit->Shared->Prop}{X:Cx}{bm:List Value}{e fl:Value}{h:Heap}{i:Option Value}{o:Obj}{aa:List (Addr×Obj)}{s:Shared}{tk:Tok}{w:World}{Y:St}
def gb(h:Heap)(e:Addr)(cls:Value)(c:Option Addr)(tb:Value):Prop:=∃a b,h.get? e=some a/\a.cls=cls/\a.dict=c/\a.data=.fields b/\b[1]?=some tb
def yb(h:Heap)(T:Addr)(fl:Value):Prop:=∃b a,h.get? T=some b/\b.data=.fields a/\a[3]?=some fl
def yV(h:Heap)(e:Addr)(tb:Value):Prop:=tb=.none\/∃T,tb=.ref T/\yb h T .none/\T≠e
section
variable{M:Model}{A:Around}{E:Value->Shared->Prop}{s:Shared}{base:Heap}{env:Env}{outer:List Env}{L e:Addr}{cls tb:Value}{od:Option Addr}
theorem gb.ua{l:List Env}(f:s.heap.FunFrames base l)(g:gb s.heap e cls od tb):e∉l.filterMap (·.frame):=λ d=>by
 let⟨_,o,b,a⟩:=f.mem d;let⟨m,c,k,_,_,j,_⟩:=g;rw[k] at b;cases b;exact a c j
theorem yb.ua{l:List Env}{T:Addr}(f:s.heap.FunFrames base l)(g:yb s.heap T fl):T∉l.filterMap (·.frame):=λ d=>by
 let⟨_,o,b,a⟩:=f.mem d;let⟨m,c,k,j,_⟩:=g;rw[k] at b;cases b;exact a c j
theorem m8{F:Value}{c:Bool}(p:A.frames=some (env::outer))(u:s.heap.FunFrames base (env::outer))(J:env.frame=some L)(v:gb s.heap e cls od tb)
  (h:∀h' T,(∀b o,s.heap.get? b=some o->b∉(env::outer).filterMap (·.frame)->b≠e->h'.get? b=some o)->(∀b o,s.heap.get? b=some o->b≠e->∃m,h'.get? b=some {o with slots:=m})->
   gb h' e cls od (.ref T)->yb h' T (rawInt L)->s⁻¹<=T->Q () {s with heap:=h'}) :
  wpAny M A (frameOf env >>= λ a=>entryPlaceOf L c >>= λ k=>EntryCells.newEntry F a .none (rawInt L) .none k >>= λ b=>setField (.ref e) 1 b) Q E s:=by
 have U:=v.ua u;let⟨t,G,S,R,O,z,y⟩:=v;refine Mu (wpAny_frameOf_fun p u J λ g l=>?_);refine Mu (wpAny_entryPlaceOf λ k f=>?_);unfold EntryCells.newEntry newFields;refine Mu (Np ?_ (f.sizeOk5 _ _ _ _ _));have D:g.get? e=some t:=(l.2.1 e U).trans S;generalize j:({cls:=.type "traceback",dict:=none,data:=.fields ([F,.ref L,.none,rawInt L,.none]++(if k.isEmpty then List.replicate 6 Value.none else k)).toArray}:Obj)=n;have B:(g.push n).get? e=some t:=Mv n D;have N:g.objs.size≠e:=NB (Mx D);refine O8 B z (NW.mp y).1 (h _ g.objs.size (λ b o r I d=>?_) (λ b o r d=>?_) ?_ ?_ ?_)
 .rw[NF _ _ (Ne.symm d)];exact Mv _ ((l.2.1 b I).trans r)
 .let⟨m,q⟩:=l.2.2 b o r;exact⟨m,by rw[NF _ _ (Ne.symm d)];exact Mv _ q⟩
 .have x:=Ow z (·.setIfInBounds 1 (Value.ref g.objs.size));refine⟨_,_,NY _ B (OJ x),(Obj.cls_mapFields _ _).trans R,?_,x,?_⟩
  .rw[<-O];unfold Obj.mapFields;split<;>rfl
  .have:1<G.size:=(NW.mp y).1;simp[this]
 .refine⟨n,_,?_,by rw[<-j],?_⟩
  .rw[NF _ _ (Ne.symm N)];exact MC g (by rw[<-j];rfl)
  .first | (simp;done) | (rcases f with rfl | ⟨_,_,_,_,_,_,_,rfl⟩<;>simp)
 .exact Qi l.1.symm
theorem vh{T:Addr}{x:Value}(j:yb s.heap T fl)(h:∀h',h'.objs.size=s⁻¹->(∀b,b≠T->h'.get? b=s.heap.get? b)->yb h' T x->Q () {s with heap:=h'}):wpAny M A (setField (.ref T) 3 x) Q E s:=by
 let⟨l,g,f,d,c⟩:=j;have a:=Ow d (·.setIfInBounds 3 x);refine O8 f d (NW.mp c).1 (h _ (Heap.size_after_update ..) (λ b k=>NF _ _ (Ne.symm k)) ⟨_,_,NY _ f (OJ a),a,?_⟩);have:3<g.size:=(NW.mp c).1;simp[this]
theorem qI(f:A.frames=some (env::outer))(r:s.heap.FunFrames base (env::outer))(t:env.frame=some L)(D:gb s.heap e cls od tb)(Z:yV s.heap e tb)
  (h:∀h' T,(∀b o,s.heap.get? b=some o->b∉(env::outer).filterMap (·.frame)->b≠e->tb≠.ref b->h'.get? b=some o)->(∀b o,s.heap.get? b=some o->b≠e->tb≠.ref b->∃R,h'.get? b=some {o with slots:=R})->
   gb h' e cls od (.ref T)->yb h' T (rawInt L)->s⁻¹<=T->Q () {s with heap:=h'}):wpAny M A (noteFrame (.ref e) env) Q E s:=by
 let⟨U,J,I,h2,h3,G,F⟩:=id D;unfold noteFrame;erw[t];refine Mu (Ni I G F ?_);rcases Z with rfl | ⟨T,rfl,x,JM⟩
 .rw[MN 'd'];exact m8 f r t D λ h' T p n m l k=>h h' T (λ b o c a d _=>p b o c a d) (λ b o c a _=>n b o c a) m l k
 .let⟨oT,N,B,y,O⟩:=id x;rw[MO (show (Value.ref T != Value.none)=true from by simp)];refine Mu (Ni B y O ?_);rw[MN (show ¬((Value.none==rawInt L)=true) from by simp[rawInt])];refine Mu (vh x λ g V j kT=>?_);have nT:=x.ua r;have q:g.FunFrames base (env::outer):=r.of_keeps λ b o v hn=>⟨o,by rw[j b λ z=>by subst z;rw[B] at v;cases v;exact hn N y];exact v,rfl⟩;have u:gb g e cls od (.ref T):=⟨U,J,by rw[j e (Ne.symm JM)];exact I,h2,h3,G,F⟩;refine m8 (s:={s with heap:=g}) f q t u λ h' T' p n m l k=>h h' T' (λ b o c a d S=>?_) (λ b o c a d=>?_) m l ?_
  .exact p b o (by rw[j b λ z=>S (by rw[z])];exact c) a d
  .exact n b o (by rw[j b λ z=>d (by rw[z])];exact c) a
  .rw[<-V];exact k
theorem kJ{T:Addr}(c:gb s.heap e cls od (.ref T))(a:yb s.heap T fl)(h:∀h',h'.objs.size=s⁻¹->(∀b,b≠T->h'.get? b=s.heap.get? b)->yb h' T .none->Q () {s with heap:=h'}):wpAny M A (setFlight (.ref e) none) Q E s:=by
 let⟨k,j,g,m,l,f,d⟩:=c;unfold setFlight;refine Mu (Ni g f d ?_);rw[MO (show (Value.ref T != Value.none)=true from by simp)];exact vh a h
theorem vj(m:A.frames=some (env::outer))(G:s.heap.FunFrames base (env::outer))(I:env.frame=some L)(r:gb s.heap e cls od tb)(F:yV s.heap e tb)
  (h:∀h' T,(∀b o,s.heap.get? b=some o->b∉(env::outer).filterMap (·.frame)->b≠e->tb≠.ref b->h'.get? b=some o)->(∀b o,s.heap.get? b=some o->b≠e->tb≠.ref b->∃u,h'.get? b=some {o with slots:=u})->
   gb h' e cls od (.ref T)->yb h' T .none->s⁻¹<=T->Q () {s with heap:=h'}):wpAny M A (leaving env (.ref e)) Q E s:=by
 unfold leaving;refine Mu (qI m G I r F λ g T B y p x n=>?_);refine kJ p x λ h' _ l D=>?_;have k:∀b o,s.heap.get? b=some o->b≠T:=λ b o q=>MD (MG (Mx q) n);have J:T≠e:=λ z=>by
  let⟨j,_,q,_⟩:=r;exact k e j q z.symm
 refine h h' T (λ b o a d c f=>by rw[l b (k b o a)];exact B b o a d c f) (λ b o a d c=>by rw[l b (k b o a)];exact y b o a d c) ?_ D n;let⟨j,t,a,d,c,f,v⟩:=p;exact⟨j,t,by rw[l e (Ne.symm J)];exact a,d,c,f,v⟩
end
def nc(g:Heap)(H:Hp)(h:Heap)(a:Addr)(cls:Value)(d:Option Addr):Prop:=
 ∃c,gb h a cls d c/\yV h a c/\g.get? a=none/\H a=none/\(∀T,c=.ref T->g.get? T=none/\H T=none)/\∀b o,g.get? b=some o->∃f,h.get? b=some f
def iZ(P:Program)(w:World):qb:=λ b H s E e c=>∃a d g f,e=.ref a/\c.os=s.os/\AllBare c.gens/\Un (frs b) [] H f s.heap c.heap/\cZ P w f c.heap/\nc s.heap f c.heap a d g/\E d g f
theorem G1:Passes (iZ X.prog X.w) X E0:=λ _ _ _ _ _ _ _ h=>by
 let⟨_,_,_,_,_,_,_,_,_,_,z⟩:=h;exact False.elim z
section
variable{X:Cx}{aa:List (Addr×Obj)}{Y:St}{H:Hp}{s s':Shared}{E:XK}{e:Value}{a:Addr}{cls:Value}{od:Option Addr}
theorem Inv.Dv(I:Inv X aa Y H s)(h:iZ X.prog X.w X.stack H s E e s'):∃a cls od d,e=.ref a/\Inv X aa Y d s'/\nc s.heap d s'.heap a cls od/\E cls od d:=by
 let⟨a,cls,od,d,rfl,j,c,g,f,x,q⟩:=h;exact⟨a,cls,od,d,rfl,I.AF (ch:=[]) j g f c λ b z=>absurd z 's',x,q⟩
theorem left(hx:X.ex=[])(l:X.stack=X.env::X.outer)(r:X.env.frame=some X.env.locals)(I:Inv X aa Y H s)(x:nc X.s₀.heap H s.heap a cls od)
  (hQ:∀h',Un (frs X.outer) [] X.H₀ H X.s₀.heap h'->cZ X.prog X.w H h'->nc X.s₀.heap H h' a cls od->Q () {s with heap:=h'}):wpAny M X.A (leaving X.env (.ref a)) Q E' s:=by
 let⟨V,U,h2,S,R,O,h6⟩:=x;have hl:s.heap.FunFrames X.base (X.env::X.outer):=by rw[<-l];exact I.stack
 have fr:∀b∈(X.env::X.outer).filterMap (·.frame),H b=none:=λ b d=>I.gW b (by rw[l];exact d);refine vj (base:=X.base) (L:=X.env.locals) (by rw[<-l];exact I.ok.frames) hl r U h2 λ h' T N B k3 Z y=>?_;have v:∀b o,X.s₀.heap.get? b=some o->b≠a/\V≠.ref b/\b≠X.env.locals:=λ b o q=>⟨λ z=>(by rw[z,S] at q;cases q),λ z=>(by rw[(O b z).1] at q;cases q),MD (MG (Mx q) I.ok.above)⟩;have m:∀b,b∉X.ex:=λ b=>by rw[hx];simp
 have J:∀b u o,H b=some u->s.heap.get? b=some o->h'.get? b=some o:=λ b u o d q=>N b o q (λ z=>by rw[fr b z] at d;cases d) (λ z=>by rw[z,R] at d;cases d) λ z=>by rw[(O b z).2] at d;cases d
 have D:cZ X.prog X.w H h':=λ b u d=>(I.hok b u d).stay (λ c o F q=>by
  rcases F with rfl | F
  .exact J _ _ _ d q
  .exact J _ _ _ F q) (λ _ q=>q) λ _ _ q=>q
 refine hQ h' ⟨λ b o q n d _=>?_,λ b o q n d _=>?_,λ b o q n _=>I.base.free b o q n (m b),λ b o q _=>?_,I.base.tups,I.base.dM,I.base.eN⟩ D ⟨.ref T,k3,.inr ⟨T,rfl,Z,λ z=>?_⟩,S,R,λ T' e=>?_,λ b o q=>?_⟩
 .let⟨k,j,t⟩:=v b o q;refine N b o (I.base.keep b o q n d (m b)) (λ z=>?_) k j;rw[OY,r] at z;rcases MJ.mp z with z | z
  .exact t z
  .exact d z
 .let⟨k,j,t⟩:=v b o q;let⟨sl,g⟩:=I.base.slot b o q n d (m b);let⟨f,p⟩:=B b _ g k j;exact⟨f,p⟩
 .let⟨k,j,t⟩:=v b o q;let⟨G,g⟩:=I.base.there b o q (m b);let⟨f,p⟩:=B b _ g k j;exact⟨_,p⟩
 .subst z;let⟨oe,_,q,_⟩:=U;exact absurd (Mx q) (Pz.mpr y)
 .cases e;refine⟨?_,I.hok.fresh y⟩;cases z:X.s₀.heap.get? T with
  |none=>rfl
  |some o=>
   let⟨G,g⟩:=I.base.there T o z (m T);exact absurd (Mx g) (Pz.mpr y)
 .let⟨k,j,t⟩:=v b o q;let⟨G,g⟩:=I.base.there b o q (m b);let⟨f,p⟩:=B b _ g k j;exact⟨_,p⟩
end
section
variable{prog:Program}{w:World}{A:Around}{R:Result->Shared->Prop}{h:Heap}{g:Array GenState}{d:Drawn}{t:Nat}{os:OsState}
variable{nm q:Str}{C N f:Addr}{bs bm bmB:List Value}{hdct:Bool}{sn:List Str}{sub:List Value}{ab:Bool}{col:Option Bool}{dd:Option Addr}{k0 k1 k2 k3 k5:Option Value}{B Bn newId nid initId inN:String}{bmN:List Value}
abbrev jO(a:List Value):Obj:={cls:=.type "tuple",data:=.seq a.toArray}
abbrev cL(C t:Addr):Obj:={cls:=.ref C,data:=.fields #[.ref t,.none,.none,.none,.bool false,.none]}
theorem Dw(y:ExcBaseFacts Bn newId inN bmN)(m:bmB.contains (.type Bn)=true)(F:ExcBaseFacts B nid initId bmB)(T:OwnTail h bmB bm){D:Str->Option Value}{a:List Value}{Q:Fin->Shared->Prop}{E:Value->Shared->Prop}
  (l:h.get? C=@(excClassObj nm q C N bs bm hdct sn sub ab col dd k0 k1 k2 k3 k5 newId)) (J:h.Ns N D) (p:D "__init__"=@(.ref f)) (L:∀c,PySem.W.Looks (model prog w) h (bindSpecial (.ref f) c) (.ref f,[c])) (hrest:a.length<=sizeLine)
  (I:codeAny (model prog w) A (.call (.ref f) ⟨.ref (h.objs.size+1)::a,[]⟩) (λ r n=>match r with | .ok (.ret v)=>v=.none/\Q (.done (.ret (.ref (h.objs.size+1)))) n | .ok _=>False | .error e=>E e n) ⟨(h.push {cls:=.type "tuple",data:=.seq a.toArray}).push {cls:=.ref C,data:=.fields #[.ref h.objs.size,.none,.none,.none,.bool false,.none]},g,d,t,os⟩) :
  wpAny (model prog w) A (Builtin.«type.__call__» ⟨.ref C::a,[]⟩) Q E ⟨h,g,d,t,os⟩:=by
 repeat (first | with_reducible refine MM l ?_ | with_reducible refine wpAny_madeBy_exc l ?_ | wp_step)
 refine codeAny_call_builtin_code (Ov _ y.quiet) (wpAny_check_new_subU y m T l ?_);refine codeAny_exc_new_subU y m F T l ?_ hrest;show wpAny _ _ _ _ _ _;have k:∀b o,h.get? b=some o->((h.push {cls:=.type "tuple",data:=.seq a.toArray}).push {cls:=.ref C,data:=.fields #[.ref h.objs.size,.none,.none,.none,.bool false,.none]}).get? b=some o:=λ b o e=>Mv _ (Mv _ e);have G:=k _ _ l;have u:=J.keeps k;have j:((h.push {cls:=.type "tuple",data:=.seq a.toArray}).push {cls:=.ref C,data:=.fields #[.ref h.objs.size,.none,.none,.none,.bool false,.none]}).get? (h.objs.size+1)=some {cls:=.ref C,data:=.fields #[.ref h.objs.size,.none,.none,.none,.bool false,.none]}:=by heap_get
 have x:(Value.ref C::bm).contains (.ref C)=true:=by simp
 have O:=T.keeps k;unfold isInstance
 repeat (first | with_reducible refine MM j ?_ | (with_reducible refine NI G ?_;rw[x]) | wp_step)
 show wpAny _ _ (typeLookup (.ref C) _) _ _ _;refine wpAny_typeLookup_tail G u O F.mroIs F.init.lookup ?_;rw[p];refine Nl (Mu (((L (.ref (h.objs.size+1))).keeps k).here ?_));refine Mu (O4 (NC I λ r n z=>?_));rcases r with e | (v | _ | _ | _)<;>first | exact z | exact z.elim | skip;let⟨rfl,z⟩:=z
 wp_walk
 exact z
theorem vn{E:Value->Shared->Prop}{Q:Value->Shared->Prop}(x:ExcBaseFacts Bn newId inN bmN)(l:bmB.contains (.type Bn)=true)(F:ExcBaseFacts B nid initId bmB)(T:OwnTail h bmB bm){m:Str->Option Value}{a:List Value}
  (c:h.get? C=@(excClassObj nm q C N bs bm hdct sn sub ab col dd k0 k1 k2 k3 k5 newId)) (p:h.Ns N m) (k:m "__init__"=@(.ref f)) (u:∀b,PySem.W.Looks (model prog w) h (bindSpecial (.ref f) b) (.ref f,[b])) (hrest:a.length<=sizeLine)
  (n:codeAny (model prog w) (A.under (.builtin "type.__call__" ⟨.ref C::a,[]⟩)) (.call (.ref f) ⟨.ref (h.objs.size+1)::a,[]⟩) (λ r j=>match r with | .ok (.ret v)=>v=.none/\Q (.ref (h.objs.size+1)) j | .ok _=>False | .error e=>E e j) ⟨(h.push {cls:=.type "tuple",data:=.seq a.toArray}).push {cls:=.ref C,data:=.fields #[.ref h.objs.size,.none,.none,.none,.bool false,.none]},g,d,t,os⟩) :
  wpAny (model prog w) A (call (.ref C) a) Q E ⟨h,g,d,t,os⟩:=by
 have G:=tc_lookup;have D:=tc_bind (.ref C);have y:(⟨h,g,d,t,os⟩:Shared).TypeIs (.ref C) "type":=⟨_,c,rfl⟩;refine O4 (PK ?_);show wpAny _ _ (callAny (.ref C) _) _ _ _
 repeat (any_goals (first | assumption | with_reducible refine MM c ?_ | wp_step))
 refine⟨rfl,?_⟩;refine codeAny_call_builtin_at (Ov _ 'k') entry_typeCall (wpAny_check_type_call_sub c (Dw x l F T c p k u hrest (NC n λ r j z=>?_)));rcases r with e | (v | _ | _ | _)<;>exact z
end
section
variable{prog:Program}{w:World}{A:Around}{E:Value->Shared->Prop}{h:Heap}{g:Array GenState}{d:Drawn}{t:Nat}{os:OsState}
variable{nm q:Str}{C N x:Addr}{bs bm bmB:List Value}{sn:List Str}{sub:List Value}{ab:Bool}{col:Option Bool}{dd:Option Addr}{k0 k1 k2 k3 k5:Option Value}{B newId sa owner:String}{name:Str}{v:Value}{o:Obj}{vs:Array Value}
theorem oZ(T:OwnTail h bmB bm){b:Value}{a:Str}(e:refuseLoop b a bmB=pure ()):refuseLoop b a bm=pure ():=by
 induction T with
 |base=>exact e
 |own _ _ _ _ c=>rw[refuseLoop_ref];exact c
theorem o4{Q:Fin->Shared->Prop}(SF:StoreFacts B bmB sa owner)(T:OwnTail h bmB bm)
  (hC:h.get? C=@(excClassObj nm q C N bs bm true sn sub ab col dd k0 k1 k2 k3 k5 newId)) (F:PySem.W.Looks (model prog w) h (typeLookup (.ref C) name) none)
  (n:h.get? x=some o) (hc:o.cls=.ref C) (J:o.dict=none) (m:o.data=.fields vs)
  (Z:∀h' p,h'.get? x=some {o with dict:=some h.objs.size}->h'.Ns1 h.objs.size (λ y=>if y=name then some v else none)->(∀b u,b≠x->h.get? b=some u->h'.get? b=some u)->Q (.done (.ret .none)) ⟨h',g,d,p,os⟩) :
  wpAny (model prog w) A (Builtin.«object.__setattr__» ⟨[.ref x,.str name tk,v],[]⟩) Q E ⟨h,g,d,t,os⟩:=by
 have j:=oZ T (SF.passes (.ref x));unfold Builtin.«object.__setattr__»
 repeat (first | rw[refuse_eq] | (rw[refuseLoop_ref,j]) | (with_reducible refine MM n ?_;rw[hc]) | with_reducible refine wpAny_mroOf_exc hC ?_ | with_reducible refine NL F ?_ | wp_step)
 rw[J,MN (by simp[typeHasDict])];split
 .ext f;cases f
 split
 .ext c f;rw[m] at f;cases f
 .have a:(h.push {cls:=.type "dict",data:=.dict #[]}).get? x=some o:=Mv _ n;have k:x≠h.objs.size:=MD (Mx n);refine Mu (wpAny_alloc' ?_);refine Mu (wpAny_update' a ?_);refine MA ?_;have G:((h.push {cls:=.type "dict",data:=.dict #[]}).update x λ o=>{cls:=o.cls,dict:=some h.objs.size,data:=o.data,slots:=o.slots}).get? h.objs.size
    = some {cls:=.type "dict",data:=.dict #[]}:=
   (Heap.get?_update_ne _ _ _ _ k.symm).trans (Heap.get?_push_at rfl rfl)
  have D:((h.push {cls:=.type "dict",data:=.dict #[]}).update x λ o=>{cls:=o.cls,dict:=some h.objs.size,data:=o.data,slots:=o.slots}).Ns h.objs.size (λ _=>none):=
   ⟨_,#[],_,G,rfl,λ e he=>absurd he 's',λ _=>rfl⟩
  show wpAny _ _ (Builtin.ObjectAttr.storeInDict h.objs.size (.str name tk) name v) _ _ _;unfold Builtin.ObjectAttr.storeInDict Builtin.ObjectAttr.newKeyGuard;refine Mu (MA (Mu (wpAny_nsSet1 (Heap.Ns1.of_empty D) λ h' l S=>?_)));let⟨oD,esD,epD,z,L,O⟩:=l.count (Within.cons name v Within.nil);refine Mu (wpAny_lookBehind z (by rw[L];exact pastItsLine_dict (MQ O (by rw[MX,Qg,NS];lia))) ?_)
  wp_walk
  refine Z h' _ ?_ l (λ b ob R U=>?_)
  .refine(S.2 x k).trans (NY _ a ?_);have I:=(Heap.get?_some_iff.mp n).2;let⟨oc,od,r,V⟩:=o;cases r<;>first | rfl | exact I
  .exact(S.2 b (MD (Mx U))).trans ((Heap.get?_update_ne _ _ _ _ R).trans (Mv _ U))
theorem sQ{a:Value}(b:StoreFacts B bmB sa owner)(T:OwnTail h bmB bm)
  (m:h.get? C=@(excClassObj nm q C N bs bm true sn sub ab col dd k0 k1 k2 k3 k5 newId)) (k:h.get? x=some o) (l:o.cls=.ref C) (c:Q () ⟨h,g,d,t,os⟩) :
  wpAny M A (checkBuiltinCall sa ⟨[.ref x,a,v],[]⟩) Q E ⟨h,g,d,t,os⟩:=by
 have j:(Value.ref C::bm).contains (.type owner)=true:=by rw[OM,T.hasType b.hasOwner,OX]
 have f:=b.args (.ref x) a v;erw[checkBuiltinCall,b.kind,b.split];refine Mu ?_
 .unfold isInstance
  repeat (first | (with_reducible refine MM k ?_;rw[l]) | (with_reducible refine NI m ?_;rw[j]) | wp_step)
  cases hsig:Manifest.signature? sa with
  |none=>exact MA c
  |some sig=>
   erw[argsOk,hsig] at f;have n:Bind.checkArgs sa sig ⟨[.ref x,a,v],[]⟩=pure ():=f;show wpAny M A (Bind.checkArgs sa sig ⟨[.ref x,a,v],[]⟩) Q E _;rw[n];exact MA c
theorem sR(k:StoreFacts B bmB sa owner)(T:OwnTail h bmB bm)
  (r:h.get? C=@(excClassObj nm q C N bs bm true sn sub ab col dd k0 k1 k2 k3 k5 newId)) (D:PySem.W.Looks (model prog w) h (typeLookup (.ref C) "__setattr__") @(.builtin sa)) (m:PySem.W.Looks (model prog w) h (typeLookup (.ref C) name) none)
  (l:h.get? x=some o) (p:o.cls=.ref C) (n:o.dict=none) (j:o.data=.fields vs)
  (z:∀h' f,h'.get? x=some {o with dict:=some h.objs.size}->h'.Ns1 h.objs.size (λ y=>if y=name then some v else none)->(∀b u,b≠x->h.get? b=some u->h'.get? b=some u)->Q () ⟨h',g,d,f,os⟩) :
  wpAny (model prog w) A (setAttr (.ref x) name v) Q E ⟨h,g,d,t,os⟩:=by
 have F:=k.slot.bind (.ref x);unfold setAttr callSpecial? specialOf
 repeat (any_goals (first | assumption | (with_reducible refine MM l ?_;rw[p]) | with_reducible refine NL D ?_ | wp_step))
 refine N2 k.slot.plain k.entry (sQ k T r l p (o4 k T r m l p n j λ h' f a b c=>?_))
 repeat (any_goals (first | assumption | wp_step))
 exact z h' f a b c
end
def VE:List Value:=[.type "ValueError",.type "Exception",.type "BaseException",.type "object"]
structure XC(K:ae)(C:Addr)(bm:List Value)(i:Option Value):Prop where
 ex:∃(nm q:Str) (N:Addr) (bs:List Value) (sn:List Str) (sub:List Value) (ab:Bool) (col:Option Bool) (dd:Option Addr) (k0 k1 k2 k3 k5:Option Value) (Bn newId inN:String) (bmN:List Value) (mN:Str->Option Value),
  K.lookup C=some (excClassObj nm q C N bs bm true sn sub ab col dd k0 k1 k2 k3 k5 newId)/\ExcBaseFacts Bn newId inN bmN/\VE.contains (.type Bn)=true/\mN "__init__"=i/\∀h,K.In h->h.Ns N mN/\OwnTail h VE bm
 sa:PySem.W.findIn K (.ref C) "__setattr__"=@(some (.builtin "object.__setattr__"))
 kp:PySem.W.keepIn K (.ref C)=true
def dY(a:Addr)(o:Obj):HO:=.ext λ h=>h.get? a=some o
theorem o5{a:Addr}(e:h.get? a=some o):aC P w H h a (dY a o):=⟨e,⟨o,e⟩,λ _ _ p k=>k o p⟩
theorem eE{a:Addr}(b:cZ P w H h)(e:H a=@(dY a o)):h.get? a=some o:=(show aC P w H h a (dY a o) from b a _ e).1
def A8(H:Hp)(a:Addr):Hp:=λ b=>if b=a then none else H b
section
variable{X:Cx}{aa:List (Addr×Obj)}{Y:St}{H:Hp}{s:Shared}
theorem Inv.drop{a:Addr}{g:Heap->Prop}(I:Inv X aa Y H s)(e:H a=@(.ext g)):Inv X aa Y (A8 H a) s:=by
 have k:∀b u,b≠a->H b=u->A8 H a b=u:=λ b u n q=>by unfold A8;rw[MN n];exact q
 have z:∀b,H b=none->A8 H a b=none:=λ b q=>by unfold A8;split<;>first | rfl | exact q
 refine⟨I.ok,I.os,I.bare,⟨I.base.keep,I.base.slot,λ b o q n l=>z _ (I.base.free b o q n l),I.base.there,λ b f q=>?_,λ b o u q=>?_,λ b j q=>?_⟩,I.loc,I.cell,z _ I.free,λ x c q=>z _ (I.freeC x c q),λ p t=>?_,λ b u q=>?_,I.len⟩
 .have d:=I.base.tups b f q;exact k b _ (λ y=>by rw[y,e] at d;cases d) d
 .have d:=I.base.dM b o u q;exact k b _ (λ y=>by rw[y,e] at d;cases d) d
 .let⟨m,d⟩:=I.base.eN b j q;exact⟨m,k b _ (λ y=>by rw[y,e] at d;cases d) d⟩
 .let⟨B,A,v⟩:=I.pin p t;exact⟨B,z _ A,v⟩
 .unfold A8 at q;split at q
  .cases q
  .exact(I.hok b u q).stay (λ _ _ _ r=>r) (λ c r=>k c _ (λ y=>by rw[y,e] at r;cases r) r) λ c f r=>k c _ (λ y=>by rw[y,e] at r;cases r) r
theorem sS{a:Addr}{vs:Array Value}{f:Str}{y:V}{u:Value}{A:Around}{E:Value->Shared->Prop}(c:XC X.K C bm i)(nf:PySem.W.findIn X.K (.ref C) f=some none)
  (I:Inv X aa Y H s) (e:H a=@(dY a o)) (hc:o.cls=.ref C) (S:o.dict=none) (D:o.data=.fields vs) (ry:RelV y u)
  (hQ:∀dx Z,H dx=none->dx≠a->Inv X aa Y (upd (upd H a (dY a {o with dict:=some dx})) dx (.xd [(f,y)])) Z->Q () Z):wpAny (model X.prog X.w) A (setAttr (.ref a) f u) Q E s:=by
 let⟨nm,q,N,bs,sn,sub,ab,col,dd,k0,k1,k2,k3,k5,Bn,R,inN,bmN,mN,hC,Fn,hBn,hi,T⟩:=c.ex;have hx:=eE I.hok e;let⟨B,g,d,t,os⟩:=s;refine sR (bmB:=VE) F.store_ValueError (T _ I.bA).2 (I.bA _ _ hC) (Nf I.bA c.sa) (Nf I.bA nf) hx hc S D λ h' O h1 h2 J=>?_;have ne:B.objs.size≠a:=NB (Mx hx);have hn:H B.objs.size=none:=I.hok.fresh (MB _);have k:∀b r,H b=some r->b≠a->upd (upd H a (dY a {o with dict:=some B.objs.size})) B.objs.size (.xd [(f,y)]) b=some r:=λ b r m j=>by rw[ai (au m hn),ai j];exact m
 refine hQ B.objs.size _ hn ne (I.un (t':=O) (h':=h') ⟨λ b p m j _ _=>J b p (λ z=>by rw[z,e] at j;cases j) m,λ b p m j _ _=>⟨p.slots,J b p (λ z=>by rw[z,e] at j;cases j) m⟩,λ b p m j _=>?_,λ b p m _=>?_,λ b xs q=>k b _ q (λ z=>(by rw[z,e] at q;cases q)),
  λ b p v q=>k b _ q (λ z=>(by rw[z,e] at q;cases q)),λ b ps q=>⟨#[],(by rw[k b _ q (λ z=>(by rw[z,e] at q;cases q))];simp)⟩⟩ λ b r q=>?_)
 .rw[ai (MD (Mx m)),ai (λ z=>(by rw[z,e] at j;cases j))];exact j
 .by_cases z:b=a
  .exact⟨_,by rw[z];exact h1⟩
  .exact⟨p,J b p z m⟩
 .by_cases z:b=B.objs.size
  .subst z;rw[aq] at q;cases q;refine⟨_,h2,λ G=>?_⟩;show cC (List.lookup G [(f,y)]) (if G=f then some u else none)
   by_cases l:G=f
   .have U:(G==f)=true:=MZ.mpr l;erw[List.lookup,U,MO l];exact ry
   .have U:(G==f)=false:=NQ.mpr l;erw[List.lookup,U,MN l];trivial
  .rw[ai z] at q
   by_cases L:b=a
   .subst L;rw[aq] at q;cases q;exact o5 h1
   .rw[ai L] at q;refine(I.hok b r q).stay (λ c v x n=>J c v ?_ n) (λ c n=>k c _ n λ l=>by rw[l,e] at n;cases n) λ c xs n=>k c _ n λ l=>by rw[l,e] at n;cases n
    rcases x with rfl | x
    .exact L
    .intro l;rw[l,e] at x;cases x
end
def G2(C:Addr)(g d:TE)(f:Str):TS:=λ D Y H=>d Y H λ y j=>g Y j λ x c=>∃a t,x=.ref a/\c a=some (dY a (cL C t))/\
 ∀b,c b=none->b≠a->D.nx Y (upd (upd c a (dY a {cL C t with dict:=some b})) b (.xd [(f,y)]))
def A9(C:Addr)(f:Str):Sp:=λ c H Q _=>∃a t y,c=[.ref a,y]/\H a=some (dY a (cL C t))/\∀b,H b=none->b≠a->Q .non (upd (upd H a (dY a {cL C t with dict:=some b})) b (.xd [(f,y)]))
section
variable{X:Cx}{o value:Expr}{f:Str}{pos pos':Pos}{ta tv:TE}{C:Addr}{bm:List Value}{i:Option Value}
theorem yX(c:XC X.K C bm i)(m:PySem.W.findIn X.K (.ref C) f=some none)(v:PE X o ta)(n:PE X value tv)(p:swapsWith value @(.Attribute o f pos') pos.line X.env=pure false):PS X (.Assign [.Attribute o f pos'] value pos) (G2 C ta tv f):=by
 intro aa s Y H D I h;refine OI (aJ (n aa s Y H _ I h) λ u d ⟨y,J,G,g,q⟩=>aJ (v aa d Y J _ G q) λ l N ⟨x,O,F,j,a,t,z,A,k⟩=>?_) p;subst z;obtain rfl:l=Value.ref a:=j;exact sS c m F A rfl rfl rfl g λ B L r b E=>⟨Y,_,E,k B r b⟩
theorem qJ{CX:qb}{k:Nat}{fd:FuncData}{G:List Str}{E:XK}{v:V}{u:Value}(c:XC X.K C bm @(.ref fa))(R:PySem.W.typeIn X.K (.ref fa)=@(.type "function"))
  (F:aY X.prog X.w X.K X.mg X.base tX k fa fd G (A9 C f)) (hr:aS (k+1) X.A) (hb:Binds X.K fd G []) (O:G.length=2) (I:Inv X aa Y H s) (r:RelV v u) {Q:Value->Shared->Prop}
  (hQ:∀a dx m,H dx=none->Inv X aa Y (upd H dx (.xd [(f,v)])) m->nc s.heap (upd H dx (.xd [(f,v)])) m.heap a (.ref C) (some dx)->(∃z,m.heap.get? a=some {cL C z with dict:=some dx})->Q (.ref a) m):wpAny (model X.prog X.w) X.A (call (.ref C) [u]) Q E' s:=by
 let⟨nm,q,N,bs,sn,sub,ab,col,dd,k0,k1,k2,k3,k5,Bn,L,inN,bmN,mN,hC,Fn,S,hi,T⟩:=c.ex;let⟨l,g,d,t,os⟩:=s;let⟨hN,hT⟩:=T _ I.bA;refine vn (bmB:=VE) Fn S NX hT (I.bA _ _ hC) hN hi (λ p=>PySem.W.bind_fn I.bA p R) (by rw[NS];show 1<=_;decide) ?_;generalize x:l.objs.size=z;have e2:((l.push (jO [u])).push (cL C z)).get? (z+1)=some (cL C z):=by
  have:=MC (l.push (jO [u])) (o:=cL C z) rfl
  rwa [Ng,x] at this
 have I2:Inv X aa Y (upd H (z+1) (dY (z+1) (cL C z))) ⟨(l.push (jO [u])).push (cL C z),g,d,t,os⟩:=
  I.laid (t':=t) (h':=(l.push (jO [u])).push (cL C z)) (a:=z+1) (λ b J q=>Mv _ (Mv _ q)) (by rw[<-x];exact Ob _) (o5 e2)
 have hn:H (z+1)=none:=I.hok.fresh (by rw[<-x];exact Ob _);refine NC (F.run _ X.stack _ _ ⟨[.ref (z+1),u],[]⟩ [.ref (z+1),u] [.ref (z+1),v] (λ v' H'=>v'=.non/\∃dx,H dx=none/\dx≠z+1/\H'=upd (upd (upd H (z+1) (dY (z+1) (cL C z))) (z+1) (dY (z+1) {cL C z with dict:=some dx})) dx (.xd [(f,v)])) E0
  (hr.make C [u] []) (I2.yw.make C [u] []) (by have:=hb ⟨(l.push (jO [u])).push (cL C z),g,d,t,os⟩ [.ref (z+1),u] I2.bA (by rw[O];rfl);rwa [NP] at this) %[rfl,|r] ⟨z+1,z,v,rfl,aq,λ dx B j=>⟨rfl,dx,?_,j,rfl⟩⟩) λ rr m n=>?_
 .rw[ai j] at B;exact B
 .cases rr with
  |error e=>exact False.elim n
  |ok fl=>
   cases fl with
   |ret u'=>
    let⟨v',H',Z,rv,ev,dx,B,j,eH⟩:=I2.after n;subst ev;subst eH;have U:upd (upd (upd H (z+1) (dY (z+1) (cL C z))) (z+1) (dY (z+1) {cL C z with dict:=some dx})) dx (.xd [(f,v)]) (z+1)=some (dY (z+1) {cL C z with dict:=some dx}):=by rw[ai (Ne.symm j),aq]
    have I4:=Z.drop U;have eD:A8 (upd (upd (upd H (z+1) (dY (z+1) (cL C z))) (z+1) (dY (z+1) {cL C z with dict:=some dx})) dx (.xd [(f,v)])) (z+1)=upd H dx (.xd [(f,v)]):=by
     funext b;unfold A8
     by_cases y:b=z+1
     .rw[MO y,y,ai (Ne.symm j),hn]
     .rw[MN y]
      by_cases D:b=dx
      .rw[D,aq,aq]
      .rw[ai D,ai y,ai y,ai D]
    rw[eD] at I4;refine⟨rv,hQ (z+1) dx m B I4 ⟨.none,⟨_,_,eE Z.hok U,rfl,rfl,rfl,rfl⟩,.inl rfl,Heap.get?_none_of_le (by show l.objs.size<=z+1;rw[<-x];exact Ob _),?_,λ T e=>(by cases e),λ b J q=>?_⟩ ⟨z,eE Z.hok U⟩⟩
    .rw[ai (Ne.symm j)];exact hn
    .have q0:((l.push (jO [u])).push (cL C z)).get? b=some J:=Mv _ (Mv _ q);let⟨_,_,_,_,un,_⟩:=id n;exact un.there b J q0 's'
   |next=>exact False.elim n
   |brk=>exact False.elim n
   |cont=>exact False.elim n
end
def Old(X:Cx)(aa:List (Addr×Obj))(g:Heap):Prop:=(∀b o,X.s₀.heap.get? b=some o->∃a,g.get? b=some a)/\∀p∈X.pn++aa,∃a,g.get? p.1=some a
theorem Inv.old(I:Inv X aa Y H s)(a:X.ex=[]):Old X aa s.heap:=⟨λ b o e=>I.base.there b o e (by rw[a];simp),λ p c=>⟨_,(I.pin p c).1⟩⟩
theorem nc.old{g:Heap}{m:Hp}{a:Addr}{cls:Value}{f:Option Addr}(d:Old X aa g)(x:nc g m h a cls f):nc X.s₀.heap m h a cls f:=by
 have k:∀b,g.get? b=none->X.s₀.heap.get? b=none:=λ b q=>by
  cases z:X.s₀.heap.get? b with
  |none=>rfl
  |some o=>
   let⟨j,c⟩:=d.1 b o z;rw[q] at c;cases c
 let⟨n,v,u,t,r,l,p⟩:=x;exact⟨n,v,u,k _ t,r,λ T e=>⟨k _ (l T e).1,(l T e).2⟩,λ b o q=>by
  let⟨j,c⟩:=d.1 b o q;exact p b j c⟩
def gM(X:Cx)(Y:St)(cls:Value)(b:Option Addr)(H:Hp):Prop:=∀(aa:List (Addr×Obj)) (s:Shared) (a:Addr) (g:Heap),Inv X aa Y H s->Old X aa g->nc g H s.heap a cls b->X.xe (.ref a) s
theorem XC.base(c:XC K C bm i){A:Around}{E:Value->Shared->Prop}{env:Env}{x:Sem Value}{Q:Flow->Shared->Prop}(r:A.handled=none)
  (h:wpAny M A x (λ v a=>∃e j z,v=.ref e/\K.In a.heap/\a.heap.get? e=some {cL C z with dict:=j}/\E (.ref e) a) E s):wpAny M A (raiseStmt env (some x) none) Q E s:=by
 let⟨J,q,N,bs,G,n,ab,D,dd,V,U,S,R,O,Bn,f,p,F,L,y,Fn,B,hi,T⟩:=c.ex;unfold raiseStmt;refine Mu (MK h (λ v a b=>?_) λ _ _ x=>x);let⟨e,j,z,rfl,k,t,u⟩:=b;let⟨Z,g,d,tk,I⟩:=a;have l:=k _ _ y;have m:(Value.ref C::bm).contains (.type "BaseException")=true:=by rw[OM,(T _ k).2.hasType (show VE.contains (.type "BaseException")=true from by decide),OX]
 repeat (first | with_reducible refine MM t ?_ | with_reducible refine MM l ?_ | (with_reducible refine NI l ?_;rw[m]) | wp_step)
 exact wpAny_raiseNew_none r u
def Dy(X:Cx)(C:Addr)(f:Str)(c:TE):TS:=λ _ Y H=>c Y H λ y b=>∀a,b a=none->gM X Y (.ref C) (some a) (upd b a (.xd [(f,y)]))
section
variable{X:Cx}{e:Expr}{f x:Str}{pos cpos np:Pos}{tv:TE}{C:Addr}{bm:List Value}
theorem vo{k:Nat}{L:FuncData}{j:List Str}(c:XC X.K C bm @(.ref fa))(n:PySem.W.typeIn X.K (.ref fa)=@(.type "function"))
  (F:aY X.prog X.w X.K X.mg X.base tX k fa L j (A9 C f)) (G:aS (k+1) X.A) (hb:Binds X.K L j []) (m:j.length=2) (l:X.ex=[]) (Z:Gl X x) (V:X.mg x=@(.ref C)) (U:PE X e tv) (t:(x==("__debug__":Str))=false:=by decide)
  (J:starEach [e] X.env=(false,eval e X.env)::starEach [] X.env:=by rfl) (p:evalOpt @(.Call (.Name x np) [e] [] cpos) X.env=some (eval (.Call (.Name x np) [e] [] cpos) X.env):=by rfl):PS X (.Raise @(.Call (.Name x np) [e] [] cpos) none pos) (Dy X C f tv):=by
 intro aa s Y H D I h;rw[arm_exec_Raise,p];refine Mu (Nh ?_);show wpAny _ _ (raiseStmt X.env @(do let v <-eval (.Call (.Name x np) [e] [] cpos) X.env;standAt pos;pure v) none) _ _ _;refine c.base G.hd (Mu ?_);refine MW (bw I Z V ?_ t);have h':lX tv oB Y H λ g d=>match g with | [y]=>∀b,d b=none->gM X Y (.ref C) (some b) (upd d b (.xd [(f,y)])) | _=>False:=h
 refine Nu (h₀:=X.base) I.ok.mod.kin c.kp (aJ (aM U bE J cpos aa s Y H _ I h') λ us s1 ⟨g,d,B,r,q⟩=>⟨B.bA,?_⟩) J rfl;obtain⟨y,rfl⟩:∃y,g=[y]:=by
  match g,q with
  | [y],_=>exact⟨y,rfl⟩
 replace q:∀b,d b=none->gM X Y (.ref C) (some b) (upd d b (.xd [(f,y)])):=q;let⟨u,rfl,S⟩:=vals1 r;refine qJ (CX:=tX) (E:=E0) c n F G hb m B S λ a b R hd N O ⟨z,T⟩=>?_;refine Mu (Nh (MA ?_));exact⟨a,_,z,rfl,N.bA,T,q b hd aa R a _ N (B.old l) O⟩
end
theorem aC.Ba{a:Addr}{o:HO}(x:aC P w H h a o):∃u,h.get? a=some u:=by
 cases o with
 |lst xs=>let⟨_,_,_,_,e⟩:=x;exact⟨_,e⟩
 |tup xs=>let⟨_,_,_,c,e,_⟩:=x;exact⟨_,e⟩
 |dK b=>let⟨_,_,_,_,o,_,_,e,_⟩:=x;exact⟨_,e⟩
 |dT b=>let⟨_,_,_,_,o,_,_,e,_⟩:=x;exact⟨_,e⟩
 |set S n=>let⟨o,_,_,_,e,_⟩:=x;exact⟨_,e⟩
 |ins C g fs=>let⟨_,_,_,e,_⟩:=x;exact⟨_,e⟩
 |own y=>let⟨_,e⟩:=x;exact⟨_,e⟩
 |xd fs=>let⟨_,⟨_,_,_,e,_⟩,_⟩:=x;exact⟨_,e⟩
 |rng lo hi=>let⟨_,_,_,e⟩:=x;exact⟨_,e⟩
 |frz c u=>let⟨e,_⟩:=x;exact⟨_,e⟩
 |tbl ps=>exact⟨_,show h.get? a=some _ from x⟩
 |met f y=>exact⟨_,show h.get? a=some _ from x⟩
 |ext d=>let⟨_,⟨_,e⟩,_⟩:=x;exact⟨_,e⟩
def yY(X:Cx)(C:Addr)(a:TE):TS:=λ _ Y H=>a Y H λ _ b=>gM X Y (.ref C) none b
section
variable{X:Cx}{e:Expr}{f x:Str}{pos cpos np:Pos}{tv:TE}{C:Addr}{bm:List Value}
theorem sU(c:XC X.K C bm none)(n:X.A.handled=none)(B:X.ex=[])(hg:Gl X x)(j:X.mg x=@(.ref C))(hv:PE X e tv)(F:(x==("__debug__":Str))=false:=by decide)
  (O:starEach [e] X.env=(false,eval e X.env)::starEach [] X.env:=by rfl) (E:evalOpt @(.Call (.Name x np) [e] [] cpos) X.env=some (eval (.Call (.Name x np) [e] [] cpos) X.env):=by rfl):PS X (.Raise @(.Call (.Name x np) [e] [] cpos) none pos) (yY X C tv):=by
 intro aa s Y H D I h;let⟨nm,q,N,bs,sn,V,ab,col,dd,k0,k1,k2,k3,k5,Bn,p,inN,bmN,mN,hC,Fn,G,hi,T⟩:=c.ex;rw[arm_exec_Raise,E];refine Mu (Nh ?_);show wpAny _ _ (raiseStmt X.env @(do let v <-eval (.Call (.Name x np) [e] [] cpos) X.env;standAt pos;pure v) none) _ _ _;refine c.base n (Mu ?_);refine MW (bw I hg j ?_ F);have J:lX tv oB Y H λ m l=>match m with | [_]=>gM X Y (.ref C) none l | _=>False:=h
 refine Nu (h₀:=X.base) I.ok.mod.kin c.kp (aJ (aM hv bE O cpos aa s Y H _ I J) λ us Z ⟨m,l,k,r,q⟩=>⟨k.bA,?_⟩) O rfl;obtain⟨y,rfl⟩:∃y,m=[y]:=by
  match m,q with
  | [y],_=>exact⟨y,rfl⟩
 replace q:gM X Y (.ref C) none l:=q;let⟨u,rfl,ru⟩:=vals1 r;let⟨n,g,d,t,os⟩:=Z;let⟨hN,hT⟩:=T _ k.bA;refine wpAny_call_exc_subU (bmB:=VE) (hrest:=by rw[NS];show 1<=_;decide) Fn G NX hT (k.bA _ _ hC) hN hi λ J a j=>?_;refine Mu (Nh (MA ?_));let⟨z,R,g2,g3⟩:=j.there;have S:Inv X aa Y l ⟨J,g,d,t,os⟩:=k.kept (t':=t) j.keeps;have hn:l a=none:=by
  cases U:l a with
  |none=>rfl
  |some o=>
   let⟨ob,L⟩:=aC.Ba (k.hok _ _ U);rw[show n.get? a=none from j.new] at L;cases L
 exact⟨a,none,z,rfl,S.bA,R,q aa _ a n S (k.old B) ⟨.none,⟨_,_,R,rfl,rfl,rfl,rfl⟩,.inl rfl,j.new,hn,λ T e=>(by cases e),λ b o q=>⟨o,j.keeps b o q⟩⟩⟩
end
section
variable{P:Program}{w:World}{K:ae}{mg:Str->Option Value}{base:Heap}{N:List Str}{qual:Str}{scope:Scope}{f:Addr}{cd:Value}{A:Around}{outer:List Env}{s:Shared}{H:Hp}{E:XK}
theorem qK{cls:Value}{b:Option Addr}{d:Hp}(h:E cls b d):gM (fB (iZ P w) P w K mg base N qual scope f cd A outer s H E) Y cls b d:=λ aa m a g I l x=>
 left (X:=fB (iZ P w) P w K mg base N qual scope f cd A outer s H E) rfl rfl rfl I (x.old l) λ n k c j=>⟨a,cls,b,d,rfl,I.os,I.bare,k,c,j,h⟩
theorem Bb(l:X.ex=[]){k:XK}(h:∀cls c d,k cls c d->gM X Y cls c d){j:Hp}{g b:Shared}(I:Inv X aa Y j g)(m:iZ X.prog X.w X.stack j g k e b):X.xe e b:=by
 let⟨a,cls,c,d,rfl,n,x,q⟩:=I.Dv m;exact h _ _ _ q aa b a _ n (I.old l) x
theorem yZ:PassesOwn (model P w) (fB (iZ P w) P w K mg base N qual scope f cd A outer s H E).A (fB (iZ P w) P w K mg base N qual scope f cd A outer s H E).env (fB (iZ P w) P w K mg base N qual scope f cd A outer s H E).xe:=by
 have:=PassesOwn.leaving (M:=model P w) (A:=A.deeper (envOfC qual scope s⁻¹ f cd)) (env:=envOfC qual scope s⁻¹ f cd) (Q₁:=λ e a=>iZ P w outer H s E e a) (E₁:=λ b a=>iZ P w outer H s E b a);exact this
end
section
variable{X:Cx}{aa:List (Addr×Obj)}{Y:St}{H:Hp}{s:Shared}{a:Addr}{cls:Value}{od:Option Addr}{g:Heap}
theorem Inv.past{h':Heap}{tb:Value}(I:Inv X aa Y H s)(hx:X.ex=[])(ol:Old X aa g)(h1:gb s.heap a cls od tb)(h2:yV s.heap a tb)(h3:g.get? a=none)(h4:H a=none)(h5:∀T,tb=.ref T->g.get? T=none/\H T=none)
  (U:∀b o,s.heap.get? b=some o->b∉frs X.stack->b≠a->tb≠.ref b->h'.get? b=some o) (E:∀b o,s.heap.get? b=some o->b≠a->tb≠.ref b->∃D,h'.get? b=some {o with slots:=D})
  : Inv X aa Y H {s with heap:=h'}:=by
 have na:∀b o,s.heap.get? b=some o->(∀j,o.data≠.fields j)->b≠a/\tb≠.ref b:=λ b o q nf=>by
  let⟨oe,j,e1,_,_,e2,_⟩:=h1;refine⟨λ z=>?_,λ z=>?_⟩
  .rw[z,e1] at q;cases q;exact nf j e2
  .rcases h2 with y | ⟨T,y,⟨oT,ts,t1,t2,_⟩,_⟩
   .rw[y] at z;cases z
   .rw[y] at z;cases z;rw[t1] at q;cases q;exact nf ts t2
 have S:∀b o,g.get? b=some o->b≠a/\tb≠.ref b:=λ b o q=>⟨λ z=>(by rw[z,h3] at q;cases q),λ z=>(by rw[(h5 b z).1] at q;cases q)⟩;have f:∀b o,X.s₀.heap.get? b=some o->b≠a/\tb≠.ref b:=λ b o q=>by
  let⟨R,q'⟩:=ol.1 b o q;exact S b R q'
 have fr:∀b∈frs X.stack,H b=none:=I.gW;have B:∀b,b∉X.ex:=λ b=>by rw[hx];simp
 have kh:∀b u o,H b=some u->s.heap.get? b=some o->h'.get? b=some o:=λ b u o d q=>U b o q (λ z=>by rw[fr b z] at d;cases d) (λ z=>by rw[z,h4] at d;cases d) λ z=>by rw[(h5 b z).2] at d;cases d
 have lo:∀b o,X.s₀.heap.get? b=some o->b∈frs X.stack->b∈X.fs:=λ b o q d=>by
  rcases MJ.mp (I.fS b d) with e | e
  .rw[e] at q;exact absurd (Mx q) (Pz.mpr I.ok.above)
  .exact e
 let⟨m,hm,hl⟩:=I.loc;have V:h'.Ns X.env.locals m:=by
  let⟨o,es,ep,l,t,r⟩:=hm;let⟨L,J⟩:=na _ _ l (λ j z=>by rw[t] at z;cases z);let⟨D,q⟩:=E _ _ l L J;exact⟨_,es,ep,q,t,r⟩
 have A:∀c v,s.heap.IsCell c v->h'.IsCell c v:=λ c v ⟨o,l,t⟩=>by
  let⟨L,J⟩:=na _ _ l (λ j z=>by rw[t] at z;cases z);let⟨D,q⟩:=E _ _ l L J;exact⟨_,q,t⟩
 refine⟨I.ok,I.os,I.bare,⟨λ b o q n d _=>?_,λ b o q n d _=>?_,λ b o q n _=>I.base.free b o q n (B b),λ b o q _=>?_,I.base.tups,I.base.dM,I.base.eN⟩,⟨m,V,λ i x v e1 e2 e3=>?_⟩,λ x c q=>?_,I.free,I.freeC,λ p hp=>?_,λ b u d=>?_,I.len⟩
 .exact U b o (I.base.keep b o q n d (B b)) (λ z=>d (lo b o q z)) (f b o q).1 (f b o q).2
 .let⟨D,O⟩:=I.base.slot b o q n d (B b);let⟨k,N⟩:=E b _ O (f b o q).1 (f b o q).2;exact⟨k,N⟩
 .let⟨R,O⟩:=I.base.there b o q (B b);let⟨k,N⟩:=E b _ O (f b o q).1 (f b o q).2;exact⟨_,N⟩
 .let⟨u,r,z⟩:=hl i x v e1 e2 e3;refine⟨u,r,?_⟩;rcases z with⟨G,F⟩ | ⟨G,c,F,z3⟩
  .exact .inl ⟨G,F⟩
  .exact .inr ⟨G,c,F,A _ _ z3⟩
 .let⟨v,z⟩:=I.cell x c q;exact⟨v,A _ _ z⟩
 .let⟨p1,p2,p3,p4,p5⟩:=I.pin p hp;let⟨R,y⟩:=ol.2 p hp;refine⟨U _ _ p1 (λ z=>?_) (S _ _ y).1 (S _ _ y).2,p2,p3,p4,p5⟩;rcases MJ.mp (I.fS _ z) with e | e
  .exact p3 e
  .exact p4 e
 .refine(I.hok b u d).stay (λ c o Z q=>?_) (λ _ q=>q) λ _ _ q=>q;rcases Z with rfl | Z
  .exact kh _ _ _ d q
  .exact kh _ _ _ Z q
theorem landed(hx:X.ex=[])(c:X.stack=X.env::X.outer)(v:X.env.frame=some X.env.locals)(I:Inv X aa Y H s)(ol:Old X aa g)(x:nc g H s.heap a cls od)
  (hQ:∀h',Inv X aa Y H {s with heap:=h'}->nc g H h' a cls od->Q () {s with heap:=h'}):wpAny M X.A (noteFrame (.ref a) X.env) (λ _ s2=>wpAny M X.A (setFlight (.ref a) none) Q E' s2) E' s:=by
 let⟨Z,D,S,B,R,O,N⟩:=x;have hl:s.heap.FunFrames X.base (X.env::X.outer):=by rw[<-c];exact I.stack
 refine qI (base:=X.base) (L:=X.env.locals) (by rw[<-c];exact I.ok.frames) hl v D S λ g1 T k1 J G k4 u=>?_;refine kJ (s:={s with heap:=g1}) G k4 λ h' _ l j2=>?_;have k:∀b o,s.heap.get? b=some o->b≠T:=λ b o q=>MD (MG (Mx q) u);let⟨F,V,j,p,q3,q4,q5⟩:=G;have f:T≠a:=λ z=>by
  let⟨r,_,q,_⟩:=D;exact k a r q z.symm
 have ka:h'.get? a=some F:=by rw[l a (Ne.symm f)];exact j
 have hH:H T=none:=I.hok.fresh u;have I':Inv X aa Y H {s with heap:=h'}:=I.past hx ol D S B R O (λ b o d n m U=>by rw[l b (k b o d)];exact k1 b o d (by rw[<-c];exact n) m U) (λ b o d n m=>by
  let⟨E,y⟩:=J b o d n m;exact⟨E,by rw[l b (k b o d)];exact y⟩)
 refine hQ h' I' ⟨.ref T,⟨F,V,ka,p,q3,q4,q5⟩,.inr ⟨T,rfl,j2,f⟩,B,R,λ T' e=>?_,λ b o q=>?_⟩
 .cases e;refine⟨?_,hH⟩;cases z:g.get? T with
  |none=>rfl
  |some o=>
   let⟨t,q⟩:=N T o z;exact absurd (Mx q) (Pz.mpr u)
 .have n1:b≠a:=λ z=>by rw[z,B] at q;cases q
  have n2:Z≠.ref b:=λ z=>by rw[(O b z).1] at q;cases q
  let⟨t,j⟩:=N b o q;let⟨E,p⟩:=J b t j n1 n2;exact⟨_,by rw[l b (k b t j)];exact p⟩
end
section
variable{prog:Program}{w:World}{A:Around}{E:Value->Shared->Prop}{h:Heap}{g:Array GenState}{d:Drawn}{t:Nat}{os:OsState}
variable{nm q:Str}{C N x dx:Addr}{bs bm:List Value}{sn:List Str}{sub:List Value}{ab:Bool}{col:Option Bool}{dd:Option Addr}{k0 k1 k2 k3 k5:Option Value}{newId:String}{name:Str}{v:Value}{o:Obj}{vs:Array Value}{mA:Str->Option Value}
theorem jQ{P e:Addr}{y:List Value}{j:Option Value}{B:Obj}{Q:Bool->Shared->Prop}(c:XC K C bm i)(p:XC K P y j)(r:K.In h)(he:h.get? e=some B)(a:B.cls=.ref C)
  (m:Q ((Value.ref C::bm).contains (.ref P)) ⟨h,g,d,t,os⟩):wpAny M A (excMatches (.ref e) (.ref P)) Q E ⟨h,g,d,t,os⟩:=by
 let⟨nm,q,N,bs,sn,sub,ab,col,dd,k0,k1,k2,k3,k5,Bn,newId,inN,bmN,mN,u,Fn,hBn,hi,T⟩:=c.ex;let⟨O,q',N',bs',L,z,ab',G,dd',Z,V,KR,U,S,Bn',k,D,I,R,l,Fn',F,hi',T'⟩:=p.ex;have u:=r _ _ u;have l:=r _ _ l;have J:(Value.ref P::y).contains (.type "BaseException")=true:=by rw[OM,(T' _ r).2.hasType (show VE.contains (.type "BaseException")=true from by decide),OX]
 have f:=tc_notTuple;generalize n:(Value.ref C::bm).contains (.ref P)=b at m;unfold excMatches
 repeat (first | (with_reducible refine MM he ?_;rw[a]) | with_reducible refine MM l ?_ | (with_reducible refine NI l ?_;rw[J]) | (with_reducible refine NI u ?_;rw[n]) | wp_step)
 cases b<;>first | exact m | (wp_walk;exact m)
theorem sV{Q:Fin->Shared->Prop}(r:h.get? C=@(excClassObj nm q C N bs bm true sn sub ab col dd k0 k1 k2 k3 k5 newId))(j:PySem.W.Looks (model prog w) h (typeLookup (.ref C) name) none)
  (l:h.get? x=some o) (m:o.cls=.ref C) (a:o.data=.fields vs) (k:o.dict=some dx) (f:h.Ns1 dx mA) (n:mA name=some v) (p:Q (.done (.ret v)) ⟨h,g,d,t,os⟩) :
  wpAny (model prog w) A (Builtin.«object.__getattribute__» ⟨[.ref x,.str name tk],[]⟩) Q E ⟨h,g,d,t,os⟩:=by
 unfold Builtin.«object.__getattribute__»
 repeat (first | (with_reducible refine MM l ?_;rw[m]) | with_reducible refine NL j ?_ | wp_step)
 split
 .ext c b;rw[a] at b;cases b
 unfold instanceDict
 repeat (first | (with_reducible refine MM l ?_;rw[m]) | with_reducible refine MM r ?_ | wp_step)
 rw[k]
 repeat (first | (with_reducible refine wpAny_nsGet f.ns ?_;rw[n]) | wp_step)
 exact p
theorem fJ{a:Value}(m:h.get? C=@(excClassObj nm q C N bs bm true sn sub ab col dd k0 k1 k2 k3 k5 newId))(n:bm.contains (.type "BaseException")=true)
  (f:h.get? x=some o) (l:o.cls=.ref C) (j:Q () ⟨h,g,d,t,os⟩):wpAny M A (checkBuiltinCall "BaseException.__getattribute__" ⟨[.ref x,a],[]⟩) Q E ⟨h,g,d,t,os⟩:=by
 have k:builtinKind "BaseException.__getattribute__"=some .slot:=by decide +kernel
 have b:splitId "BaseException.__getattribute__"=some ("BaseException","__getattribute__"):=by decide +kernel
 have c:(Value.ref C::bm).contains (.type "BaseException")=true:=by rw[OM,n,OX]
 have p:=PySem.F.args_bexc_ga (.ref x) a;erw[checkBuiltinCall,k,b];refine Mu ?_
 .unfold isInstance
  repeat (first | (with_reducible refine MM f ?_;rw[l]) | (with_reducible refine NI m ?_;rw[c]) | wp_step)
  exact j
theorem vp{a:Bool}{Q:Value->Shared->Prop}(r:ExcAttrFacts "ValueError")(p:h.get? C=@(excClassObj nm q C N bs bm true sn sub ab col dd k0 k1 k2 k3 k5 newId))(y:bm.contains (.type "BaseException")=true)
  (l:PySem.W.Looks (model prog w) h (typeLookup (.ref C) "__getattribute__") @(.builtin "BaseException.__getattribute__")) (k:PySem.W.Looks (model prog w) h (typeLookup (.ref C) "__getattr__") none)
  (j:PySem.W.Looks (model prog w) h (typeLookup (.ref C) name) none) (c:h.get? x=some o) (n:o.cls=.ref C) (b:o.data=.fields vs) (m:o.dict=some dx) (f:h.Ns1 dx mA) (u:mA name=some v) (D:handedOut v=pure v) (B:Q v ⟨h,g,d,t+1,os⟩) :
  wpAny (model prog w) A (getAttr (.ref x) name a) Q E ⟨h,g,d,t,os⟩:=by
 have F:=r.ga.bind (.ref x);have G:(a&&onTheHeap (Value.builtin "BaseException.__getattribute__"))=false:=by cases a<;>rfl
 have z:(Value.builtin "BaseException.__getattribute__"==Value.builtin "object.__getattribute__")=false:=by decide +kernel
 have I:(onTheHeap (Value.ref C)&&Value.builtin "BaseException.__getattribute__"==Value.builtin "object.__getattribute__")=false:=by rw[z];rfl
 unfold getAttr
 repeat (any_goals (first | assumption | (with_reducible refine MM c ?_;rw[n]) | with_reducible refine NL l ?_ | with_reducible refine NL k ?_ | wp_step))
 refine N2 r.ga.plain PV (fJ p y c n (sV p j c n b m f u ?_))
 repeat (any_goals (first | assumption | wp_step))
end
abbrev Cx.jm(X:Cx)(pn:List (Addr×Obj))(xe:Value->Shared->Prop):Cx:={X with pn:=X.pn++pn,xe:=xe}
abbrev Cx.gO(X:Cx)(e:Value)(pn:List (Addr×Obj))(xe:Value->Shared->Prop):Cx:={X with A:=X.A.mark (some e),calm:=false,pn:=X.pn++pn,xe:=xe}
section
variable{X:Cx}{aa:List (Addr×Obj)}{Y:St}{H:Hp}{s:Shared}{a:Addr}{cls:Value}{od:Option Addr}{g:Heap}
theorem Inv.jm(I:Inv X aa Y H s):Inv (X.jm aa xe) [] Y H s:=
 ⟨⟨I.ok.mod,I.ok.kind,I.ok.glob,I.ok.blt,I.ok.above,I.ok.inj,I.ok.has,I.ok.cab,I.ok.hd,I.ok.frames,I.ok.stk,I.ok.exf,I.ok.bs,I.ok.bsz,I.ok.noex,I.ok.exfs,I.ok.eX,I.ok.frf⟩,
  I.os,I.bare,I.base,I.loc,I.cell,I.free,I.freeC,λ p b=>I.pin p (~~~b),I.hok,I.len⟩
theorem Inv.nh{b:List (Addr×Obj)}(I:Inv (X.jm aa xe) b Y H s):Inv X aa Y H s:=
 ⟨⟨I.ok.mod,I.ok.kind,I.ok.glob,I.ok.blt,I.ok.above,I.ok.inj,I.ok.has,I.ok.cab,I.ok.hd,I.ok.frames,I.ok.stk,I.ok.exf,I.ok.bs,I.ok.bsz,I.ok.noex,I.ok.exfs,I.ok.eX,I.ok.frf⟩,
  I.os,I.bare,I.base,I.loc,I.cell,I.free,I.freeC,λ p c=>I.pin p (NO _ c),I.hok,I.len⟩
theorem Inv.gO(I:Inv X aa Y H s):Inv (X.gO e aa xe) [] Y H s:=
 ⟨⟨I.ok.mod,I.ok.kind,I.ok.glob,I.ok.blt,I.ok.above,I.ok.inj,I.ok.has,I.ok.cab,λ z=>(by cases z),I.ok.frames,I.ok.stk,I.ok.exf,I.ok.bs,I.ok.bsz,I.ok.noex,I.ok.exfs,I.ok.eX,I.ok.frf⟩,
  I.os,I.bare,I.base,I.loc,I.cell,I.free,I.freeC,λ p b=>I.pin p (~~~b),I.hok,I.len⟩
theorem Inv.gI(c:X.Ok)(I:Inv (X.gO e aa xe) [] Y H s):Inv X aa Y H s:=
 ⟨c,I.os,I.bare,I.base,I.loc,I.cell,I.free,I.freeC,λ p b=>I.pin p (by rw[NP];exact b),I.hok,I.len⟩
theorem vq{A:Around}(Z:X.ex=[])(I:Inv X aa Y H s)(R:Old X aa g)(x:nc g H s.heap a cls od)
  (E:∀h',Inv X aa Y H {s with heap:=h'}->nc g H h' a cls od->Q () {s with heap:=h'}):wpAny M A (setFlight (.ref a) none) Q E' s:=by
 let⟨tb,d,h2,p,m,l,F⟩:=x;rcases h2 with rfl | ⟨T,rfl,D,c⟩
 .let⟨B,v,u,J,G,t,r⟩:=id d;unfold setFlight;refine Mu (Ni u t r ?_);rw[MN 'd'];exact MA (E s.heap I ⟨.none,d,.inl rfl,p,m,λ T e=>(by cases e),F⟩)
 .refine kJ d D λ h' _ f V=>?_;have y:∀b,b≠a->Value.ref T≠.ref b->b≠T:=λ b _ n z=>n (by rw[z]);have U:gb h' a cls od (.ref T):=by
   let⟨B,v,u,J,G,t,r⟩:=d;exact⟨B,v,(by rw[f a (Ne.symm c)];exact u),J,G,t,r⟩
  refine E h' (I.past Z R d (.inr ⟨T,rfl,D,c⟩) p m l (λ b o k _ j L=>by rw[f b (y b j L)];exact k) λ b o k N j=>⟨o.slots,by rw[f b (y b N j)];exact k⟩) ⟨.ref T,U,.inr ⟨T,rfl,V,c⟩,p,m,l,λ b o q=>?_⟩;let⟨S,O⟩:=F b o q;refine⟨S,?_⟩;rw[f b λ z=>by
   subst z;rw[(l _ rfl).1] at q;cases q]
  exact O
theorem name_goes{A:Around}{E:Value->Shared->Prop}{i:Nat}{n:Str}{pos:Pos}(I:Inv X aa Y H s)(hN:X.N.Nodup)(T:X.N[i]?=some n)(hk:X.env.kindOf n=some .local)
  (hQ:∀O,Inv X aa (Y.set i none) H O->Q () O):wpAny M A (do bindName X.env n .none;unbindBehindTheSuite X.env n pos) Q E s:=by
 let⟨m,S,hl⟩:=id I.loc;have t:(X.env.scope.kind==.class||(X.env.scope.kind==.module&&X.env.locals != X.env.globals))=false:=by rw[I.ok.kind];rfl
 have F:i<Y.length:=by rw[I.len];exact(Mw.mp T).1
 refine wpAny_nameGoes_keeps hk S t λ h' v B f=>hQ _ ?_;have L:=I.uc;let⟨oL,_,_,hoL,_⟩:=id S;refine⟨I.ok,I.os,I.bare,⟨λ b o e n G r=>?_,λ b o e n G r=>?_,I.base.free,λ b o e r=>?_,I.base.tups,I.base.dM,I.base.eN⟩,⟨_,B,λ j y U l x e3=>?_⟩,λ y c e=>?_,I.free,I.freeC,λ p hp=>?_,λ b ob e=>?_,~~~I.len⟩
 .exact(f.2 b (MD (MG (Mx e) I.ok.above))).trans (I.base.keep b o e n G r)
 .let⟨Z,l⟩:=I.base.slot b o e n G r;exact⟨Z,(f.2 b (MD (MG (Mx e) I.ok.above))).trans l⟩
 .let⟨o',l⟩:=I.base.there b o e r;exact⟨o',(f.2 b (MD (MG (Mx e) I.ok.above))).trans l⟩
 .by_cases D:j=i
  .subst D;rw[Nd F] at x;cases x
  .rw[Na (Ne.symm D)] at x;let⟨V,r',q⟩:=hl j y U l x e3;refine⟨V,r',?_⟩;rcases q with⟨k,e⟩ | ⟨k,c,e,z⟩
   .refine .inl ⟨k,?_⟩;have:y≠n:=λ e=>D (ia hN l (e▸T));simp[this,e]
   .exact .inr ⟨k,c,e,z.sameBut f (L y c e)⟩
 .let⟨J,z⟩:=I.cell y c e;exact⟨J,z.sameBut f (L y c e)⟩
 .let⟨e,n,R,nf,d⟩:=I.pin p hp;exact⟨(f.2 p.1 R).trans e,n,R,nf,d⟩
 .refine(I.hok b ob e).stay (λ c J u q=>(f.2 c ?_).trans q) (λ _ q=>q) λ _ _ q=>q;rintro rfl;rcases u with rfl | u
  .rw[I.free] at e;cases e
  .rw[I.free] at u;cases u
end
def o6(C:Addr)(b:Option Addr)(o:Obj):Prop:=o.cls=.ref C/\o.dict=b/\∃a,o.data=.fields a
section
variable{X:Cx}{aa:List (Addr×Obj)}{Y:St}{H:Hp}{s:Shared}{a C:Addr}{od:Option Addr}{g:Heap}
theorem tracked(I:Inv X aa Y H s)(D:Old X aa g)(x:nc g H s.heap a (.ref C) od):∃E,o6 C od E/\H a=none/\Inv X aa Y (upd H a (dY a E)) s:=by
 let⟨tb,⟨V,L,B,e2,e3,A,e5⟩,h2,J,G,h5,h6⟩:=x;have t:X.env.locals≠a:=λ z=>by
  let⟨m,⟨o,es,ep,k,d,_⟩,_⟩:=I.loc;rw[z,B] at k;cases k;rw[A] at d;cases d
 have j:∀b u,H b=some u->b≠a:=λ b u q z=>by rw[z,G] at q;cases q
 refine⟨V,⟨e2,e3,L,A⟩,G,I.ok,I.os,I.bare,⟨I.base.keep,I.base.slot,λ b o q n hx=>?_,I.base.there,λ b l q=>?_,λ b o u q=>?_,λ b N q=>?_⟩,I.loc,I.cell,?_,λ y c q=>?_,λ p F=>?_,λ b u q=>?_,I.len⟩
 .let⟨Z,f⟩:=D.1 b o q;rw[ai λ z=>by rw[z,J] at f;cases f];exact I.base.free b o q n hx
 .rw[ai (j _ _ (I.base.tups b l q))];exact I.base.tups b l q
 .rw[ai (j _ _ (I.base.dM b o u q))];exact I.base.dM b o u q
 .let⟨m,f⟩:=I.base.eN b N q;exact⟨m,by rw[ai (j _ _ f)];exact f⟩
 .rw[ai t];exact I.free
 .rw[ai λ z=>?_]
  .exact I.freeC y c q
  .let⟨v,o,k,d⟩:=I.cell y c q;rw[z,B] at k;cases k;rw[A] at d;cases d
 .let⟨U,T,S,R,O⟩:=I.pin p F;let⟨Z,f⟩:=D.2 p F;exact⟨U,by rw[ai λ z=>by rw[z,J] at f;cases f];exact T,S,R,O⟩
 .by_cases z:b=a
  .subst z;rw[aq] at q;cases q;exact o5 B
  .rw[ai z] at q;exact(I.hok b u q).stay (λ _ _ _ r=>r) (λ c r=>by rw[ai (j _ _ r)];exact r) λ c l r=>by rw[ai (j _ _ r)];exact r
end
abbrev ni:Value->Shared->Prop:=λ _ _=>False
def Ends.gone(D:Ends)(i:Nat):Ends:={nx:=fun Y H=>D.nx (Y.set i none) H,rt:=D.rt,bk:=fun Y H=>D.bk (Y.set i none) H,ct:=fun Y H=>D.ct (Y.set i none) H}
def Lp(X:Cx)(P:Addr)(i:Nat)(ts:Cx->TS)(D:Ends)(Y:St)(cls:Value)(d:Option Addr)(H:Hp):Prop:=
 ∃C bm j,cls=.ref C/\XC X.K C bm j/\(Value.ref C::bm).contains (.ref P)=true/\∀a c b,o6 C d b->H a=none->ts (X.gO (.ref a) c ni) (D.gone i) (Y.set i @(.ref a)) (upd H a (dY a b))
def Lq(X:Cx)(P:Addr)(ts:Cx->TS)(D:Ends)(Y:St)(cls:Value)(d:Option Addr)(H:Hp):Prop:=
 ∃C bm j,cls=.ref C/\XC X.K C bm j/\(Value.ref C::bm).contains (.ref P)=true/\∀a c b,o6 C d b->H a=none->ts (X.gO (.ref a) c ni) D Y (upd H a (dY a b))
def JO(X:Cx)(g:Ends->St->Value->Option Addr->Hp->Prop)(tb:Cx->TS):TS:=λ D Y H=>∀c xe,(∀a b d f,g D a b d f->gM (X.jm c xe) a b d f)->tb (X.jm c xe) D Y H
section
variable{X:Cx}{body suite:List Stmt}{b₀:Stmt}{cn n:Str}{np hpos pos:Pos}{P:Addr}{y9:List Value}{jP:Option Value}{i:Nat}{tb ts:Cx->TS}{hd:Ends->St->Value->Option Addr->Hp->Prop}{h₀:ExceptHandler}
theorem vt(N:X.ex=[])(F:X.stack=X.env::X.outer)(J:X.env.frame=some X.env.locals)
  (R:∀pn xe,PassesOwn (model X.prog X.w) X.A X.env xe->dO (X.jm pn xe) body (tb (X.jm pn xe)))
  (O:∀aa Y H s a g cls x D,Inv X aa Y H s->Old X aa g->nc g H s.heap a cls x->hd D Y cls x H->wpAny (model X.prog X.w) X.A (handleBy (.ref a) X.env [h₀]) (SP X aa D) X.xe s) :
  PS X (.Try body [h₀] [] [] pos) (JO X hd tb):=by
 intro aa s Y H D I h;refine wpAny_Try_except ?_;have B:=R aa (λ e c=>wpAny (model X.prog X.w) X.A (noteFrame e X.env) (λ _ m=>wpAny (model X.prog X.w) X.A (setFlight e none) (λ _ l=>wpAny (model X.prog X.w) X.A (handleBy e X.env [h₀]) (SP X aa D) X.xe l) X.xe m) X.xe c) PassesOwn.looking
  [] s Y H D I.jm (h aa _ fun y cls x U q Z V a g T t L=>landed N F J T.nh ⟨t.1,λ p G=>t.2 p (NO _ G)⟩ L λ h' S E=>O aa y U _ a g cls x D S ⟨t.1,λ p G=>t.2 p (NO _ G)⟩ E q)
 refine MK B (λ f c q=>?_) λ _ _ z=>z;cases f with
 |next=>
  let⟨b,k,j,d⟩:=q;exact pZ aa c b k D j.nh d
 |brk=>
  let⟨b,k,j,d⟩:=q;exact⟨b,k,j.nh,d⟩
 |cont=>
  let⟨b,k,j,d⟩:=q;exact⟨b,k,j.nh,d⟩
 |ret u=>
  let⟨v,b,k,j,r,d⟩:=q;exact⟨v,b,k,j.nh,r,d⟩
theorem JP(hx:X.ex=[])(y:X.N.Nodup)(x:X.N[i]?=some n)(t:X.env.kindOf n=some .local)(p:XC X.K P y9 jP)(hg:Gl X cn)(hm:X.mg cn=@(.ref P))
  (hs:∀a pn,dO (X.gO (.ref a) pn ni) (b₀::suite) (ts (X.gO (.ref a) pn ni))) (O:(cn==("__debug__":Str))=false:=by decide)
  (aa:List (Addr×Obj)) (Y:St) (H:Hp) (s:Shared) (a:Addr) (g:Heap) (B:Value) (T:Option Addr) (D:Ends) (I:Inv X aa Y H s) (S:Old X aa g) (R:nc g H s.heap a B T) (h:Lp X P i ts D Y B T H) :
  wpAny (model X.prog X.w) X.A (handleBy (.ref a) X.env [.ExceptHandler @(.Name cn np) (some n) (b₀::suite) hpos]) (SP X aa D) X.xe s:=by
 let⟨C,bm,j,rfl,c,L,q⟩:=h;refine wpAny_handleBy_cons (codeAny_handlers_test ?_) (by intro z;cases z);refine bw (X:=X.gO (.ref a) aa ni) I.gO hg hm ?_ O;let⟨tb,⟨oe,vs,e1,e2,_⟩,_⟩:=id R;let⟨hp,gg,d,tk,os⟩:=s;refine jQ c p I.bA e1 e2 ?_;rw[L];refine codeAny_handlers_suite_as ?_;refine vq hx I S R λ h2 I2 E=>?_;let⟨oa,U,J,I3⟩:=tracked I2 S E;refine cP (X:=X.gO (.ref a) aa ni) (I3.gO (e:=.ref a) (xe:=ni)) y x (.inl t) (v:=V.ref a) rfl (λ Z I4=>?_) (.inr t);refine MK (hs a aa [] Z _ _ _ I4 (q a _ oa U J)) (λ f s5 z=>?_) λ _ _ z=>z.elim;cases f with
 |next=>
  let⟨b,G,m,k⟩:=z;exact name_goes (m.gI I.ok) y x t λ F l=>⟨_,_,l,k⟩
 |brk=>
  let⟨b,G,m,k⟩:=z;exact name_goes (m.gI I.ok) y x t λ F l=>⟨_,_,l,k⟩
 |cont=>
  let⟨b,G,m,k⟩:=z;exact name_goes (m.gI I.ok) y x t λ F l=>⟨_,_,l,k⟩
 |ret u=>
  let⟨v,b,G,m,r,k⟩:=z;exact name_goes (m.gI I.ok) y x t λ F l=>⟨v,_,_,l,r,k⟩
theorem JQ(O:X.ex=[])(p:XC X.K P y9 jP)(T:Gl X cn)(S:X.mg cn=@(.ref P))
  (R:∀a pn,dO (X.gO (.ref a) pn ni) (b₀::suite) (ts (X.gO (.ref a) pn ni))) (E:(cn==("__debug__":Str))=false:=by decide)
  (aa:List (Addr×Obj)) (Y:St) (H:Hp) (s:Shared) (a:Addr) (g:Heap) (t:Value) (J:Option Addr) (D:Ends) (I:Inv X aa Y H s) (G:Old X aa g) (F:nc g H s.heap a t J) (h:Lq X P ts D Y t J H) :
  wpAny (model X.prog X.w) X.A (handleBy (.ref a) X.env [.ExceptHandler @(.Name cn np) none (b₀::suite) hpos]) (SP X aa D) X.xe s:=by
 let⟨C,bm,j,rfl,c,B,q⟩:=h;refine wpAny_handleBy_cons (codeAny_handlers_test ?_) (by intro z;cases z);refine bw (X:=X.gO (.ref a) aa ni) I.gO T S ?_ E;let⟨tb,⟨oe,vs,V,U,_⟩,_⟩:=id F;let⟨hp,gg,d,tk,os⟩:=s;refine jQ c p I.bA V U ?_;rw[B];refine codeAny_handlers_suite ?_;refine vq O I G F λ h2 I2 x=>?_;let⟨N,L,y,Z⟩:=tracked I2 G x;refine MK (R a aa [] _ _ _ _ (Z.gO (e:=.ref a) (xe:=ni)) (q a _ N L y)) (λ f s5 z=>?_) λ _ _ z=>z.elim;cases f with
 |next=>
  let⟨b,k,m,l⟩:=z;exact⟨b,k,m.gI I.ok,l⟩
 |brk=>
  let⟨b,k,m,l⟩:=z;exact⟨b,k,m.gI I.ok,l⟩
 |cont=>
  let⟨b,k,m,l⟩:=z;exact⟨b,k,m.gI I.ok,l⟩
 |ret u=>
  let⟨v,b,k,m,r,l⟩:=z;exact⟨v,b,k,m.gI I.ok,r,l⟩
end
section
variable{prog:Program}{w:World}{A:Around}{E:Value->Shared->Prop}{h:Heap}{g:Array GenState}{d:Drawn}{t:Nat}{os:OsState}
variable{nm q:Str}{C N x:Addr}{bs bm:List Value}{sn:List Str}{sub:List Value}{ab:Bool}{col:Option Bool}{dd:Option Addr}{k0 k1 k2 k3 k5:Option Value}{newId:String}{o:Obj}
theorem o7{R:Result->Shared->Prop}(j:h.get? C=@(excClassObj nm q C N bs bm true sn sub ab col dd k0 k1 k2 k3 k5 newId))(f:bm.contains (.type "object")=true)(a:h.get? x=some o)(b:o.cls=.ref C)(l:R (.ok (.ret (.ref C))) ⟨h,g,d,t,os⟩) :
  codeAny (model prog w) A (.call (.builtin "getset_descriptor.__get__") ⟨[.builtin "object.__class__",.ref x,.ref C],[]⟩) R ⟨h,g,d,t,os⟩:=by
 have k:(⟨h,g,d,t,os⟩:Shared).TypeIs (.builtin "object.__class__") "getset_descriptor":=Oi;have c:(Value.ref C::bm).contains (.type (".".intercalate ("object.__class__".cutAt '.').dropLast))=true:=by rw[PySem.F.owner_object_class,OM,f,OX]
 refine N2 PySem.F.slot_gs_get.plain PySem.F.entry_gs_get (PySem.F.slot_gs_get.check _ _ _ _ _ _ _ _ k (PySem.F.args_gs_get _ _ _) ?_)
 repeat (any_goals (first | assumption | (with_reducible refine MM a ?_;rw[b]) | (with_reducible refine NI j ?_;rw[c]) | wp_step))
 refine⟨Ov _ 'k',codeAny_builtin PySem.F.entry_object_class ?_⟩
 repeat (any_goals (first | assumption | (with_reducible refine MM a ?_;rw[b]) | wp_step))
theorem kK{Q:Fin->Shared->Prop}(j:h.get? C=@(excClassObj nm q C N bs bm true sn sub ab col dd k0 k1 k2 k3 k5 newId))(f:bm.contains (.type "object")=true)(c:PySem.W.Looks (model prog w) h (typeLookup (.ref C) "__class__") @(.builtin "object.__class__"))
  (a:h.get? x=some o) (b:o.cls=.ref C) (k:Q (.done (.ret (.ref C))) ⟨h,g,d,t,os⟩):wpAny (model prog w) A (Builtin.«object.__getattribute__» ⟨[.ref x,.str "__class__" tk],[]⟩) Q E ⟨h,g,d,t,os⟩:=by
 have p:(⟨h,g,d,t,os⟩:Shared).TypeIs (.builtin "object.__class__") "getset_descriptor":=Oi;have n:=Oi;have m:=PySem.F.slot_gs_get.lookup;have l:=PySem.F.slot_gs_set.lookup
 repeat (any_goals (first | assumption | (with_reducible refine MM a ?_;rw[b]) | with_reducible refine NL c ?_ | wp_step))
 refine o7 j f a b ?_
 repeat (any_goals (first | assumption | wp_step))
theorem sW{Q:Value->Shared->Prop}(j:h.get? C=@(excClassObj nm q C N bs bm true sn sub ab col dd k0 k1 k2 k3 k5 newId))(l:bm.contains (.type "object")=true)(m:bm.contains (.type "BaseException")=true)
  (k:PySem.W.Looks (model prog w) h (typeLookup (.ref C) "__class__") @(.builtin "object.__class__")) (c:PySem.W.Looks (model prog w) h (typeLookup (.ref C) "__getattribute__") @(.builtin "BaseException.__getattribute__")) (b:PySem.W.Looks (model prog w) h (typeLookup (.ref C) "__getattr__") none)
  (a:h.get? x=some o) (f:o.cls=.ref C) (p:Q (.ref C) ⟨h,g,d,t,os⟩):wpAny (model prog w) A (getAttrBy (.ref x) (.str "__class__" tk) false) Q E ⟨h,g,d,t,os⟩:=by
 have r:=PySem.F.excAttr_ValueError.ga.bind (.ref x);have n:(Value.builtin "BaseException.__getattribute__"==Value.builtin "object.__getattribute__")=false:=by decide +kernel
 have u:(onTheHeap (Value.ref C)&&Value.builtin "BaseException.__getattribute__"==Value.builtin "object.__getattribute__")=false:=by rw[n];rfl
 repeat (any_goals (first | assumption | (with_reducible refine MM a ?_;rw[f]) | with_reducible refine NL c ?_ | with_reducible refine NL b ?_ | wp_step))
 refine N2 PySem.F.excAttr_ValueError.ga.plain PV (fJ j m a f (kK j l k a f ?_))
 repeat (any_goals (first | assumption | wp_step))
theorem nj{Q:Option Value->Shared->Prop}(l:h.get? C=@(excClassObj nm q C N bs bm true sn sub ab col dd k0 k1 k2 k3 k5 newId))(k:bm.contains (.type "object")=true)(m:bm.contains (.type "BaseException")=true)
  (f:PySem.W.Looks (model prog w) h (typeLookup (.ref C) "__class__") @(.builtin "object.__class__")) (b:PySem.W.Looks (model prog w) h (typeLookup (.ref C) "__getattribute__") @(.builtin "BaseException.__getattribute__")) (a:PySem.W.Looks (model prog w) h (typeLookup (.ref C) "__getattr__") none)
  (c:h.get? x=some o) (j:o.cls=.ref C) (n:Q @(.ref C) ⟨h,g,d,t+1,os⟩):wpAny (model prog w) A (getAttr? (.ref x) "__class__") Q E ⟨h,g,d,t,os⟩:=by
 unfold getAttr? getAttrBy?
 repeat (any_goals (first | assumption | with_reducible apply sW l k m f b a c j | wp_step))
end
structure XG(K:ae)(C:Addr):Prop where
 ga:PySem.W.findIn K (.ref C) "__getattribute__"=@(some (.builtin "BaseException.__getattribute__"))
 gt:PySem.W.findIn K (.ref C) "__getattr__"=some none
 kl:PySem.W.findIn K (.ref C) "__class__"=@(some (.builtin "object.__class__"))
theorem nk{x:Addr}(c:XC K C bm i)(r:XG K C):PySem.W.KitX K (.ref x) (.ref C) (λ h=>∃o,h.get? x=some o/\o.cls=.ref C):=by
 let⟨U,q,N,bs,L,u,ab,I,G,k0,k1,k2,k3,Z,Bn,a,y,J,V,f,Fn,D,hi,T⟩:=c.ex;refine⟨λ M h X p=>?_,λ M h X p=>?_,λ h m G v n O X b=>?_,λ {prog w A E Q s} X p k=>?_⟩
 .let⟨o,l,j⟩:=p;exact j▸(PySem.W.Looks.ld l).andThen .now
 .intro A' Q' E' R k q;unfold isType loadHead;exact Mu (wpAny_loadPart (k _ _ (X _ _ f)) (MA q))
 .refine Bool.eq_false_iff.mpr λ q=>?_;have e:C=m:=Value.ref.inj (MZ.mp q);subst e;have z:=OA Obj.data (M0 ((X _ _ f).symm.trans b));cases z
 .let⟨o,l,j⟩:=p;let⟨hh,g,d,t,S⟩:=s;have B:bm.contains (.type "object")=true:=(T _ X).2.hasType (show VE.contains (.type "object")=true from by decide);have F:bm.contains (.type "BaseException")=true:=(T _ X).2.hasType (show VE.contains (.type "BaseException")=true from by decide);exact nj (X _ _ f) B F (Nf X r.kl) (Nf X r.ga) (Nf X r.gt) l j k
section
variable{X:Cx}
theorem vz:aW X (.builtin "isinstance") (λ xs H Q=>∃a C f d bm j y u b,xs=[.ref a,y]/\H a=some (dY a d)/\o6 C f d/\XC X.K C bm j/\XG X.K C/\(∀u',RelV y u'->u'=u)/\PySem.W.kitOne X.K (.ref C) u=some b/\Q (.bl b) H):=by
 intro aa s Y H xs v Q I m h;let⟨a,C,f,d,bm,j,y,u,b,rfl,t,g,c,r,q,e,k⟩:=h;let⟨l,x,rfl,p,n⟩:=vals2 m;obtain rfl:l=Value.ref a:=p;obtain rfl:=q _ n;exact M1 (nk c r) I.bA ⟨d,eE I.hok t,g.1⟩ e (λ z=>nomatch z) λ tk=>⟨.bl b,H,I.tok tk,rfl,k⟩
theorem sX:aW X (.builtin "isinstance") (λ xs H Q=>∃a C u l bm j d g vs b,xs=[.ref a,.ref d]/\H a=some (dY a l)/\o6 C u l/\XC X.K C bm j/\XG X.K C/\H d=some (.tup g)/\(∀f,Vals g f->f=vs)/\PySem.W.kitAny X.K (.ref C) vs=some b/\Q (.bl b) H):=by
 intro aa s Y H xs S Q I A h;let⟨a,C,u,l,bm,j,d,g,vs,b,rfl,N,v,c,r,L,J,e,k⟩:=h;let⟨y,x,rfl,D,B⟩:=vals2 A;obtain rfl:y=Value.ref a:=D;obtain rfl:x=Value.ref d:=B;let⟨_,p,q,o,R,O,t⟩:=(show aC X.prog X.w H s.heap d (.tup g) from I.hok d _ L);obtain rfl:=J _ q;let⟨G,F,m,E⟩:=o;let⟨n,t⟩:=t;obtain rfl:G=Value.type "tuple":=O.1;obtain rfl:m=Data.seq p.toArray n:=t;exact PySem.W.kia_tup (nk c r) I.bA ⟨l,eE I.hok N,v.1⟩ R e (λ z=>nomatch z) λ tk=>⟨.bl b,H,I.tok tk,rfl,k⟩
def JR(K:ae)(k:TE)(f:Str):TE:=fun Y H Q=>k Y H λ x b=>∃a C g c bm j d y,x=.ref a/\b a=some (dY a c)/\o6 C (some g) c/\XC K C bm j/\XG K C/\PySem.W.findIn K (.ref C) f=some none/\b g=some (.xd d)/\d.lookup f=some y/\Q y b
theorem Dz{e:Expr}{f:Str}{pos:Pos}{m:TE}(he:PE X e m)(hb:attributeBase e f X.env (eval e X.env)=eval e X.env):PE X (.Attribute e f pos) (JR X.K m f):=by
 intro aa s Y H Q I h;refine qa hb (aJ (he aa s Y H _ I h) λ u n Z=>?_);let⟨x,A,b,J,a,C,z,oa,bm,j,fs,y,ex,ha,⟨E,D,vs,B⟩,c,r,L,hd,l,q⟩:=Z;subst ex;obtain rfl:u=Value.ref a:=J;let⟨R,O,V⟩:=(show aC X.prog X.w A n.heap z (.xd fs) from b.hok z _ hd);let⟨u,U,p⟩:=cC.some_of (v:=y) (o:=R f) (by rw[<-l];exact V f);let⟨nm,q',N,bs,sn,G,ab,col,dd,k0,k1,k2,k3,k5,Bn,k,S,bmN,mN,hC,Fn,hBn,hi,T⟩:=c.ex;have hB:bm.contains (.type "BaseException")=true:=(T _ b.bA).2.hasType (show VE.contains (.type "BaseException")=true from by decide);have hg:=eE b.hok ha;let⟨hh,g,d,t,os⟩:=n;exact vp PySem.F.excAttr_ValueError (b.bA _ _ hC) hB (Nf b.bA r.ga) (Nf b.bA r.gt) (Nf b.bA L) hg E B D O U
  (PySem.W.handedOut_of (jw p)) ⟨y,A,b.tok _,p,q⟩
end
def yc(X:Cx)(Y:St):XK:=λ a b H=>gM X Y a b H
def o8(X:Cx)(sp:Sp)(b:List V)(t:TA):TE:=fun Y H Q=>t Y H λ a c=>sp (a++b) c Q (yc X Y)
def o9(X:Cx)(C:Addr)(sp:Sp)(d:List V)(t:TA):TE:=fun Y H Q=>t Y H λ c b=>∀x a,b x=none->b a=none->a≠x->
 sp (.ref x::(c++d)) (upd (upd b a (.own x)) x (.ins C a [])) (λ v f=>v=.non/\Q (.ref x) f) (yc X Y)
section
variable{X:Cx}{k:Nat}{f C:Addr}{fd:FuncData}{ps:List Str}{sp:Sp}{gA:List V}{ds:List Value}{x m:Str}{p pos apos:Pos}{e o:Expr}{es:List Expr}{ta:TE}{t:TA}
theorem za{Q:VK}{us:List Value}{vs:List V}(c:X.ex=[])(F:aY X.prog X.w X.K X.mg X.base (iZ X.prog X.w) k f fd ps sp)(d:aS k X.A)(l:Binds X.K fd ps ds)(j:Vals gA ds)
  (I:Inv X aa Y H s) (r:Vals vs us) (h:sp (vs++gA) H Q (yc X Y)):wpAny (model X.prog X.w) X.A (call (.ref f) us) (EP X aa Y Q) X.xe s:=by
 have b:Vals (vs++gA) (us++ds):=r.append j;have g:(us++ds).length=ps.length:=by rw[<-b.length];exact F.len _ _ _ _ h
 refine O4 (NC (F.run X.A X.stack s H ⟨us,[]⟩ (us++ds) (vs++gA) Q (yc X Y) d I.yw (l s us I.bA g) b h) λ r n a=>?_);cases r with
 |error e=>exact Bb c (λ _ _ _ z=>z) I a
 |ok fl=>
  cases fl with
  |ret u=>exact I.after a
  |next=>exact False.elim a
  |brk=>exact False.elim a
  |cont=>exact False.elim a
theorem vA(d:X.ex=[])(F:aY X.prog X.w X.K X.mg X.base (iZ X.prog X.w) k f fd ps sp)(g:aS k X.A)(n:Gl X x)(j:X.mg x=@(.ref f))(l:PySem.W.keepIn X.K (.ref f)=true)(y:Binds X.K fd ps ds)(v:Vals gA ds)
  (z:PA X (e::es) t) (b:(x==("__debug__":Str))=false:=by decide) (u:starEach (e::es) X.env=(false,eval e X.env)::starEach es X.env:=by rfl) (a:(backTo pos (starEach es X.env)).any (·.1)=false:=by rfl) :
  PE X (.Call (.Name x p) (e::es) [] pos) (o8 X sp gA t):=by
 intro aa s Y H Q I h;refine MW (bw I n j ?_ b);refine Nu (h₀:=X.base) I.ok.mod.kin l (aJ (z pos aa s Y H _ I h) λ D E ⟨B,G,c,r,q⟩=>⟨c.bA,?_⟩) u a;exact za d F g y v c r q
theorem sY{Q:VK}{us:List Value}{vs:List V}(l:X.ex=[])(M:Mk X.K C f)(F:aY X.prog X.w X.K X.mg X.base (iZ X.prog X.w) k f fd ps sp)(n:aS (k+1) X.A)(B:Binds X.K fd ps ds)(y:Vals gA ds)
  (I:Inv X aa Y H s) (r:Vals vs us)
  (h:∀x dx,H x=none->H dx=none->dx≠x->sp (.ref x::(vs++gA)) (upd (upd H dx (.own x)) x (.ins C dx [])) (λ v G=>v=.non/\Q (.ref x) G) (yc X Y)) :
  wpAny (model X.prog X.w) X.A (call (.ref C) us) (EP X aa Y Q) X.xe s:=by
 have d:=h (s⁻¹+1) s⁻¹ (I.hok.fresh (Ob _)) (I.hok.fresh (MB _)) (MD (NK _));have b:=Inv.made (C:=C) I;have c:Vals (V.ref (s⁻¹+1)::(vs++gA)) (Value.ref (s⁻¹+1)::(us++ds)):=.cons rfl (r.append y);have q:(Value.ref (s⁻¹+1)::us++ds).length=ps.length:=by
  have e:=c.length;rw[F.len _ _ _ _ d] at e;exact e.symm
 refine O4 (uB (f:=f) I.bA M.makes M.init (MZ.mp M.fn) (NC (F.run _ X.stack _ _ ⟨Value.ref (s⁻¹+1)::us,[]⟩ (Value.ref (s⁻¹+1)::(us++ds)) _ _ (yc X Y) (n.make C us [])
  (b.yw.make C us []) (B _ (Value.ref (s⁻¹+1)::us) b.bA q) c d) λ r L a=>?_))
 cases r with
 |error e=>exact Bb l (λ _ _ _ z=>z) b a
 |ok fl=>
  cases fl with
  |ret u=>
   let⟨v,J,E,g,D,j⟩:=b.after a;subst D;exact⟨g,⟨V.ref (s⁻¹+1),J,E,rfl,j⟩⟩
  |next=>exact False.elim a
  |brk=>exact False.elim a
  |cont=>exact False.elim a
theorem vB(d:X.ex=[])(M:Mk X.K C f)(F:aY X.prog X.w X.K X.mg X.base (iZ X.prog X.w) k f fd ps sp)(g:aS (k+1) X.A)(l:Gl X x)(j:X.mg x=@(.ref C))(v:Binds X.K fd ps ds)(u:Vals gA ds)
  (y:PA X (e::es) t) (b:(x==("__debug__":Str))=false:=by decide) (n:starEach (e::es) X.env=(false,eval e X.env)::starEach es X.env:=by rfl) (a:(backTo pos (starEach es X.env)).any (·.1)=false:=by rfl) :
  PE X (.Call (.Name x p) (e::es) [] pos) (o9 X C sp gA t):=by
 intro aa s Y H Q I h;refine MW (bw I l j ?_ b);refine Nu (h₀:=X.base) I.ok.mod.kin M.kp (aJ (y pos aa s Y H _ I h) λ B D ⟨z,E,c,r,q⟩=>⟨c.bA,?_⟩) n a;exact sY d M F g v u c r q
end
theorem AR.Lr{j:Str->Option Value}{base:Heap}{x qual:Str}{st:Stmt}{f:Addr}{l:FuncData}{N c:List Str}{k:Nat}{sp:Sp}(F:AR K x qual st f l)(S:dm N c (av st))(d:∀vs H Q E,sp vs H Q E->vs.length=c.length)
  (b:∀(a:Value) (A:Around) (outer:List Env) (s:Shared) (H:Hp) (vs:List V) (Q:VK) (E:XK),aS k (A.deeper (envOfC qual (av st) s⁻¹ f a))->sp vs H Q E->
   ∃t,dO (fB (iZ P w) P w K j base N qual (av st) f a A outer s H E) (bx st) t/\t {nx:=λ _ u=>Q .non u,rt:=Q} (start N vs) H):aY P w K j base (iZ P w) (k+1) f l c sp:=by
 let⟨z,y,B,r,v,G,a,D,m,rfl,p,g⟩:=F.ex;exact AM p g S d λ A outer s H vs Q E q n=>b a A outer s H vs Q E q n
theorem zb{G:Str->Option Value}{base:Heap}{x qual:Str}{st:Stmt}{z:FuncData}{b v d:Str}{u r p n:Pos}{k:Nat}(F:AR K x qual st fa z)(S:dm [b,v] [b,v] (av st))
  (m:bx st=[.Assign [.Attribute (.Name b u) d r] (.Name v p) n]) (c:XC K C bm i) (D:PySem.W.findIn K (.ref C) d=some none) (j:yg (av st) b) (g:yg (av st) v)
  (T:(b==("__debug__":Str))=false) (R:(b==("__classdict__":Str))=false) (O:(v==("__debug__":Str))=false) (N:(v==("__classdict__":Str))=false)
  (I:∀env:Env,swapsWith (.Name v p) @(.Attribute (.Name b u) d r) n.line env=pure false):aY P w K G base tX (k+1) fa z [b,v] (A9 C d):=by
 refine F.ok S (λ B H Q E h=>?_) (λ Z A f s H B Q E hr h=>?_)
 .let⟨a,t,y,rfl,_⟩:=h;rfl
 .let⟨a,t,y,rfl,L,q⟩:=h;rw[m];refine⟨_,yi (yX c D (n8 (i:=0) rfl j T R) (n8 (i:=1) rfl g O N) (I _)),?_⟩;exact⟨y,rfl,V.ref a,rfl,a,t,rfl,L,λ U J l=>q U J l⟩
end L2
namespace D
open PySem PySem.Spec PyProof.Rows L2 List
variable{H H2:Hp}{d p:Addr}{e:Expr}{n:Nat}{o:O}{v:V}{vs:List V}{w:W}{ws:List W}{Δ:Option Addr}{J β2:List Addr}{Y:L2.St}
def nq(K:ae)(H:Hp)(a:Addr)(xs:List V):Prop:=(∃o,H a=@(.frz o (.lst xs)))\/
 ∃(o:Obj) (b:Array Value) (n:Nat),K.lookup a=some o/\o.cls=.type "list"/\o.dict=none/\o.data=.seq b n/\b.size<=sizeLine/\Vals xs b.toList
theorem nq.l{K:ae}{a:Addr}{xs:List V}(h:nq K H a xs):dI K H a xs:=h.elim (λ ⟨o,e⟩=>.inl (.inr ⟨o,e⟩)) .inr
def ah(K:ae)(c:Str):Addr:=match PySem.W.nsIn K mainGlobals c with
 |some (some (.ref C))=>C
 |_=>0
set_option genInjectivity false in
structure Cl where
 P:Program
 w:World
section
variable(K:ae)(cl:Cl)
mutual
inductive RW(J:List Addr)(H:Hp):W->V->Prop
 |non:RW J H .non .non
 |bl (b:Bool):RW J H (.bl b) (.bl b)
 |int (i:Int):RW J H (.int i) (.int i)
 |str (x:Str):RW J H (.str x) (.str x)
 |tup {a vs xs}:bI K H a vs->aA J H xs vs->RW J H (.tup xs) (.ref a)
 |fz {a vs xs}:nq K H a vs->aA J H xs vs->RW J H (.fz xs) (.ref a)
 |obj {a c ks xs dx o fs}:H a=some (.frz o (.ins (ah K c) dx fs))->ks=fs.map (·.1)->aA J H xs (fs.map (·.2))->RW J H (.obj c ks xs) (.ref a)
 |ref {n a}:J[n]?=some a->RW J H (.ref n) (.ref a)
inductive aA(J:List Addr)(H:Hp):List W->List V->Prop
 |nil:aA J H [] []
 |cons {w:W} {v:V} {ws:List W} {vs:List V}:RW J H w v->aA J H ws vs->aA J H (w::ws) (v::vs)
end
inductive cV(J:List Addr)(H:Hp):List (Str×W)->List (Str×V)->Prop
 |nil:cV J H [] []
 |cons {f w v ws vs}:RW K J H w v->cV J H ws vs->cV J H ((f,w)::ws) ((f,v)::vs)
def keyed(a:List (Str×V)):List (Key×V):=a.map λ p=>(.inr p.1,p.2)
def XD(H:Hp)(a:Option Addr)(f:Str)(vs:List V):Prop:=(a=none/\vs=[])\/∃b y,a=some b/\vs=[y]/\H b=@(.xd [(f,y)])
def RO(J:List Addr)(H:Hp)(a:Addr):O->Prop
 |.lst ws=>∃vs,H a=some (.lst vs)/\aA K J H ws vs
 |.ins c fs=>∃dx b,H a=some (.ins (ah K c) dx b)/\cV K J H fs b
 |.set ks=>∃S,H a=some (iB cl.P cl.w a S ks.length)/\∀k,S k=mC k ks
 |.dic fs=>∃b,H a=some (.dK (keyed b))/\cV K J H fs b
 |.exc c f ws=>∃h g vs,H a=some (dY a h)/\o6 (ah K c) g h/\aA K J H ws vs/\XD H g f vs
structure Rel(J:List Addr)(m:Mem)(H:Hp):Prop where
 len:J.length=m.length
 nd:J.Nodup
 obj:∀{n:Nat} {o:O} {a:Addr},m[n]?=some o->J[n]?=some a->RO K cl J H a o
structure bB(Δ:Option Addr)(J:List Addr)(H:Hp)(J':List Addr)(H':Hp):Prop where
 pre:∃γ,J'=J++γ/\∀a∈γ,H a=none
 keep:∀{a:Addr} {o:HO},H a=some o->a∉J->some a≠Δ->H' a=some o
abbrev Ext:=bB none
structure RL(J:List Addr)(H:Hp)(Z:Loc)(Y:L2.St):Prop where
 len:Z.length=Y.length
 at_:∀{i:Nat} {w:W},Z[i]?=some (some w)->∃v,Y[i]?=some (some v)/\RW K J H w v
end
section
variable{K:ae}{cl:Cl}{J J' J'':List Addr}{H H' qL:Hp}{m m':Mem}{a:Addr}
theorem Rel.mem(r:Rel K cl J m H)(h:a∈J):∃(n:Nat) (o:O),J[n]?=some a/\m[n]?=some o/\RO K cl J H a o:=by
 let⟨n,b⟩:=PM h;have c:n<m.length:=by
  have:=(Mw.mp b).1;rw[r.len] at this;exact this
 exact⟨n,m[n],b,by simp[c],r.obj (by simp[c]) b⟩
theorem RO.ex(h:RO K cl J H a o):∃u,H a=some u/\(∀xs,u≠.tup xs)/\∀g x,u≠.frz g x:=by
 cases o with
 |lst ws=>let⟨vs,e,_⟩:=h;exact⟨_,e,(by intro _ z;cases z),(by intro _ _ z;cases z)⟩
 |ins c fs=>let⟨l,b,e,_⟩:=h;exact⟨_,e,(by intro _ z;cases z),(by intro _ _ z;cases z)⟩
 |set k=>let⟨S,e,_⟩:=h;exact⟨_,e,(by intro _ z;cases z),(by intro _ _ z;cases z)⟩
 |dic fs=>let⟨b,e,_⟩:=h;exact⟨_,e,(by intro _ z;cases z),(by intro _ _ z;cases z)⟩
 |exc c f ws=>let⟨j,i,vs,e,_⟩:=h;exact⟨_,e,(by intro _ z;cases z),(by intro _ _ z;cases z)⟩
theorem RO.G4(h:RO K cl J H a o)(g:List (Str×V)):H a≠some (.xd g):=λ q=>by
 cases o with
 |lst ws=>let⟨vs,e,_⟩:=h;rw[q] at e;cases e
 |ins c g=>let⟨l,b,e,_⟩:=h;rw[q] at e;cases e
 |set k=>let⟨S,e,_⟩:=h;rw[q] at e;cases e
 |dic g=>let⟨b,e,_⟩:=h;rw[q] at e;cases e
 |exc c f ws=>let⟨j,i,vs,e,_⟩:=h;rw[q] at e;cases e
theorem Rel.G4(r:Rel K cl J m H){b:List (Str×V)}(e:H a=@(.xd b)):a∉J:=λ h=>by
 let⟨n,o,_,_,x⟩:=r.mem h;exact x.G4 b e
theorem Rel.ex(r:Rel K cl J m H)(h:a∈J):∃u,H a=some u/\(∀xs,u≠.tup xs)/\∀b x,u≠.frz b x:=by
 let⟨n,o,_,_,x⟩:=r.mem h;exact x.ex
theorem Ext.refl:bB Δ J H J H:=⟨⟨[],by simp,by simp⟩,λ h _ _=>h⟩
theorem bB.trans(x:bB Δ J H J' H')(k:Rel K cl J' m' H')(y:bB Δ J' H' J'' qL)(q:∀d,Δ=some d->H' d≠none:=by intro d z;cases z):bB Δ J H J'' qL:=by
 let⟨j,rfl,c⟩:=x.pre;let⟨i,rfl,b⟩:=y.pre;refine⟨⟨j++i,by simp,λ a l=>?_⟩,λ {a o} h hn f=>?_⟩
 .rcases M7.mp l with z | z
  .exact c a z
  .by_cases g:a∈J
   .let⟨u,e,_⟩:=k.ex (NO _ g);rw[b a z] at e;cases e
   .cases e:H a with
    |none=>rfl
    |some o=>
     by_cases f:some a=Δ
     .exact absurd (b a z) (q a f.symm)
     .have:=x.keep e g f;rw[b a z] at this;cases this
 .refine y.keep (x.keep h hn f) (λ z=>?_) f;rcases M7.mp z with z | z
  .exact hn z
  .rw[c a z] at h;cases h
def gf:Option HO->Prop
 |some (.lst _)=>True
 |some (.dK _)=>True
 |_=>False
theorem bB.toD(x:Ext J H J' H'):bB (some d) J H J' H':=⟨x.pre,λ h b _=>x.keep h b 's'⟩
theorem bB.IE(x:bB Δ J H J' H')(r:Rel K cl J m H)(i:∀d,Δ=some d->gf (H d))(h:bI K H a vs):bI K H' a vs:=by
 rcases h with h | h
 .refine .inl ?_;have c:a∉J:=λ z=>by
   let⟨u,e,g,f⟩:=r.ex z;rcases h with h | ⟨o,h⟩
   .rw[h] at e;cases e;exact g _ rfl
   .rw[h] at e;cases e;exact f _ _ rfl
  have b:some a≠Δ:=λ z=>by
   have e:=i a z.symm;rcases h with h | ⟨o,h⟩
   .rw[h] at e;exact e
   .rw[h] at e;exact e
  rcases h with h | ⟨o,h⟩
  .exact .inl (x.keep h c b)
  .exact .inr ⟨o,x.keep h c b⟩
 .exact .inr h
theorem bB.Ls(x:bB Δ J H J' H')(r:Rel K cl J m H)(c:∀d,Δ=some d->gf (H d))(h:nq K H a vs):nq K H' a vs:=by
 rcases h with⟨o,h⟩ | h
 .refine .inl ⟨o,x.keep h (λ z=>?_) λ z=>?_⟩
  .let⟨u,e,f,b⟩:=r.ex z;rw[h] at e;cases e;exact b _ _ rfl
  .have e:=c a z.symm;rw[h] at e;exact e
 .exact .inr h
theorem bB.fz(x:bB Δ J H J' H')(r:Rel K cl J m H)(c:∀d,Δ=some d->gf (H d)){o:Obj}{u:HO}(h:H a=@(.frz o u)):H' a=some (.frz o u):=by
 refine x.keep h (λ z=>?_) λ z=>?_
 .let⟨u,e,f,b⟩:=r.ex z;rw[h] at e;cases e;exact b _ _ rfl
 .have e:=c a z.symm;rw[h] at e;exact e
theorem bB.get(x:bB Δ J H J' H')(h:J[n]?=some a):J'[n]?=some a:=by
 let⟨b,rfl,_⟩:=x.pre;rw[MI (Mw.mp h).1];exact h
theorem RW.gen(c:∀{a:Addr} {vs:List V},bI K H a vs->bI K H2 a vs)(j:∀{a:Addr} {vs:List V},nq K H a vs->nq K H2 a vs)(g:∀{a:Addr} {o:Obj} {u:HO},H a=some (.frz o u)->H2 a=@(.frz o u))(f:∀{n:Nat} {a:Addr},J[n]?=some a->β2[n]?=some a)(q:RW K J H w v):RW K β2 H2 w v:=
 RW.rec (motive_1:=λ w v _=>RW K β2 H2 w v) (motive_2:=λ w v _=>aA K β2 H2 w v) .non .bl .int .str (λ h _ i=>.tup (c h) i) (λ h _ i=>.fz (j h) i) (λ h e _ i=>.obj (g h) e i) (λ h=>.ref (f h)) .nil (λ _ _ a b=>.cons a b) q
theorem aA.sZ(f:∀{w:W} {v:V},RW K J H w v->RW K β2 H2 w v){w:List W}{v:List V}(q:aA K J H w v):aA K β2 H2 w v:=by
 induction w generalizing v with
 |nil=>cases q;exact .nil
 |cons x w c=>cases q with | cons a b=>exact .cons (f a) (c b)
theorem cV.sZ(f:∀{w:W} {v:V},RW K J H w v->RW K β2 H2 w v){w:List (Str×W)}{v:List (Str×V)}(q:cV K J H w v):cV K β2 H2 w v:=by
 induction q with
 |nil=>exact .nil
 |cons a b c=>exact .cons (f a) c
theorem RW.bf(r:Rel K cl J m H)(b:∀d,Δ=some d->gf (H d))(x:bB Δ J H J' H')(q:RW K J H w v):RW K J' H' w v:=
 q.gen (x.IE r b) (x.Ls r b) (x.fz r b) x.get
theorem aA.bf(r:Rel K cl J m H)(b:∀d,Δ=some d->gf (H d))(x:bB Δ J H J' H'){w:List W}{v:List V}(q:aA K J H w v):aA K J' H' w v:=q.sZ (RW.bf r b x)
theorem yd{P:Addr->Prop}:∀d,(none:Option Addr)=some d->P d:=λ d z=>by cases z
theorem RW.mono(r:Rel K cl J m H)(x:Ext J H J' H')(h:RW K J H w v):RW K J' H' w v:=h.bf r yd x
theorem aA.mono(r:Rel K cl J m H)(x:Ext J H J' H'){w:List W}{v:List V}(h:aA K J H w v):aA K J' H' w v:=h.bf r yd x
theorem cV.bf(r:Rel K cl J m H)(b:∀d,Δ=some d->gf (H d))(x:bB Δ J H J' H'){w:List (Str×W)}{v:List (Str×V)}(q:cV K J H w v):cV K J' H' w v:=q.sZ (RW.bf r b x)
theorem RL.bf(r:Rel K cl J m H)(b:∀d,Δ=some d->gf (H d))(x:bB Δ J H J' H'){Z:Loc}(l:RL K J H Z Y):RL K J' H' Z Y:=
 ⟨l.len,λ h=>let ⟨v,e,q⟩:=l.at_ h;⟨v,e,q.bf r b x⟩⟩
theorem RL.mono(r:Rel K cl J m H)(x:Ext J H J' H'){Z:Loc}(l:RL K J H Z Y):RL K J' H' Z Y:=l.bf r yd x
theorem RO.bf(r:Rel K cl J m H)(i:∀d,Δ=some d->gf (H d))(x:bB Δ J H J' H')(g:H' a=H a)(h:RO K cl J H a o):RO K cl J' H' a o:=by
 cases o with
 |lst ws=>let⟨vs,e,t⟩:=h;exact⟨vs,g.trans e,t.bf r i x⟩
 |ins c fs=>let⟨j,b,e,t⟩:=h;exact⟨j,b,g.trans e,t.bf r i x⟩
 |set B=>let⟨S,e,t⟩:=h;exact⟨S,g.trans e,t⟩
 |dic fs=>let⟨b,e,t⟩:=h;exact⟨b,g.trans e,t.bf r i x⟩
 |exc c f ws=>
  let⟨s,q,vs,e,l,t,d⟩:=h;refine⟨s,q,vs,g.trans e,l,t.bf r i x,?_⟩;rcases d with d | ⟨j,y,A,u,k⟩
  .exact .inl d
  .refine .inr ⟨j,y,A,u,x.keep k (r.G4 k) λ z=>?_⟩;have e:=i j z.symm;rw[k] at e;exact e
theorem RO.mono(r:Rel K cl J m H)(x:Ext J H J' H')(b:H' a=H a)(h:RO K cl J H a o):RO K cl J' H' a o:=h.bf r yd x b
theorem aA.length:∀{ws:List W} {vs:List V},aA K J H ws vs->ws.length=vs.length
 |_,_,.nil=>rfl
 |_,_,.cons _ t=>by rw[MX,MX,aA.length t]
theorem aA.get:∀{ws:List W} {vs:List V} {i:Nat} {w:W},aA K J H ws vs->ws[i]?=some w->∃v,vs[i]?=some v/\RW K J H w v
 |_,_,_,_,.nil,e=>by simp at e
 |_,_,0,_,.cons h t,e=>by simp at e;subst e;exact⟨_,rfl,h⟩
 |_,_,i+1,_,.cons h t,e=>by simpa using aA.get (i:=i) t (~~~e)
theorem aA.append:∀{v w:List W} {d e:List V},aA K J H v d->aA K J H w e->aA K J H (v++w) (d++e):=by
 intro v
 induction v with
 |nil=>intro w d e h s;cases h;exact s
 |cons x v b=>intro w d e h s;cases h with | cons q t=>exact .cons q (b t s)
theorem aA.take:∀{ws:List W} {vs:List V} (n:Nat),aA K J H ws vs->aA K J H (ws.take n) (vs.take n)
 |_,_,0,_=>.nil
 |_,_,_+1,.nil=>.nil
 |_,_,n+1,.cons h t=>.cons h (aA.take n t)
theorem aA.drop:∀{ws:List W} {vs:List V} (n:Nat),aA K J H ws vs->aA K J H (ws.drop n) (vs.drop n)
 |_,_,0,r=>r
 |_,_,_+1,.nil=>.nil
 |_,_,n+1,.cons h t=>aA.drop n t
theorem aA.set(r:RW K J H w v):∀{ws:List W} {vs:List V} (i:Nat),aA K J H ws vs->aA K J H (ws.set i w) (vs.set i v)
 |_,_,_,.nil=>.nil
 |_,_,0,.cons _ t=>.cons r t
 |_,_,i+1,.cons q t=>.cons q (aA.set r i t)
theorem aA.bools{f:List Bool}:∀{ws:List W} {vs:List V},aA K J H ws vs->D.bools ws=Option.some f->vs=f.map V.bl:=by
 induction f with
 |nil=>
  intro ws vs h e;cases h with
  |nil=>rfl
  |cons q t=>cases q<;>simp[D.bools] at e
 |cons b f g=>
  intro ws vs h e;cases h with
  |nil=>simp[D.bools] at e
  |cons q t=>
   cases q with
   |bl c=>
    erw[D.bools,Mt] at e;let⟨r,j,i⟩:=e;cases i;rw[g t j];rfl
   |_=>simp[D.bools] at e
theorem RW.sub(h:∀{n:Nat} {a:Addr},J[n]?=Option.some a->J'[n]?=Option.some a)(q:RW K J H w v):RW K J' H w v:=q.gen id id id h
theorem aA.sub(h:∀{n:Nat} {a:Addr},J[n]?=Option.some a->J'[n]?=Option.some a){w:List W}{v:List V}(q:aA K J H w v):aA K J' H w v:=q.sZ (RW.sub h)
theorem cV.sub(h:∀{n:Nat} {a:Addr},J[n]?=Option.some a->J'[n]?=Option.some a){w:List (Str×W)}{v:List (Str×V)}(q:cV K J H w v):cV K J' H w v:=q.sZ (RW.sub h)
theorem RO.sub(h:∀{n:Nat} {a:Addr},J[n]?=Option.some a->J'[n]?=Option.some a)(q:RO K cl J H a o):RO K cl J' H a o:=by
 cases o with
 |lst ws=>let⟨vs,e,t⟩:=q;exact⟨vs,e,t.sub h⟩
 |ins c fs=>let⟨k,b,e,t⟩:=q;exact⟨k,b,e,t.sub h⟩
 |set l=>exact q
 |dic fs=>let⟨b,e,t⟩:=q;exact⟨b,e,t.sub h⟩
 |exc c f ws=>let⟨j,i,vs,e,g,t,d⟩:=q;exact⟨j,i,vs,e,g,t.sub h,d⟩
theorem Rel.kM(r:Rel K cl J m H)(b:H p=none)(vs:List V):Ext J H J (upd H p (.tup vs))/\Rel K cl J m (upd H p (.tup vs)):=by
 have x:Ext J H J (upd H p (.tup vs)):=⟨⟨[],by simp,by simp⟩,λ h _ _=>by rw[ai (au h b)];exact h⟩;refine⟨x,r.len,r.nd,λ f c=>?_⟩;have q:=r.obj f c;let⟨u,e,_⟩:=q.ex;exact q.mono r x (ai (au e b))
theorem Rel.G5(r:Rel K cl J m H)(b:H p=none):p∉J:=λ z=>by
 let⟨u,e,_⟩:=r.ex z;rw[b] at e;cases e
theorem Rel.zc(r:Rel K cl J m H){ho:HO}(g:H p=none)(q:∀x:Ext J H (J++[p]) (upd H p ho),RO K cl (J++[p]) (upd H p ho) p o):Ext J H (J++[p]) (upd H p ho)/\Rel K cl (J++[p]) (m++[o]) (upd H p ho):=by
 have x:Ext J H (J++[p]) (upd H p ho):=⟨⟨[p],rfl,λ a i=>by simp at i;rw[i];exact g⟩,λ h _ _=>by rw[ai (au h g)];exact h⟩;refine⟨x,by simp[r.len],?_,λ {n s a} c f=>?_⟩
 .rw[PD];refine⟨r.nd,by simp,λ a i b k=>?_⟩;simp at k;subst k;rintro rfl;exact r.G5 g i
 .by_cases j:n<m.length
  .rw[MI j] at c;rw[MI (by rw[r.len];exact j)] at f;have q:=r.obj c f;let⟨u,e,_⟩:=q.ex;exact q.mono r x (ai (au e g))
  .have l:=(Mw.mp c).1;simp at l;have e:n=m.length:=by lia
   subst e;rw[ML (MB _)] at c;rw[<-r.len,ML (MB _)] at f;simp at c f;subst c f;exact q x
theorem Rel.newL(r:Rel K cl J m H)(b:H p=none)(q:aA K J H ws vs):Ext J H (J++[p]) (upd H p (.lst vs))/\Rel K cl (J++[p]) (m++[.lst ws]) (upd H p (.lst vs)):=
 r.zc b λ x=>⟨vs,aq,q.mono r x⟩
theorem Rel.JS(r:Rel K cl J m H){u':HO}(f:gf (H d))(c:d∉J):bB (Option.some d) J H J (upd H d u')/\Rel K cl J m (upd H d u'):=by
 have x:bB (Option.some d) J H J (upd H d u'):=⟨⟨[],by simp,by simp⟩,λ {a o} h _ na=>by rw[ai (λ z=>na (by rw[z]))];exact h⟩;refine⟨x,r.len,r.nd,λ g b=>?_⟩;have q:=r.obj g b;refine q.bf r (λ i z=>?_) x (ai λ z=>?_)
 .cases z;exact f
 .exact c (by rw[<-z];exact M3 b)
theorem Rel.out(r:Rel K cl J m H){i:O}(l:d∉J)(t:RO K cl J H d i):Rel K cl (J++[d]) (m++[i]) H:=by
 have g:∀{n:Nat} {a:Addr},J[n]?=Option.some a->(J++[d])[n]?=Option.some a:=λ {n a} h=>by
  rw[MI (Mw.mp h).1];exact h
 refine⟨by simp[r.len],?_,λ {n o a} c f=>?_⟩
 .rw[PD];refine⟨r.nd,by simp,λ a q b k=>?_⟩;simp at k;subst k;rintro rfl;exact l q
 .by_cases j:n<m.length
  .rw[MI j] at c;rw[MI (by rw[r.len];exact j)] at f;exact(r.obj c f).sub g
  .have s:=(Mw.mp c).1;simp at s;have e:n=m.length:=by lia
   subst e;rw[ML (MB _)] at c;rw[<-r.len,ML (MB _)] at f;simp at c f;subst c f;exact t.sub g
theorem Rel.last(r:Rel K cl J m H)(p:Addr):(J++[p])[m.length]?=Option.some p:=by
 rw[<-r.len,ML (MB _)];simp
theorem Rel.G6(r:Rel K cl J m H){l:List W}{c:List V}(t:m[n]?=Option.some o)(j:J[n]?=Option.some a)(q:aA K J H l c):Ext J H J (upd H a (.lst c))/\Rel K cl J (m.set n (.lst l)) (upd H a (.lst c)):=by
 have y:a∈J:=M3 j;have x:Ext J H J (upd H a (.lst c)):=⟨⟨[],by simp,by simp⟩,λ {b u} h hn _=>by rw[ai (show b≠a from λ z=>hn (by rw[z];exact y))];exact h⟩;refine⟨x,by simp[r.len],r.nd,λ {k C b} g f=>?_⟩
 by_cases i:n=k
 .subst i;rw[j] at f;cases f;rw[Nd (Mw.mp t).1] at g;cases g;exact⟨c,aq,q.mono r x⟩
 .rw[Na i] at g;have s:=r.obj g f;refine s.mono r x (ai ?_);rintro rfl;let⟨E,B⟩:=Mw.mp f;let⟨D,A⟩:=Mw.mp j;exact i ((PY r.nd).mp (A.trans B.symm))
theorem Rel.getL(r:Rel K cl J m H)(q:RW K J H w v)(e:D.getL m w=Option.some ws):∃a vs,v=.ref a/\dI K H a vs/\aA K J H ws vs:=by
 cases q with
 |ref h=>
  unfold D.getL at e;dsimp only at e;split at e
  .ext c b;cases e;let⟨vs,z,t⟩:=r.obj b h;exact⟨_,vs,rfl,.inl (.inl z),t⟩
  .cases e
 |fz h t=>cases e;exact⟨_,_,rfl,h.l,t⟩
 |_=>simp[D.getL] at e
theorem Rel.bM(r:Rel K cl J m H)(q:RW K J H w v)(e:D.bM m w=Option.some ws):∃a vs,v=.ref a/\(dI K H a vs\/bI K H a vs)/\aA K J H ws vs:=by
 cases w with
 |tup xs=>
  cases q with
  |tup h t=>
   cases e;exact⟨_,_,rfl,.inr h,t⟩
 |_=>
  let⟨a,vs,f,c,b⟩:=r.getL q e;exact⟨a,vs,f,.inl c,b⟩
theorem Rel.lst(r:Rel K cl J m H)(q:RW K J H (.ref n) v)(e:m[n]?=Option.some (.lst ws)):∃a vs,v=.ref a/\J[n]?=Option.some a/\H a=Option.some (.lst vs)/\aA K J H ws vs:=by
 cases q with
 |ref h=>
  let⟨vs,z,t⟩:=r.obj e h;exact⟨_,vs,rfl,h,z,t⟩
theorem dZ{f:W->Option PyData}:∀{ws:List W} {vs:List V} {b:List PyData},(∀w v d,w∈ws->RW K J H w v->f w=Option.some d->Dt K H v d)->aA K J H ws vs->cH f ws=Option.some b->AU K H vs b
 | [],_,_,_,.nil,e=>by cases e;exact .nil
 |w::ws,_,_,h,.cons q t,e=>by
  unfold cH at e;split at e
  .cases e
  .ext d k;split at e
   .cases e
   .ext b j;cases e;exact .cons (h w _ d Nc q k) (dZ (λ c g d' i=>h c g d' (MP _ i)) t j)
theorem dF(r:Rel K cl J m H):∀(n:Nat) {w:W} {v:V} {d:PyData},RW K J H w v->toD n m w=Option.some d->Dt K H v d
 |0,_,_,_,_,e=>by cases e
 |n+1,w,v,d,q,e=>by
  unfold toD at e;cases q with
  |non=>cases e;exact .non
  |bl b=>cases e;exact .bl b
  |int i=>cases e;exact .int i
  |str x=>
   dsimp only at e;split at e
   .cases e;exact .str x
   .cases e
  |tup h t=>
   erw[Mt] at e;let⟨g,f,c⟩:=e;subst c;exact .tup h (dZ (λ w v d _ q e=>dF r n q e) t f)
  |fz h t=>
   erw[Mt] at e;let⟨g,f,c⟩:=e;subst c;exact .lst h.l (dZ (λ w v d _ q e=>dF r n q e) t f)
  |obj h y t=>cases e
  |ref h=>
   dsimp only at e;split at e
   .ext xs f;erw[Mt] at e;let⟨g,c,u⟩:=e;subst u;let⟨a,vs,s,k,j⟩:=r.getL (.ref h) f;cases s;exact .lst k (dZ (λ w v d _ q e=>dF r n q e) j c)
   .cases e
theorem d8{f:W->Option PyData}:∀{ws:List W} {b:List PyData},(∀w d,f w=Option.some d->d.canLay0=true/\d.depth<=n)->cH f ws=Option.some b->PyData.canLayAll0 b=true/\PyData.depthAll b<=n
 | [],_,_,e=>by cases e;exact⟨rfl,Pc _⟩
 |w::ws,_,h,e=>by
  unfold cH at e;split at e
  .cases e
  .ext d g;split at e
   .cases e
   .ext b c;cases e;let⟨j,l⟩:=h w d g;let⟨i,k⟩:=d8 h c;refine⟨by simp[PyData.canLayAll0,j,i],?_⟩;erw[PyData.depthAll];lia
theorem bz:∀(n:Nat) {w:W} {d:PyData},toD n m w=Option.some d->d.canLay0=true/\d.depth<=n
 |0,_,_,e=>by cases e
 |n+1,w,d,e=>by
  unfold toD at e;cases w with
  |non=>cases e;exact⟨rfl,by simp[PyData.depth]⟩
  |bl b=>cases e;exact⟨rfl,by simp[PyData.depth]⟩
  |int i=>cases e;exact⟨rfl,by simp[PyData.depth]⟩
  |str x=>
   dsimp only at e;split at e
   .ext q;cases e;exact⟨q,by simp[PyData.depth]⟩
   .cases e
  |tup xs=>
   erw[Mt] at e;let⟨j,h,f⟩:=e;subst f;let⟨g,l⟩:=d8 (λ w d e=>bz n e) h;exact⟨g,by erw[PyData.depth];lia⟩
  |fz xs=>
   erw[Mt] at e;let⟨j,h,f⟩:=e;subst f;let⟨g,l⟩:=d8 (λ w d e=>bz n e) h;exact⟨g,by erw[PyData.depth];lia⟩
  |obj c ks vs=>cases e
  |ref k=>
   dsimp only at e;split at e
   .erw[Mt] at e;let⟨j,f,r⟩:=e;subst r;let⟨g,l⟩:=d8 (λ w d e=>bz n e) f;exact⟨g,by erw[PyData.depth];lia⟩
   .cases e
theorem R.af{b γ:Type}{x:R b}{f:b->Mem->R γ}{c:γ}(h:x.bind f=.ok c m'):∃a m,x=.ok a m/\f a m=.ok c m':=by
 cases x with
 |no=>cases h
 |ok a m=>exact⟨a,m,rfl,h⟩
end
structure UN(X:L2.Cx)(cl:Cl):Prop where
 un:X.A.units+64<cLine
 P:cl.P=X.prog
 w:cl.w=X.w
 gd:X.A.guards=some []
theorem bu:lim<=sizeLine:=by rw[NS];decide
section
variable(X:L2.Cx)(cl:Cl)
inductive SE(ev:Loc->Mem->R W)(Y:L2.St)(H:Hp)(Q:VK):Prop
 |mk (J:List Addr) (Z:Loc) (m:Mem) (w:W) (m':Mem) (h1:Rel X.K cl J m H) (h2:RL X.K J H Z Y) (h3:ev Z m=.ok w m') (h4:∀J' H' v,Ext J H J' H'->Rel X.K cl J' m' H'->RW X.K J' H' w v->Q v H'):SE ev Y H Q
inductive ST(ev:Loc->Mem->R Bool)(Y:L2.St)(H:Hp)(Q:Bool->Hp->Prop):Prop
 |mk (J:List Addr) (Z:Loc) (m:Mem) (b:Bool) (m':Mem) (h1:Rel X.K cl J m H) (h2:RL X.K J H Z Y) (h3:ev Z m=.ok b m') (h4:∀J' H',Ext J H J' H'->Rel X.K cl J' m' H'->Q b H'):ST ev Y H Q
inductive SA(ev:Loc->Mem->R (List W))(Y:L2.St)(H:Hp)(Q:List V->Hp->Prop):Prop
 |mk (J:List Addr) (Z:Loc) (m:Mem) (ws:List W) (m':Mem) (h1:Rel X.K cl J m H) (h2:RL X.K J H Z Y) (h3:ev Z m=.ok ws m') (h4:∀J' H' vs,Ext J H J' H'->Rel X.K cl J' m' H'->aA X.K J' H' ws vs->Q vs H'):SA ev Y H Q
inductive E6(ev:Loc->Mem->R (Option Int))(Y:L2.St)(H:Hp)(Q:Option Int->Hp->Prop):Prop
 |mk (J:List Addr) (Z:Loc) (m:Mem) (o:Option Int) (m':Mem) (h1:Rel X.K cl J m H) (h2:RL X.K J H Z Y) (h3:ev Z m=.ok o m') (h4:∀J' H',Ext J H J' H'->Rel X.K cl J' m' H'->Q o H'):E6 ev Y H Q
inductive zd(f:W->W->Mem->R W)(x y:V)(H:Hp)(Q:VK):Prop
 |mk (J:List Addr) (m:Mem) (wx wy w:W) (m':Mem) (h1:Rel X.K cl J m H) (h2:RW X.K J H wx x) (h3:RW X.K J H wy y) (h4:f wx wy m=.ok w m') (h5:∀J' H' v,Ext J H J' H'->Rel X.K cl J' m' H'->RW X.K J' H' w v->Q v H'):zd f x y H Q
inductive KU(f:List W->Mem->R W)(xs:List V)(H:Hp)(Q:VK):Prop
 |mk (J:List Addr) (m:Mem) (ws:List W) (w:W) (m':Mem) (h1:Rel X.K cl J m H) (h2:aA X.K J H ws xs) (h3:f ws m=.ok w m') (h4:∀J' H' v,Ext J H J' H'->Rel X.K cl J' m' H'->RW X.K J' H' w v->Q v H'):KU f xs H Q
end
theorem PE.imp{X:L2.Cx}{t t':TE}(h:PE X e t)(i:∀Y H Q,t' Y H Q->t Y H Q):PE X e t':=λ a s Y H Q I q=>h a s Y H Q I (i Y H Q q)
theorem PT.imp{X:L2.Cx}{t t':TT}(h:PT X e t)(i:∀Y H Q,t' Y H Q->t Y H Q):PT X e t':=λ a s Y H Q I q=>h a s Y H Q I (i Y H Q q)
theorem PW.imp{X:L2.Cx}{t t':TT}(h:PW X e t)(i:∀Y H Q,t' Y H Q->t Y H Q):PW X e t':=λ a b s Y H Q I q=>h a b s Y H Q I (i Y H Q q)
theorem PA.imp{X:L2.Cx}{e:List Expr}{t t':TA}(h:PA X e t)(i:∀Y H Q,t' Y H Q->t Y H Q):PA X e t':=λ a b s Y H Q I q=>h a b s Y H Q I (i Y H Q q)
theorem PO.imp{X:L2.Cx}{e:Option Expr}{t t':TO}(h:PO X e t)(i:∀Y H Q,t' Y H Q->t Y H Q):PO X e t':=λ a s Y H Q I q=>h a s Y H Q I (i Y H Q q)
theorem gh{z:Str}:∀(a:List (Str×V)),fV (keyed a) (.inr z)=a.lookup z:=by
 intro a
 induction a with
 |nil=>rfl
 |cons p r b=>
  let⟨k,v⟩:=p;unfold fV keyed at b ⊢;rw[Nj,Ou,MH]
  by_cases h:k=z
  .subst h;simp
  .have f:(z==k)=false:=by simpa using λ e=>h e.symm
   have c:decide ((Sum.inr k:Key)=.inr z)=false:=Nt λ e=>h (Sum.inr.inj e);rw[f];erw[c];exact b
theorem cV.look{K:ae}{z:Str}{b:List (Str×W)}{a:List (Str×V)}(h:cV K J H b a):(b.lookup z).isSome=(a.lookup z).isSome/\∀w,b.lookup z=some w->∃v,a.lookup z=some v/\RW K J H w v:=by
 induction h with
 |nil=>exact⟨rfl,λ w e=>by cases e⟩
 |@cons f w v ws vs q t c=>
  rw[MH,MH];cases h:z==f with
  |true=>exact⟨rfl,λ g e=>by cases e;exact⟨v,rfl,q⟩⟩
  |false=>exact c
theorem DA{X:L2.Cx}:CT X (λ x y H Q=>∃z a i v,y=.str z/\x=.ref a/\H a=some (.dK (keyed i))/\i.lookup z=some v/\Q v H):=by
 intro b c D s Y H x y v u Q I m l h t;let⟨z,a,i,o,rfl,rfl,e,A,q⟩:=h;cases m;let⟨_,C,vs,g,j⟩:=qe I.hok (.inl e);let⟨B,r,f⟩:=cC.some_of (v:=o) (o:=valueAt vs (.inr z)) (by rw[<-A,<-gh];exact g.val (.inr z));exact tail_any j.typeIs slot_dict_getitem.lookup (wpAny_getItem_of (mh (k:=.inr z) l) j.mapOf r ⟨o,H,I.tok _,f,q⟩) t
section
variable{X:L2.Cx}{cl:Cl}
theorem vC:dg X (binaryOp .Add) (λ x y H Q=>∃a b m,x=.ref a/\y=.ref b/\bI X.K H a []/\bI X.K H b m/\Q (.ref b) H):=by
 intro Z s Y H x y v u Q I E D h;let⟨a,b,m,rfl,rfl,S,R,q⟩:=h;cases E;cases D;let⟨P,G,M,_⟩:=I.tuple S;let⟨c,F,L,_⟩:=I.tuple R;cases G;let⟨⟨U,T,A,C⟩,r,z,n,t⟩:=id M;let⟨⟨B,k,l,j⟩,f,i,N,g⟩:=id L;simp only at z t i g;subst z t i g;exact Pw ⟨_,r,rfl⟩ ⟨_,f,rfl⟩ Pj Qe OD Ox (Oq _ _)
   (tuple_addW0 a b _ c.toArray n N T k C j 's') ⟨r,f,⟨.ref b,H,I,rfl,q⟩⟩
theorem ze:dg X (binaryOp .Add) (λ x y H Q=>∃a b xs l,x=.ref a/\y=.ref b/\dI X.K H a xs/\dI X.K H b l/\xs.length+l.length<=sizeLine/\∀p,H p=none->Q (.ref p) (upd H p (.lst (xs++l)))):=by
 intro aa s Y H x y v u Q I N M h;let⟨a,b,xs,l,rfl,rfl,Z,U,hz,q⟩:=h;cases N;cases M;let⟨f,z,R,_⟩:=I.list Z;let⟨c,g,P,_⟩:=I.list U;let⟨⟨cls,dd,E,L⟩,n,A,D,T,C⟩:=id R;let⟨⟨G,r,t,m⟩,S,i,k,B,j⟩:=id P;simp only at D C k j;subst D C k j;have l1:=z.length;have l2:=g.length;have ea:f.toArray++c.toArray=(f++c).toArray:=by simp
 refine Pw ⟨_,A,rfl⟩ ⟨_,i,rfl⟩ noFill_list_add seq_list_add PySem.F.slot_list_add PySem.F.entry_list_add (PySem.F.args_list_add_2 _ _)
   (list_addW a b f.toArray c.toArray n S dd r L m (by rw[ME,ME];lia)) ⟨A,i,?_⟩
 rw[ea];exact⟨.ref _,_,I.GH (t':=s.toks) (z.append g) (by rw[Nm];lia),rfl,q _ I.fresh⟩
theorem DB(M:Operator):dg X (binaryOp M) (zd X cl (binop M)):=by
 intro i s Y H x y v u Q I g f h;let⟨J,m,wx,Z,w,m',r,q,l,e,k⟩:=h;unfold binop at e;split at e
 .
  split at e
  .cases e;cases q;cases l;exact CG i s Y H _ _ v u Q I g f ⟨_,_,rfl,rfl,k _ _ _ Ext.refl r (.int _)⟩
  .ext P N;split at e
   .ext c;cases e;cases q with
    |tup D j=>
     cases l with
     |tup C A=>
      ext a vs b F;cases j with
      |nil=>exact vC i s Y H _ _ v u Q I g f ⟨_,_,_,rfl,rfl,D,C,k _ _ _ Ext.refl r (.tup C (~~~A))⟩
      |cons j t=>
       ext w1 L R B;have S:(L::B).length+F.length<=lim:=by
        rw[<-(aA.cons j t).length,<-A.length];exact c
       refine yE i s Y H _ _ v u Q I g f ⟨_,_,_,_,rfl,rfl,D,C,by simp,MQ S bu,λ z=>?_,λ z p K=>?_⟩
       .subst z;cases A;exact k _ _ _ Ext.refl r (.tup D (by simpa using aA.cons j t))
       .let⟨E,G⟩:=r.kM K (L::B++F);refine k _ _ _ E G (.tup (.of aq) ?_);exact((aA.cons j t).append A).mono r E
   .cases e
  .unfold yS at e;split at e
   .ext P N U T;split at e
    .ext c;cases e;let⟨a,vs,rfl,D,j⟩:=r.getL q U;let⟨b,F,rfl,C,A⟩:=r.getL l T;refine ze i s Y H _ _ v u Q I g f ⟨_,_,_,_,rfl,rfl,D,C,?_,λ p K=>?_⟩
     .rw[<-j.length,<-A.length];exact MQ c bu
     .let⟨E,G⟩:=r.newL K (j.append A);exact k _ _ _ E G (.ref (r.last p))
    .cases e
   .cases e
 .
  split at e
  .cases e;cases q;cases l;exact CH i s Y H _ _ v u Q I g f ⟨_,_,rfl,rfl,k _ _ _ Ext.refl r (.int _)⟩
  .cases e
 .
  split at e
  .split at e
   .ext c;cases e;cases q;cases l;refine CI i s Y H _ _ v u Q I g f ⟨_,_,rfl,rfl,?_,k _ _ _ Ext.refl r (.int _)⟩;simpa[iC,yq] using c
   .cases e
  .cases e
 .split at e
  .split at e
   .ext c;cases e;cases q;cases l;exact yr i s Y H _ _ v u Q I g f ⟨_,_,rfl,rfl,c,k _ _ _ Ext.refl r (.int _)⟩
   .cases e
  .cases e
 .split at e
  .split at e
   .ext c;cases e;cases q;cases l;exact CJ i s Y H _ _ v u Q I g f ⟨_,_,rfl,rfl,c,k _ _ _ Ext.refl r (.int _)⟩
   .cases e
  .cases e
 .split at e
  .split at e
   .ext c;cases e;cases q;cases l;exact CK i s Y H _ _ v u Q I g f ⟨_,_,rfl,rfl,c,k _ _ _ Ext.refl r (.int _)⟩
   .cases e
  .cases e
 .cases e
theorem G7(q:UN X cl):dg X (compareOp .Eq) (zd X cl λ x y m=>(sJ m x y).bind λ c m=>.ok (.bl c) m):=by
 intro z s Y H x y v u Q I i g h;let⟨J,m,B,A,w,D,r,l,j,e,k⟩:=h;let⟨c,C,a,t⟩:=R.af e;cases t;unfold sJ at a;split at a
 .ext F E b f;cases a;exact C7 q.un z s Y H _ _ v u Q I i g ⟨_,_,dF r _ l b,dF r _ j f,(bz _ b).1,(bz _ f).1,(bz _ b).2,k _ _ _ Ext.refl r (.bl _)⟩
 .cases a
theorem G8(A:UN X cl):dg X (compareOp .NotEq) (zd X cl λ x y m=>((sJ m x y).bind λ b m=>.ok (!b) m).bind λ c m=>.ok (.bl c) m):=by
 intro B s Y H x y v u Q I l j h;let⟨J,m,D,C,w,E,r,t,q,e,k⟩:=h;let⟨c,z,a,g⟩:=R.af e;cases g;let⟨c,z,a,g⟩:=R.af a;cases g;unfold sJ at a;split at a
 .ext G F f i;cases a;exact C8 A.un B s Y H _ _ v u Q I l j ⟨_,_,dF r _ t f,dF r _ q i,(bz _ f).1,(bz _ i).1,(bz _ f).2,k _ _ _ Ext.refl r (.bl _)⟩
 .cases a
theorem gi(U:UN X cl)(b:Bool){N:List (Addr×Obj)}{s:Shared}{x y:V}{v u:Value}{Q:VK}{m F:Mem}{E D:W}{C:List W}{c:Bool}(I:Inv X N Y H s)(R:RelV x v)(P:RelV y u)
  (r:Rel X.K cl J m H) (T:RW X.K J H E x) (S:RW X.K J H D y) (Z:bM m D=some C) (l:mz m E C=.ok c F) (k:F=m->Q (.bl (if b then !c else c)) H) :
  wpAny (model X.prog X.w) X.A (compareOp (if b then .NotIn else .In) v u) (EP X N Y Q) X.xe s:=by
 let⟨a,vs,rfl,g,t⟩:=r.bM S Z;cases P;unfold mz at l;split at l
 .ext d B L G;cases l;have k:=k rfl;let⟨j,l2⟩:=bz _ L;let⟨i,l4⟩:=d8 (λ w d e=>bz 60 e) G;have M:AU X.K H vs B:=dZ (λ w v d _ q e=>dF r _ q e) t G;let⟨as,h⟩:=I.reads (dF r _ T L) R;have z:X.A.units+1+min (PyData.depthAll B) d.depth<cLine:=by
   have:min (PyData.depthAll B) d.depth<=d.depth:=Nat.min_le_right _ _;have:=U.un;lia
  rcases g with g | g
  .let⟨bs,f⟩:=I.reads (Dt.lst g M) (u:=Value.ref a) rfl;cases b with
   |false=>exact SeqAt.in_list_reads f h i j z ⟨.bl _,H,I,rfl,k⟩
   |true=>exact SeqAt.notIn_list_reads f h i j z ⟨.bl _,H,I,rfl,k⟩
  .let⟨bs,f⟩:=I.reads (Dt.tup g M) (u:=Value.ref a) rfl;cases b with
   |false=>exact SeqAt.in_tuple_reads f h i j z ⟨.bl _,H,I,rfl,k⟩
   |true=>exact SeqAt.notIn_tuple_reads f h i j z ⟨.bl _,H,I,rfl,k⟩
 .cases l
theorem aA.ints{K:ae}:∀ns:List Int,aA K J H (ns.map W.int) (ns.map V.int)
 | []=>.nil
 |i::r=>.cons (.int i) (aA.ints r)
theorem aA.bF{K:ae}:∀{ws:List W} {vs:List V} {ns:List Int},aA K J H ws vs->D.bF ws=some ns->vs=ns.map V.int
 |_,_,_,.nil,h=>by cases h;rfl
 |_,_,_,.cons (w:=w) q t,h=>by
  cases w with
  |int i=>
   erw[D.bF,Mt] at h;let⟨r,a,rfl⟩:=h;cases q;rw[t.bF a];rfl
  |_=>cases h
theorem nu{K:ae}{k:L2.Key}(q:RW K J H w v)(e:Dm w=some k):v=kV k:=by
 cases q with
 |int i=>cases e;rfl
 |str x=>cases e;rfl
 |_=>cases e
theorem G9(i:UN X cl):dg X (compareOp .In) (zd X cl λ x y m=>(Dn m x y).bind λ c m=>.ok (.bl c) m):=by
 rintro A s Y H x y v u Q I f b ⟨J,m,N,M,w,Z,r,h,g,e,k⟩;let⟨c,U,a,G⟩:=R.af e;cases G;unfold Dn at a;split at a
 .split at a
  .cases a;cases h;cases g;exact rX A s Y H _ _ v u Q I f b ⟨_,_,rfl,rfl,k _ _ _ Ext.refl r (.bl _)⟩
  .cases a
 .ext n;split at a
  .ext L j;exact gi i false I f b r h g (by simp[bM,getL,j]) a λ z=>by subst z;exact k _ _ _ Ext.refl r (.bl _)
  .ext ks j;split at a
   .ext B F;cases a;cases g with
    |ref l=>
     let⟨S,q,C⟩:=r.obj j l;rw[i.P,i.w] at q;refine sE A s Y H _ _ v u Q I f b ⟨_,S,_,B,rfl,nu h F,q,?_⟩;rw[C];exact k _ _ _ Ext.refl r (.bl _)
   .cases a
  .ext fs j;split at a
   .ext z;cases a;cases h;cases g with
    |ref l=>
     let⟨E,D,t⟩:=r.obj j l;cases b;refine Jy (o:=E.lookup z) (by have:=i.un;lia) I (by rw[<-gh];exact .k (k:=.inr z) D) f λ T K=>⟨.bl _,H,K,rfl,?_⟩;rw[<-t.look.1];exact k _ _ _ Ext.refl r (.bl _)
   .cases a
  .cases a
 .exact gi i false I f b r h g rfl a λ z=>by subst z;exact k _ _ _ Ext.refl r (.bl _)
 .exact gi i false I f b r h g rfl a λ z=>by subst z;exact k _ _ _ Ext.refl r (.bl _)
 .cases a
theorem qM{K:ae}(q:RW K J H w v):decide (v=.non)=uU w:=by
 cases q<;>first | rfl | exact Nt (λ z=>nomatch z)
theorem gj(l:UN X cl)(F:CmpOp):dg X (compareOp F) (zd X cl λ x y m=>(aK F x y m).bind λ c m=>.ok (.bl c) m):=by
 cases F with
 |Eq=>exact G7 l
 |NotEq=>exact G8 l
 |Lt=>
  rintro j s Y H x y v u Q I f b ⟨J,m,A,q,w,C,r,h,g,e,k⟩;let⟨c,B,a,i⟩:=R.af e;cases i;unfold aK at a;dsimp only at a;split at a
  .cases a;cases h;cases g;exact Gx j s Y H _ _ v u Q I f b ⟨_,_,rfl,rfl,k _ _ _ Ext.refl r (.bl _)⟩
  .cases a
 |LtE=>
  rintro j s Y H x y v u Q I f b ⟨J,m,A,q,w,C,r,h,g,e,k⟩;let⟨c,B,a,i⟩:=R.af e;cases i;unfold aK at a;dsimp only at a;split at a
  .cases a;cases h;cases g;exact Gy j s Y H _ _ v u Q I f b ⟨_,_,rfl,rfl,k _ _ _ Ext.refl r (.bl _)⟩
  .cases a;cases h;cases g;exact sF j s Y H _ _ v u Q I f b ⟨_,_,rfl,rfl,k _ _ _ Ext.refl r (.bl _)⟩
  .cases a
 |Gt=>
  rintro j s Y H x y v u Q I f b ⟨J,m,A,q,w,C,r,h,g,e,k⟩;let⟨c,B,a,i⟩:=R.af e;cases i;unfold aK at a;dsimp only at a;split at a
  .cases a;cases h;cases g;exact Gz j s Y H _ _ v u Q I f b ⟨_,_,rfl,rfl,k _ _ _ Ext.refl r (.bl _)⟩
  .cases a
 |GtE=>
  rintro j s Y H x y v u Q I f b ⟨J,m,A,q,w,C,r,h,g,e,k⟩;let⟨c,B,a,i⟩:=R.af e;cases i;unfold aK at a;dsimp only at a;split at a
  .cases a;cases h;cases g;exact GA j s Y H _ _ v u Q I f b ⟨_,_,rfl,rfl,k _ _ _ Ext.refl r (.bl _)⟩
  .cases a
 |Is=>
  rintro j s Y H x y v u Q I f b ⟨J,m,A,q,w,C,r,h,g,e,k⟩;let⟨c,B,a,i⟩:=R.af e;cases i;unfold aK at a;dsimp only at a;split at a
  .cases a;cases g;refine CN j s Y H _ _ v u Q I f b ⟨rfl,?_⟩;rw[qM h];exact k _ _ _ Ext.refl r (.bl _)
  .cases a
 |IsNot=>
  rintro j s Y H x y v u Q I f b ⟨J,m,A,q,w,C,r,h,g,e,k⟩;let⟨c,B,a,i⟩:=R.af e;cases i;unfold aK at a;dsimp only at a;split at a
  .cases a;cases g;refine yt j s Y H _ _ v u Q I f b ⟨rfl,?_⟩;rw[qM h];exact k _ _ _ Ext.refl r (.bl _)
  .cases a
 |In=>exact G9 l
 |NotIn=>
  rintro j s Y H x y v u Q I f b ⟨J,m,A,q,w,C,r,h,g,e,k⟩;let⟨c,B,a,i⟩:=R.af e;cases i;unfold aK at a;dsimp only at a;split at a
  .ext n;split at a
   .ext T G;let⟨L,K,E,D⟩:=R.af a;cases D;exact gi l true I f b r h g (by simp[bM,getL,G]) E λ z=>by subst z;exact k _ _ _ Ext.refl r (.bl _)
   .ext Z G;split at a
    .ext z;cases a;cases h;cases g with
     |ref N=>
      let⟨P,M,t⟩:=r.obj G N;cases b;refine yJ (o:=P.lookup z) (by have:=l.un;lia) I (by rw[<-gh];exact .k (k:=.inr z) M) f λ U S=>⟨.bl _,H,S,rfl,?_⟩;rw[<-t.look.1];exact k _ _ _ Ext.refl r (.bl _)
    .cases a
   .cases a
  .let⟨L,K,E,D⟩:=R.af a;cases D;exact gi l true I f b r h g rfl E λ z=>by subst z;exact k _ _ _ Ext.refl r (.bl _)
  .let⟨L,K,E,D⟩:=R.af a;cases D;exact gi l true I f b r h g rfl E λ z=>by subst z;exact k _ _ _ Ext.refl r (.bl _)
  .cases a
theorem zf{K:ae}{i:Int}(t:aA K J H ws vs)(e:oK ws i=some w):∃v,oK vs i=some v/\RW K J H w v:=by
 unfold oK at e ⊢;rw[<-t.length];cases h:uH ws.length i with
 |none=>rw[h] at e;cases e
 |some j=>rw[h] at e;exact t.get e
theorem DC:CT X (zd X cl dR):=by
 intro b f D s Y H x y v u Q I q l h B;let⟨J,m,S,R,w,T,r,F,E,e,k⟩:=h;unfold dR at e;split at e
 .ext i;split at e
  .split at e
   .ext K;split at e
    .ext c j;cases e;cases F;cases E;exact CV b f D s Y H _ _ v u Q I q l ⟨_,_,_,rfl,rfl,MQ K bu,j,k _ _ _ Ext.refl r (.str _)⟩ B
    .cases e
   .cases e
  .split at e
   .ext ws N;split at e
    .ext G j;cases e;cases E;let⟨a,vs,rfl,g,t⟩:=r.bM F N;let⟨z,C,A⟩:=zf t j;rcases g with g | g
     .exact yF b f D s Y H _ _ v u Q I q l ⟨_,_,_,_,rfl,rfl,g,C,k _ _ _ Ext.refl r A⟩ B
     .exact CU b f D s Y H _ _ v u Q I q l ⟨_,_,_,_,rfl,rfl,g,C,k _ _ _ Ext.refl r A⟩ B
    .cases e
   .cases e
 .split at e
  .split at e
   .ext Z P;split at e
    .ext G j;cases e;cases E;cases F with
     |ref M=>
      let⟨U,L,t⟩:=r.obj P M;let⟨z,C,A⟩:=t.look.2 _ j;exact DA b f D s Y H _ _ v u Q I q l ⟨_,_,_,_,rfl,rfl,L,C,k _ _ _ Ext.refl r A⟩ B
    .cases e
   .cases e
  .cases e
 .cases e
end
end D
namespace HT
open PySem PyProof.Rows List
open PySem.SeqAt List
open PySem.AutoSeq1 (wpAny_loadPart')
open PySem.MeetsSeq PySem.MeetsSeq2 PySem.MeetsSeq3 List
section
variable{prog:Program}{w:World}{A:Around}{E:Value->Shared->Prop}{s:Shared}
theorem eS{t d:Addr}{items:Array Value}{i g:Value}{lo c:Option Int}{Q:Value->Shared->Prop}(b:IsTup s.heap t items)(j:s.heap.IsSliceOf d i g .none)(l:IsPart i lo)(k:IsPart g c)
  (p:br items.size 0 lo=0) (o:br items.size items.size c=items.size) (h:Q (.ref t) s):wpAny (model prog w) A (getItem (.ref t) (.ref d)) Q E s:=by
 let⟨m,e,f,n⟩:=id j;have q:s.TypeIs (.ref d) "slice":=⟨m,e,f⟩;unfold getItem
 try with_reducible refine Nl ?_
 first | refine Mu (MA ?_) | skip
 refine Mu (wpAny_sequenceKey b.typeIs 'd' ?_);refine Mu (Nv (name:=Str.ofString "__getitem__") b.typeIs NJ
  (N6 NJ b.typeIs entry_tuple_getitem ?_ (args_tuple_getitem _ _)))
 show wpAny _ _ (Builtin.Tuple.tupleItemsOf (.ref t) >>= _) _ _ s;refine Mu (tupleItemsOf_ b ?_);refine Mu (Qj q ?_);rw[MO 'd'];refine Mu (cQ j l k ?_);have a:(((br items.size 0 lo:Nat):Int)==0&&(1:Int)==1&&(br items.size items.size c - br items.size 0 lo)==items.size)=true:=by
  rw[p,o];simp
 show wpAny _ _ (if (((br items.size 0 lo:Nat):Int)==0&&(1:Int)==1&&(br items.size items.size c - br items.size 0 lo)==items.size)=true then _ else _) _ _ s;rw[MO a];refine Mu ?_;unfold Builtin.Tuple.tupleIsExact;refine Mu (Qj b.typeIs (MA ?_));rw[MO 'd'];exact Mu (O1 (MA ⟨_,rfl,MA h⟩))
end
end HT
namespace L2
open PySem PySem.Spec PyProof.Rows List
theorem zg{X:Cx}:E3 X (λ x lo f H Q=>∃a xs,x=.ref a/\bI X.K H a xs/\(HT.br xs.length 0 lo=0/\HT.br xs.length xs.length f=xs.length)/\Q (.ref a) H):=by
 intro t s Y H x v n m lo f o Q I g l j i h;let⟨a,xs,rfl,k,d,q⟩:=h;cases g;let⟨c,r,e,p⟩:=I.tuple k;have b:c.toArray.size=xs.length:=by rw[ME];exact r.length.symm
 refine⟨"tuple",_,PyProof.Rows.slot_tuple_getitem.lookup,e.typeIs,?_⟩;exact HT.eS e l j i (by rw[b];exact d.1) (by rw[b];exact d.2) ⟨.ref a,H,I,rfl,q⟩
end L2
namespace D
open PySem PySem.Spec PyProof.Rows L2 List
variable{ds:Es}{es:List Expr}{j:Nat}
section
variable{X:L2.Cx}{cl:Cl}{C:D.Cx}{pos:Pos}
theorem jR{i:Nat}{x:Str}(d:X.N[i]?=some x)(b:yg X.env.scope x)(c:(x==("__debug__":Str))=false)(a:(x==("__classdict__":Str))=false):PE X (.Name x pos) (SE X cl (ao C (.var i))):=by
 refine PE.imp (n8 d b c a) ?_;rintro Y H Q ⟨J,Z,m,w,n,r,l,e,k⟩;erw[aZ] at e;split at e
 .ext h g;cases e;let⟨v,f,q⟩:=l.at_ g;exact⟨v,f,k _ _ _ Ext.refl r q⟩
 .cases e
theorem Bd{i:Int}:PE X (.Constant (.int i) j pos) (SE X cl (ao C (.cst (.int i)))):=by
 refine PE.imp B9 ?_;rintro Y H Q ⟨J,Z,m,w,a,r,l,e,k⟩;erw[bN] at e;cases e;exact k _ _ _ Ext.refl r (.int i)
theorem Hf{i:Bool}:PE X (.Constant (.bool i) j pos) (SE X cl (ao C (.cst (.bl i)))):=by
 refine PE.imp Ge ?_;rintro Y H Q ⟨J,Z,m,w,a,r,l,e,k⟩;erw[bN] at e;cases e;exact k _ _ _ Ext.refl r (.bl i)
theorem Be:PE X (.Constant .none j pos) (SE X cl (ao C (.cst .non))):=by
 refine PE.imp Ca ?_;rintro Y H Q ⟨J,Z,m,w,a,r,l,e,k⟩;erw[bN] at e;cases e;exact k _ _ _ Ext.refl r .non
theorem Bf{x:Str}:PE X (.Constant (.str x) j pos) (SE X cl (ao C (.cst (.str x)))):=by
 refine PE.imp ud ?_;rintro Y H Q ⟨J,Z,m,w,a,r,l,e,k⟩;erw[bN] at e;cases e;exact k _ _ _ Ext.refl r (.str x)
theorem Bg{x:Str}{w:W}(a:Gl X x)(h:∃u v,X.mg x=some u/\RelV v u/\∀J H,RW X.K J H w v)(b:(x==("__debug__":Str))=false):PE X (.Name x pos) (SE X cl (ao C (.cst w))):=by
 let⟨u,v,f,d,c⟩:=h;refine PE.imp (fq a f d b) ?_;rintro Y H Q ⟨J,Z,m,w,g,r,l,e,k⟩;erw[bN] at e;cases e;exact k _ _ _ Ext.refl r (c _ _)
variable{a b c:Expr}{da db dc:E}
theorem Bh{i:Operator}(I:PE X a (SE X cl (ao C da)))(G:PE X b (SE X cl (ao C db))):PE X (.BinOp a i b pos) (SE X cl (ao C (.bin i da db))):=by
 refine PE.imp (Gs (DB (cl:=cl) i) I G) ?_;rintro Y H Q ⟨J,Z,m,w,F,r,l,e,k⟩;erw[gF] at e;let⟨x,s,L,e⟩:=R.af e;let⟨y,q,K,e⟩:=R.af e;refine⟨J,Z,m,x,s,r,l,L,fun g S O o h B=>?_⟩;refine⟨g,Z,s,y,q,h,l.mono r o,K,fun f P N n p A=>?_⟩;exact⟨f,q,x,y,w,F,p,B.mono h n,A,e,fun d M v t u z=>k d M v ((o.trans h n).trans p t) u z⟩
theorem Bj{d:CmpOp}(G:UN X cl)(L:PE X a (SE X cl (ao C da)))(K:PE X b (SE X cl (ao C db)))(I:behindInMarks d b=false):PE X (.Compare a [d] [b] pos) (SE X cl (ao C (.cmp d da db))):=by
 refine PE.imp (p7 (gj (cl:=cl) G d) L K I) ?_;rintro Y H Q ⟨J,Z,m,w,F,r,l,e,k⟩;erw[mL] at e;let⟨x,s,N,e⟩:=R.af e;let⟨y,q,M,e⟩:=R.af e;refine⟨J,Z,m,x,s,r,l,N,fun h U S o i B=>?_⟩;refine⟨h,Z,s,y,q,i,l.mono r o,M,fun g T P n p A=>?_⟩;exact⟨g,q,x,y,w,F,p,B.mono i n,A,e,fun f O v t u z=>k f O v ((o.trans i n).trans p t) u z⟩
theorem Bk{d:CmpOp}(G:UN X cl)(L:PE X a (SE X cl (ao C da)))(K:PE X b (SE X cl (ao C db)))(I:behindInMarks d b=false):PT X (.Compare a [d] [b] pos) (ST X cl (aR C (.cmp d da db))):=by
 refine PT.imp (p8 (gj (cl:=cl) G d) L K I) ?_;rintro Y H Q ⟨J,Z,m,w,F,r,l,e,k⟩;erw[dW] at e;let⟨x,s,N,e⟩:=R.af e;let⟨y,q,M,e⟩:=R.af e;refine⟨J,Z,m,x,s,r,l,N,fun h U S o i B=>?_⟩;refine⟨h,Z,s,y,q,i,l.mono r o,M,fun g T P n p A=>?_⟩;refine⟨g,q,x,y,.bl w,F,p,B.mono i n,A,by rw[e];rfl,fun f O v t u z=>?_⟩;cases z;exact⟨w,rfl,k f O ((o.trans i n).trans p t) u⟩
theorem Hg(n:PE X a (SE X cl (ao C da))):PE X (.UnaryOp .USub a pos) (SE X cl (ao C (.neg da))):=by
 refine PE.imp (Gu CM n) ?_;rintro Y H Q ⟨J,Z,m,w,q,r,l,e,k⟩;erw[qt] at e;let⟨x,i,o,e⟩:=R.af e;refine⟨J,Z,m,x,i,r,l,o,fun d s p f g h=>?_⟩;split at e
 .cases e;cases h;exact⟨_,rfl,k _ _ _ f g (.int _)⟩
 .cases e
theorem vD(n:PE X a (SE X cl (ao C da))):PE X (.UnaryOp .Not a pos) (SE X cl (ao C (.not da))):=by
 refine PE.imp (Cj n) ?_;rintro Y H Q ⟨J,Z,m,w,q,r,l,e,k⟩;erw[qu] at e;let⟨x,i,o,e⟩:=R.af e;refine⟨J,Z,m,x,i,r,l,o,fun d s p f g h=>?_⟩;split at e
 .cases e;cases h;exact⟨_,rfl,k _ _ _ f g (.bl _)⟩
 .cases e
theorem vF(h:PT X a (ST X cl (aR C da))):PT X (.UnaryOp .Not a pos) (ST X cl (aR C (.not da))):=by
 refine PT.imp (Ce h) ?_;rintro Y H Q ⟨J,Z,m,w,o,r,l,e,k⟩;erw[fF] at e;let⟨x,n,i,e⟩:=R.af e;cases e;exact⟨J,Z,m,x,_,r,l,i,fun d p f g=>k _ _ f g⟩
variable{rest:List Expr}
theorem Hh(v:PE X a (SE X cl (ao C da)))(u:PE X (.BoolOp .And (b::rest) pos) (SE X cl (ao C db))):PE X (.BoolOp .And (a::b::rest) pos) (SE X cl (ao C (.and da db))):=by
 refine PE.imp (Cg v u) ?_;rintro Y H Q ⟨J,Z,m,w,t,r,l,e,k⟩;erw[qw] at e;let⟨x,i,y,e⟩:=R.af e;refine⟨J,Z,m,x,i,r,l,y,fun d F A f g s=>?_⟩;split at e
 .ext c;cases s;refine⟨c,rfl,?_⟩;split at e
  .ext h;rw[MO h];exact⟨d,Z,i,w,t,g,l.mono r f,e,fun n B z o p q=>k _ _ _ (f.trans g o) p q⟩
  .ext h;rw[MN h];cases e;exact k _ _ _ f g (.bl _)
 .cases e
theorem w_and(t:PT X a (ST X cl (aR C da)))(s:PW X (.BoolOp .And (b::rest) pos) (ST X cl (aR C db))):PW X (.BoolOp .And (a::b::rest) pos) (ST X cl (aR C (.and da db))):=by
 refine PW.imp (Cd t s) ?_;rintro Y H Q ⟨J,Z,m,w,q,r,l,e,k⟩;erw[jH] at e;let⟨x,i,u,e⟩:=R.af e;refine⟨J,Z,m,x,i,r,l,u,fun d y f g=>?_⟩;split at e
 .ext h;rw[MO h];exact⟨d,Z,i,w,q,g,l.mono r f,e,fun n v o p=>k _ _ (f.trans g o) p⟩
 .ext h;rw[MN h];cases e;exact k _ _ f g
theorem w_or(t:PT X a (ST X cl (aR C da)))(s:PW X (.BoolOp .Or (b::rest) pos) (ST X cl (aR C db))):PW X (.BoolOp .Or (a::b::rest) pos) (ST X cl (aR C (.or da db))):=by
 refine PW.imp (Gf t s) ?_;rintro Y H Q ⟨J,Z,m,w,q,r,l,e,k⟩;erw[iR] at e;let⟨x,i,u,e⟩:=R.af e;refine⟨J,Z,m,x,i,r,l,u,fun d y f g=>?_⟩;split at e
 .ext h;rw[MO h];cases e;exact k _ _ f g
 .ext h;rw[MN h];exact⟨d,Z,i,w,q,g,l.mono r f,e,fun n v o p=>k _ _ (f.trans g o) p⟩
theorem jS{K:ae}{J:List Addr}{m d:Mem}{H:Hp}{w:W}{v:V}{b:Bool}(r:Rel K cl J m H)(q:RW K J H w v)(e:truthy m w=.ok b d):d=m/\yu K v H b:=by
 cases q with
 |non=>cases e;exact⟨rfl,rfl⟩
 |bl c=>cases e;exact⟨rfl,rfl⟩
 |int i=>cases e;exact⟨rfl,rfl⟩
 |str x=>
  erw[truthy] at e;split at e
  .ext h;cases e;exact⟨rfl,MQ h bu,rfl⟩
  .cases e
 |tup h t=>
  cases e;refine⟨rfl,.inr (.inl ⟨_,h,?_⟩)⟩;cases t<;>rfl
 |fz h t=>
  cases e;refine⟨rfl,.inl ⟨_,h.l,?_⟩⟩;cases t<;>rfl
 |obj h o t=>cases e
 |ref h=>
  erw[truthy] at e;split at e
  .ext k g;cases e;let⟨a,n,z,f,t⟩:=r.getL (.ref h) g;cases z;refine⟨rfl,.inl ⟨_,f,?_⟩⟩;cases t<;>rfl
  .cases e
theorem DE{i tb:TE}(r:PE X a i)(q:PE X (.BoolOp .Or (b::rest) pos) tb):PE X (.BoolOp .Or (a::b::rest) pos) (fun Y H Q=>i Y H λ x d=>∃k,yu X.K x d k/\if k=true then Q x d else tb Y d Q):=by
 intro g s Y H Q I h;refine BoolOp_or (aJ (r g s Y H _ I h) λ v o ⟨x,d,w,l,e⟩=>?_);let⟨k,p,e⟩:=e;refine aJ (ux g o Y d x v (λ c f=>f=d/\c=k) w l ⟨k,p,rfl,rfl⟩) λ c n ⟨f,m,u,t⟩=>?_;subst u t;cases c with
 |false=>exact q g n Y f Q m e
 |true=>exact⟨x,f,m,l,e⟩
theorem JT(y:PE X a (SE X cl (ao C da)))(v:PE X (.BoolOp .Or (b::rest) pos) (SE X cl (ao C db))):PE X (.BoolOp .Or (a::b::rest) pos) (SE X cl (ao C (.or da db))):=by
 refine PE.imp (DE y v) ?_;rintro Y H Q ⟨J,Z,m,w,t,r,l,e,k⟩;erw[yU] at e;let⟨x,n,B,e⟩:=R.af e;let⟨c,I,A,h⟩:=R.af e;refine⟨J,Z,m,x,n,r,l,B,fun f L G g d i=>?_⟩;let⟨z,u⟩:=jS d i A;rw[z] at h;refine⟨c,u,?_⟩;cases c with
 |true=>
  cases h;exact k _ _ _ g d i
 |false=>
  exact⟨f,Z,n,w,t,d,l.mono r g,h,fun o K F p q s=>k _ _ _ (g.trans d p) q s⟩
theorem Bl(q:PE X a (SE X cl (ao C da)))(o:∀d,isTrue a X.env d=(do let v <-d;standAt a.pos;holding [v] (PySem.truthy v)))(p:∀Z m,aR C da Z m=(ao C da Z m).bind λ w m=>D.truthy m w):PT X a (ST X cl (aR C da)):=by
 refine PT.imp (uy q o) ?_;rintro Y H Q ⟨J,Z,m,w,u,r,l,e,k⟩;rw[p] at e;let⟨x,n,s,e⟩:=R.af e;refine⟨J,Z,m,x,n,r,l,s,fun g y t h f i=>?_⟩;let⟨rfl,z⟩:=jS f i e;exact⟨w,z,k _ _ h f⟩
theorem Hi{t:Expr}{u:E}(y:PT X t (ST X cl (aR C u)))(A:PE X a (SE X cl (ao C da)))(z:PE X b (SE X cl (ao C db))):PE X (.IfExp t a b pos) (SE X cl (ao C (.ife u da db))):=by
 refine PE.imp (uf y A z) ?_;rintro Y H Q ⟨J,Z,m,w,s,r,l,e,k⟩;erw[qA] at e;let⟨x,p,B,e⟩:=R.af e;refine⟨J,Z,m,x,p,r,l,B,fun d G f g=>?_⟩;split at e
 .ext q;rw[MO q];exact⟨d,Z,p,w,s,g,l.mono r f,e,fun h F v i n o=>k _ _ _ (f.trans g i) n o⟩
 .ext q;rw[MN q];exact⟨d,Z,p,w,s,g,l.mono r f,e,fun h F v i n o=>k _ _ _ (f.trans g i) n o⟩
theorem zh{n i:CmpOp}(hu:UN X cl)(ha:PE X a (SE X cl (ao C da)))(hb:PE X b (SE X cl (ao C db)))(o:PE X c (SE X cl (ao C dc)))
  (h:PE X (.Compare a [n,i] [b,c] pos) (om (zd X cl λ x y m=>(aK n x y m).bind λ c m=>.ok (.bl c) m) (zd X cl λ x y m=>(aK i x y m).bind λ c m=>.ok (.bl c) m) (SE X cl (ao C da)) (SE X cl (ao C db)) (SE X cl (ao C dc)))) :
  PE X (.Compare a [n,i] [b,c] pos) (SE X cl (ao C (.chain n i da db dc))):=by
 refine PE.imp h ?_;rintro Y H Q ⟨J,Z,m,w,m',r,l,e,k⟩;erw[gZ] at e;let⟨x,N,e1,e⟩:=R.af e;let⟨y,M,e2,e⟩:=R.af e;let⟨z,L,e3,e⟩:=R.af e;refine⟨J,Z,m,x,N,r,l,e1,fun t H1 v1 B g q1=>?_⟩;refine⟨t,Z,N,y,M,g,l.mono r B,e2,fun s H2 v2 A f I=>?_⟩;have l2:=(l.mono r B).mono g A;refine⟨s,M,x,y,.bl z,L,f,q1.mono g A,I,by rw[e3];rfl,fun q H3 v3 v d W=>?_⟩;cases W;refine⟨z,rfl,?_⟩;have O:=(B.trans g A).trans f v;split at e
 .ext o;rw[MO o];let⟨u,K,e4,e⟩:=R.af e;refine⟨q,Z,L,u,K,d,l2.mono f v,e4,fun p H4 v4 F G V=>?_⟩;exact⟨p,K,y,u,w,m',G,(I.mono f v).mono d F,V,e,fun P H5 v5 S T U=>k _ _ _ ((O.trans d F).trans G S) T U⟩
 .ext o;rw[MN o];cases e;exact k _ _ _ O d (.bl _)
theorem Bm:PA X [] (SA X cl (aH C .nil)):=by
 refine PA.imp bE ?_;rintro Y H Q ⟨J,Z,m,w,d,r,l,e,k⟩;erw[bW] at e;cases e;exact k _ _ _ Ext.refl r .nil
theorem pe{d:E}(v:PE X a (SE X cl (ao C d)))(u:PA X es (SA X cl (aH C ds)))(t:starEach (a::es) X.env=(false,eval a X.env)::starEach es X.env):PA X (a::es) (SA X cl (aH C (.cons d ds))):=by
 refine PA.imp (aM v u t) ?_;rintro Y H Q ⟨J,Z,m,w,I,r,l,e,k⟩;erw[bW] at e;let⟨x,n,A,e⟩:=R.af e;let⟨y,G,z,e⟩:=R.af e;cases e;refine⟨J,Z,m,x,n,r,l,A,fun f L F i g s=>?_⟩;exact⟨f,Z,n,y,_,g,l.mono r i,z,fun o K B h p q=>k _ _ _ (i.trans g h) p (.cons (s.mono g h) q)⟩
theorem Bo{d}(ha:PA X es (SA X cl (aH C ds))):PE X (.Tuple es d pos) (SE X cl (ao C (.tup ds))):=by
 refine PE.imp (uC ha) ?_;rintro Y H Q ⟨J,Z,m,w,v,r,l,e,k⟩;erw[iG] at e;let⟨x,u,t,e⟩:=R.af e;split at e
 .ext s;cases e;refine⟨J,Z,m,x,_,r,l,t,fun i y n d f h=>⟨by rw[<-h.length];exact MQ s bu,λ p q=>?_⟩⟩;let⟨g,o⟩:=f.kM q n;exact k _ _ _ (d.trans f g) o (.tup (.of aq) (h.mono f g))
 .cases e
theorem vG(s:PA X es (SA X cl (aH C ds))):PE X (.List es pos) (SE X cl (ao C (.lst ds))):=by
 refine PE.imp (CP s) ?_;rintro Y H Q ⟨J,Z,m,w,y,r,l,e,k⟩;erw[gG] at e;let⟨x,v,t,e⟩:=R.af e;split at e
 .ext q;cases e;refine⟨J,Z,m,x,_,r,l,t,fun g z u i d f=>⟨by rw[<-f.length];exact MQ q bu,λ p o=>?_⟩⟩;let⟨h,n⟩:=d.newL o f;exact k _ _ _ (i.trans d h) n (.ref (d.last p))
 .cases e
theorem Hl(I:PE X a (SE X cl (ao C da)))(G:PE X b (SE X cl (ao C db)))(F:gX b):PE X (.Subscript a b pos) (SE X cl (ao C (.idx da db))):=by
 refine PE.imp (AN (DC (cl:=cl)) I G F) ?_;rintro Y H Q ⟨J,Z,m,w,B,r,l,e,k⟩;erw[gH] at e;let⟨x,q,L,e⟩:=R.af e;let⟨y,p,K,e⟩:=R.af e;refine⟨J,Z,m,x,q,r,l,L,fun g S O n h A=>?_⟩;refine⟨g,Z,q,y,p,h,l.mono r n,K,fun f P N i o z=>?_⟩;exact⟨f,p,x,y,w,B,o,A.mono h i,z,e,fun d M v s t u=>k d M v ((n.trans h i).trans o s) t u⟩
theorem DF:PO X none (E6 X cl (vd C .none)):=by
 refine PO.imp yC ?_;rintro Y H Q ⟨J,Z,m,w,d,r,l,e,k⟩;erw[A1] at e;cases e;exact k _ _ Ext.refl r
theorem DG(n:PE X a (SE X cl (ao C da))):PO X (some a) (E6 X cl (vd C (.some da))):=by
 refine PO.imp (yD n) ?_;rintro Y H Q ⟨J,Z,m,w,q,r,l,e,k⟩;erw[A1] at e;let⟨x,i,o,e⟩:=R.af e;refine⟨J,Z,m,x,i,r,l,o,fun d s p f g h=>?_⟩;split at e
 .cases e;cases h;exact⟨_,rfl,k _ _ f g⟩
 .cases e
theorem qN{K:ae}{J:List Addr}{H:Hp}{ws:List W}{vs:List V}{lo d:Option Int}(t:aA K J H ws vs):aA K J H (sL ws lo d) (kq vs lo d):=by
 unfold sL kq;rw[<-t.length];exact(t.drop _).take _
theorem DH:E3 X (λ x lo d H Q=>∃J m L w N,Rel X.K cl J m H/\RW X.K J H L x/\qj L lo d m=.ok w N/\∀R F v,Ext J H R F->Rel X.K cl R N F->RW X.K R F w v->Q v F):=by
 intro B s Y H x v l i lo d n Q I o A y u h;let⟨J,m,L,w,N,r,q,e,k⟩:=h;unfold qj at e;split at e
 .cases e;cases q with
  |tup h t=>
   ext G a f
   by_cases z:HT.br f.length 0 lo=0/\HT.br f.length f.length d=f.length
   .refine zg B s Y H _ v l i lo d n Q I o A y u ⟨_,_,rfl,h,z,k _ _ _ Ext.refl r ?_⟩;have:sL G lo d=G:=by
     unfold sL;rw[t.length,z.1,z.2,<-t.length];simp
    rw[this];exact .tup h t
   .refine CS B s Y H _ v l i lo d n Q I o A y u ⟨_,_,rfl,h,z,λ p P=>?_⟩;let⟨g,M⟩:=r.kM P (kq _ lo d);exact k _ _ _ g M (.tup (.of aq) ((qN t).mono r g))
 .split at e
  .ext S;cases e;cases q;exact Dg B s Y H _ v l i lo d n Q I o A y u ⟨_,rfl,MQ S bu,k _ _ _ Ext.refl r (.str _)⟩
  .cases e
 .split at e
  .ext G T;cases e;let⟨a,f,rfl,O,t⟩:=r.getL q T;refine yG B s Y H _ v l i lo d n Q I o A y u ⟨_,_,rfl,O,λ p P=>?_⟩;let⟨g,M⟩:=r.newL P (qN t);exact k _ _ _ g M (.ref (r.last p))
  .cases e
theorem Ho{lo A:Option Expr}{B F:Oe}{N:Pos}(T:PE X a (SE X cl (ao C da)))(P:PO X lo (E6 X cl (vd C B)))(S:PO X A (E6 X cl (vd C F))):PE X (.Subscript a (.Slice lo A none N) pos) (SE X cl (ao C (.slc da B F))):=by
 refine PE.imp (uG (DH (cl:=cl)) T P S) ?_;rintro Y H Q ⟨J,Z,m,w,O,r,l,e,k⟩;erw[qC] at e;let⟨x,u,W,e⟩:=R.af e;let⟨y,t,V,e⟩:=R.af e;let⟨z,s,U,e⟩:=R.af e;refine⟨J,Z,m,x,u,r,l,W,fun h H1 v1 n d M=>?_⟩;refine⟨h,Z,u,y,t,d,l.mono r n,V,fun g H2 i o=>?_⟩;refine⟨g,Z,t,z,s,o,(l.mono r n).mono d i,U,fun f H3 p q=>?_⟩;exact⟨f,s,x,w,O,q,(M.mono d i).mono o p,e,fun G H4 v I K L=>k _ _ _ (((n.trans d i).trans o p).trans q I) K L⟩
end
end D
namespace D
open PySem PySem.Spec PyProof.Rows L2 PySem.W List
def Lu(K:ae)(H:Hp)(v:V)(ns:List Int):Prop:=∃a,v=.ref a/\bI K H a (ns.map V.int)
end D
namespace L2
open PySem PySem.Spec PyProof.Rows List
variable{h:Heap}
section
variable{X:Cx}
theorem jT:∀(l:List Str) (t:Nat),Vals (l.map V.str) (strsFrom t l)
 | [],_=>.nil
 |x::r,t=>by rw[strsFrom.eq_2];exact .cons ⟨_,rfl⟩ (jT r (t+1))
theorem vH:C0 X "str.split" (λ x xs H Q=>∃z y,x=.str z/\xs=[.str y]/\(y.length==0)=false/\z.length+2<=sizeLine/\∀p,H p=none->Q (.ref p) (upd H p (.lst ((Txt.split z y).map V.str)))):=by
 intro A s Y H x xs v C Q I n o h;let⟨z,y,rfl,rfl,k,D,q⟩:=h;let⟨t,rfl⟩:=n;let⟨u,rfl,i,rfl⟩:=Vals.one o;have w:H s⁻¹=none:=I.hok.fresh (MB _);have j:(Txt.split z y).length<=z.length+2:=by
  have:=len_le_of_split (l:=(Txt.split z y).map λ x=>(x,0)) (x:=z) (y:=y) (by rw[map_map];exact map_id _);rw[Nk] at this;exact this
 have c:∀(a:List Value) (g:Nat),Vals ((Txt.split z y).map V.str) a->EP X A Y Q (.ref s⁻¹) {heap:=s.heap.push {cls:=.type "list",data:=.seq a.toArray},gens:=s.gens,drawn:=s.drawn,toks:=g,os:=s.os}:=λ a g r=>by
  refine⟨.ref s⁻¹,upd H s⁻¹ (.lst ((Txt.split z y).map V.str)),I.laid (t':=g) (λ b u e=>Mv _ e) (MB _) ?_,rfl,q _ w⟩;exact⟨by rw[Nk];lia,a,0,r,MC _ rfl⟩
 by_cases d:(decide (z.length<y.length)||decide (Builtin.Str.strKind z<Builtin.Str.strKind y))=true
 .have e:Txt.split z y=[z]:=by unfold Txt.split;rw[MO d]
  refine OL Pp (O5 s z t) Pf (O9 _ _) (meets_str_split_cannot_occur z y t i d) ?_;exact c [.str z t] s.toks (by rw[e];exact .cons ⟨_,rfl⟩ .nil)
 .have m:(decide (z.length<y.length)||decide (Builtin.Str.strKind z<Builtin.Str.strKind y))=false:=by simpa using d
  by_cases f:(Builtin.Str.occurrences z y 0 z.length (z.length+1)).isEmpty=true
  .have e:Txt.split z y=[z]:=by unfold Txt.split;rw[MN d,MO f]
   refine OL Pp (O5 s z t) Pf (O9 _ _) (meets_str_split_not_found z y t i m k f) ?_;exact c [.str z t] s.toks (by rw[e];exact .cons ⟨_,rfl⟩ .nil)
  .have B:(Builtin.Str.occurrences z y 0 z.length (z.length+1)).isEmpty=false:=by simpa using f
   have e:Txt.split z y=Builtin.Str.partsBetween z (Builtin.Str.occurrences z y 0 z.length (z.length+1)) y.length:=by unfold Txt.split;rw[MN d,MN f]
   refine OL Pp (O5 s z t) Pf (O9 _ _) (meets_str_split_sep z y t i m k B 'o' (by rw[<-e];lia)) ?_;exact c _ _ (by rw[e];exact jT _ _)
theorem zj:C0 X "str.endswith" (λ x xs H Q=>∃z y,x=.str z/\xs=[.str y]/\Q (.bl (Txt.endswith z y)) H):=by
 intro e s Y H x xs v c Q I a b h;let⟨z,y,rfl,rfl,q⟩:=h;let⟨t,rfl⟩:=a;let⟨u,rfl,d,rfl⟩:=Vals.one b;exact SC.endswith ⟨.bl _,H,I,rfl,q⟩
theorem kN:aW X (.type "int") (λ xs H Q=>∃z n,xs=[.str z]/\intText? z=some n/\z.length<=640/\Q (.int n) H):=by
 intro d s Y H xs c Q I r h;let⟨z,n,rfl,b,a,q⟩:=h;let⟨u,rfl,t,rfl⟩:=vals1 r;exact PySem.W.KIN.call_text b a ⟨.int _,H,I.tok _,⟨_,rfl⟩,q⟩
structure DI(K:ae)(C:Addr):Prop where
 cls:sd K C
 ha:PySem.W.findIn K (.ref C) "__class__"=@(some (.builtin "object.__class__"))
 hn:PySem.W.specialIn K (.builtin "object.__class__") "__get__"=@(some (.builtin "getset_descriptor.__get__"))
 htk:PySem.W.takesIn K (.builtin "object.__class__")=some true
 hm:PySem.W.mroIn K C (.type "object")=some true
end
section
variable{X:Cx}
theorem vI{a:Addr}{its:Array Value}(p:PlainL h a its):∃n b,h.get? a=some {cls:=.type "list",dict:=none,data:=.seq its n,slots:=b}:=by
 let⟨o,n,e,f,d,c⟩:=p;refine⟨n,o.slots,?_⟩;rw[e];cases o;subst f d c;rfl
def vJ(K:ae):V->List V->Hp->VK->Prop:=λ x b H Q=>∃l a y j,x=.ref l/\b=[y]/\dI K H l a/\cR y=true/\a.all cR=true/\j<1000000/\(∃z,a[j]?=some z/\l0 z y=true)/\(∀m z,m<j->a[m]?=some z->l0 z y=false)/\Q (.int (j:Nat)) H
theorem vK:C0 X "list.index" (vJ X.K):=by
 intro aa s Y H x Z v us Q I G J h;let⟨l,d,y,j,rfl,rfl,P,R,B,h6,⟨D,o,k⟩,N,q⟩:=h;cases G;let⟨u,rfl,L⟩:=J.one;let⟨a,r,M,hz⟩:=I.list P;let⟨n,E,e⟩:=vI M;have c:∀(i:Nat) (x:V),d[i]?=some x->∃w,a[i]?=some w/\CZ y w=l0 x y:=λ i x A=>by
  let⟨w,b,f⟩:=r.get A;exact⟨w,b,oN f (MV.mp B x (M3 A))⟩
 let⟨W,p,U⟩:=c j D o;let⟨O,T⟩:=Mw.mp p;have g:=r.length;refine OL F.slot_list_index ⟨_,e,rfl⟩ F.entry_list_index (F.args_list_index_2 _ _) (SeqAt.list_indexAt l a.toArray n none E u (CZ y) j (~~~O) 'o' (by simp[T,U,k]) (λ m t z=>?_)) ⟨e,λ w b=>fD L R r B w (~~~b),?_⟩
 .have C:m<d.length:=by rw[g];simpa using t
  let⟨w,b,S⟩:=c m d[m] (by simp[C]);have:a.toArray[m]=w:=by
   let⟨_,q⟩:=Mw.mp b;simpa using q
  rw[this,S];exact N m d[m] z (by simp[C])
 .exact⟨.int _,H,I.tok _,⟨_,rfl⟩,q⟩
def zk(K:ae):V->List V->Hp->VK->Prop:=λ x b H Q=>∃l a y,x=.ref l/\b=[y]/\dI K H l a/\cR y=true/\a.all cR=true/\Q (.int (a.countP λ z=>l0 z y)) H
theorem jU:C0 X "list.count" (zk X.K):=by
 intro A s Y H x p v t Q I d f h;let⟨l,o,y,rfl,rfl,k,m,b,q⟩:=h;cases d;let⟨u,rfl,g⟩:=f.one;let⟨a,r,i,z⟩:=I.list k;let⟨n,c,e⟩:=vI i;refine OL F.slot_list_count ⟨_,e,rfl⟩ F.entry_list_count (F.args_list_count_2 _ _) (SeqAt.list_countAt l a.toArray n none c u (CZ y)) ⟨e,λ w j=>fD g m r b w (~~~j),?_⟩;refine⟨.int _,H,I.tok _,⟨_,rfl⟩,?_⟩;rw[show a.toArray.toList=a by simp,fZ r b];exact q
end
theorem s8{prog:Program}{w:World}{K:ae}{a:Addr}{es:Array DictEntry}{n:Nat}(X:K.In h)(g:K.lookup a=some ⟨.type "dict",none,.dict es n,#[]⟩)(p:PySem.W.KeysLit w.params es.toList) :
  h.MapOf (aB prog w) a (λ k=>match k with
   |.inl _=>none
   |.inr z=>findBy Value.isStrOf es z):=by
 let⟨o,s,v,l,r,q,j,u⟩:=PL (prog:=prog) X g p;have m:=X _ _ g;rw[m] at l;cases l;cases q;refine⟨_,es,n,m,r,rfl,λ e f=>?_,λ k=>?_⟩
 .let⟨z,b,c⟩:=j e f;let⟨t,d⟩:=OT (x:=z) b;exact⟨.inr z,by rw[d];exact gx prog w z t,c⟩
 .cases k with
  |inl i=>
   have:es.find? (λ e=>(aB prog w).is (.inl i) e.key)=none:=by
    rw[Array.find?_eq_none];intro e f;let⟨z,b,_⟩:=j e f;let⟨t,d⟩:=OT (x:=z) b;rw[d];exact M5
   show (es.find? (λ e=>(aB prog w).is (.inl i) e.key)).map (·.val)=none;rw[this];rfl
  |inr z=>
   show (es.find? λ e=>(aB prog w).is (.inr z) e.key).map (·.val)=(es.find? λ e=>Value.isStrOf z e.key).map (·.val);congr 2
section
variable{X:Cx}
theorem eW:dg X (compareOp .NotIn) (λ x y H Q=>∃i a b,x=.int i/\y=.ref a/\L2.TopD X.K X.w a b/\Q (.bl true) H):=by
 intro k s Y H x y v u Q I d c h;let⟨i,a,b,rfl,rfl,T,q⟩:=h;let⟨t,rfl⟩:=d;cases c;let⟨j,n,f,e,g⟩:=T.ex;exact PZ (gw X.prog X.w i t) T.lo (s8 (prog:=X.prog) I.bA f e) ⟨.bl _,H,I.tok _,rfl,q⟩
theorem jV{a:Value->Value->Sem Value}{e d:R2}(i:dg X a e)(g:dg X a d):dg X a (λ x y H Q=>e x y H Q\/d x y H Q):=λ f s Y H x y v u Q I c b h=>by
 rcases h with h | h
 .exact i f s Y H x y v u Q I c b h
 .exact g f s Y H x y v u Q I c b h
end
section
variable{prog:Program}{w:World}{A:Around}{E:Value->Shared->Prop}{s:Shared}{l:Addr}{xs:Array (Int×Tok)}
theorem vL(d:s.heap.IsTuple l (intItems xs)):∀b∈[s⁻¹,l],b<(s.heap.push {cls:=.type "tuple_iterator",data:=.fields #[.ref l,.int 0 0]}).objs.size:=λ b a=>by
 have c:l<s⁻¹:=by let⟨_,e,_⟩:=d;exact Mx e
 rw[Ng];rcases MJ.mp a with rfl | a
 .exact NK _
 .rcases MJ.mp a with rfl | a
  .exact NG c
  .cases a
theorem qO{h':Heap}(c:∀b o,b∉[s⁻¹]->(s.heap.push {cls:=.type "tuple_iterator",data:=.fields #[.ref l,.int 0 0]}).get? b=some o->h'.get? b=some o) :
  ∀b o,s.heap.get? b=some o->h'.get? b=some o:=λ b o e=>by
 refine c b o (λ a=>?_) (Mv _ e);rcases MJ.mp a with d | a
 .exact absurd (d▸Mx e) (N3 _)
 .cases a
theorem pq{Q:Value->Shared->Prop}(g:A.handled=none)(a:s.heap.IsTuple l (intItems xs))(c:0<xs.size)
  (h:∀v h' tk,(intItems xs)[argBest (λ i j=>decide (numAt xs i<numAt xs j)) (xs.size - 1)]?=some v->(∀b o,s.heap.get? b=some o->h'.get? b=some o)->Q v {s with heap:=h',toks:=tk}) :
  wpAny (model prog w) A (call (.builtin "min") [.ref l]) Q E s:=by
 have d:l<s⁻¹:=by let⟨_,e,_⟩:=a;exact Mx e
 refine call_min_walk (NU a ?_);refine⟨_,_,_,_,_,_,_,rfl,Walks.tuple (A:=A.in1) g _ l (MD d) (intItems xs),⟨⟨_,MC _ rfl,rfl,rfl⟩,a.push _⟩,vL a,by simpa[intItems] using c,CmpOf.ints_lt (numAt xs) (λ _ _=>P9),λ v h' tk k f=>?_⟩;exact h v h' tk (by simpa[intItems] using k) (qO f)
theorem pA{Q:Value->Shared->Prop}(g:A.handled=none)(a:s.heap.IsTuple l (intItems xs))(c:0<xs.size)
  (h:∀v h' tk,(intItems xs)[argBest (λ i j=>decide (numAt xs i>numAt xs j)) (xs.size - 1)]?=some v->(∀b o,s.heap.get? b=some o->h'.get? b=some o)->Q v {s with heap:=h',toks:=tk}) :
  wpAny (model prog w) A (call (.builtin "max") [.ref l]) Q E s:=by
 have d:l<s⁻¹:=by let⟨_,e,_⟩:=a;exact Mx e
 refine call_max_walk (NU a ?_);refine⟨_,_,_,_,_,_,_,rfl,Walks.tuple (A:=A.in1) g _ l (MD d) (intItems xs),⟨⟨_,MC _ rfl,rfl,rfl⟩,a.push _⟩,vL a,by simpa[intItems] using c,CmpOf.ints_gt (numAt xs) (λ _ _=>P9),λ v h' tk k f=>?_⟩;exact h v h' tk (by simpa[intItems] using k) (qO f)
end
section
variable{X:Cx}
theorem fK{ns:List Int}{xs:Array (Int×Tok)}(a:ns=xs.toList.map (·.1))(i:Nat):numAt xs i=ns.getD i 0:=by
 subst a;simp[numAt,NZ,Oc]
theorem s9(A:X.calm=true):aW X (.builtin "min") (λ xs H Q=>∃(a:Addr) (ns:List Int),xs=[.ref a]/\bI X.K H a (ns.map V.int)/\ns≠[]/\∀M,M∈ns->(∀b∈ns,M<=b)->Q (.int M) H):=by
 intro L s Y H xs D Q I r h;let⟨a,ns,rfl,x,k,q⟩:=h;let⟨u,rfl,o⟩:=vals1 r;cases o;let⟨f,l,w,F⟩:=I.tuple x;let⟨d,e⟩:=(intsAre_of l).allInts.items;have c:ns=d.toList.map (·.1):=by rw[<-(intsAre_of l).numsOf,<-nums_intItems,<-e]
 have i:0<d.size:=by
  have n:=List.length_pos_iff.mpr k;rw[c,Nk,NH] at n;exact n
 have g:s.heap.IsTuple a (intItems d):=by
  have:s.heap.IsTuple a f.toArray:=w;rw[e] at this;exact this
 refine pq (I.ok.hd A) g i λ v J E p y=>?_;let⟨t,rfl⟩:=P9 p;let⟨G,C⟩:=argBest_lt (numAt d) (d.size - 1);have m:ns.length=d.size:=by rw[c,Nk,NH]
 refine⟨.int _,H,I.kept y,⟨_,rfl⟩,q _ ?_ λ b B=>?_⟩
 .rw[fK c,NZ,M6 (by omega)];exact Qa _
 .let⟨j,z,rfl⟩:=List.mem_iff_getElem.mp B;have:=C j (by omega);rw[fK c j,NZ,M6 z] at this;exact this
theorem tu(A:X.calm=true):aW X (.builtin "max") (λ xs H Q=>∃(a:Addr) (ns:List Int),xs=[.ref a]/\bI X.K H a (ns.map V.int)/\ns≠[]/\∀M,M∈ns->(∀b∈ns,b<=M)->Q (.int M) H):=by
 intro L s Y H xs D Q I r h;let⟨a,ns,rfl,x,k,q⟩:=h;let⟨u,rfl,o⟩:=vals1 r;cases o;let⟨f,l,w,F⟩:=I.tuple x;let⟨d,e⟩:=(intsAre_of l).allInts.items;have c:ns=d.toList.map (·.1):=by rw[<-(intsAre_of l).numsOf,<-nums_intItems,<-e]
 have i:0<d.size:=by
  have n:=List.length_pos_iff.mpr k;rw[c,Nk,NH] at n;exact n
 have g:s.heap.IsTuple a (intItems d):=by
  have:s.heap.IsTuple a f.toArray:=w;rw[e] at this;exact this
 refine pA (I.ok.hd A) g i λ v J E p y=>?_;let⟨t,rfl⟩:=P9 p;let⟨G,C⟩:=argBest_gt (numAt d) (d.size - 1);have m:ns.length=d.size:=by rw[c,Nk,NH]
 refine⟨.int _,H,I.kept y,⟨_,rfl⟩,q _ ?_ λ b B=>?_⟩
 .rw[fK c,NZ,M6 (by omega)];exact Qa _
 .let⟨j,z,rfl⟩:=List.mem_iff_getElem.mp B;have:=C j (by omega);rw[fK c j,NZ,M6 z] at this;exact this
end
section
variable{X:Cx}
theorem DJ{a:Addr}{its:Array Value}(p:IsTup h a its):∃n f b,h.get? a=some {cls:=.type "tuple",dict:=f,data:=.seq its n,slots:=b}:=by
 let⟨o,e,d,n,c⟩:=p;refine⟨n,o.dict,o.slots,?_⟩;rw[e];cases o;subst d c;rfl
def zl(K:ae):V->List V->Hp->VK->Prop:=λ x b H Q=>∃l a y,x=.ref l/\b=[y]/\bI K H l a/\cR y=true/\a.all cR=true/\Q (.int (a.countP λ z=>l0 z y)) H
theorem jW:C0 X "tuple.count" (zl X.K):=by
 intro B s Y H x t v z Q I d f h;let⟨l,p,y,rfl,rfl,k,m,b,q⟩:=h;cases d;let⟨u,rfl,g⟩:=f.one;let⟨a,r,i,A⟩:=I.tuple k;let⟨n,o,c,e⟩:=DJ i;refine OL F.slot_tuple_count ⟨_,e,rfl⟩ F.entry_tuple_count (F.args_tuple_count_2 _ _) (SeqAt.tuple_countAt l a.toArray n o c u (CZ y)) ⟨e,λ w j=>fD g m r b w (~~~j),?_⟩;refine⟨.int _,H,I.tok _,⟨_,rfl⟩,?_⟩;rw[show a.toArray.toList=a by simp,fZ r b];exact q
end
end L2
namespace D
open PySem PySem.Spec PyProof.Rows L2 List
variable{C:D.Cx}{Dd:Ends}{H H' H0:Hp}{K:ae}{P:Program}{Q:VK}{b e elt iter o target tg:Expr}{body:List Stmt}{c y:Str}{d da db:E}{di ds:Es}{dx fa:Addr}{env:Env}{es ifs:List Expr}{f:Expr->Option E}{fl:F}{gens:List Comprehension}{gs:List (Str×V)}{i n np:Nat}{id name:String}{it:Value}{m m' m2:Mem}{p pos pp px py spos:Pos}{aa:List (Addr×Obj)}{rest:G}{s:Shared}{scope:Scope}{st:Stmt}{v:V}{vs:List V}{w:W}{ws:List W}{J J' β0:List Addr}{Z:D.Loc}{Y:L2.St}
section
variable{X:L2.Cx}{cl:Cl}{C:D.Cx}{pos:Pos}
theorem vM(a:List Bool):((List.range a.length).any λ i=>a.getD i true)=a.any _root_.id:=by
 have e:∀(f g:Nat->Bool) (l:List Nat),(∀i∈l,f i=g i)->l.any f=l.any g:=λ f g l h=>by
  induction l with
  |nil=>rfl
  |cons x r j=>rw[ON,ON,h x Nc,j λ i k=>h i (MP _ k)]
 induction a with
 |nil=>rfl
 |cons b r j=>
  rw[MX,range_succ_eq_map,ON,any_map,ON];have:((List.range r.length).any ((λ i=>(b::r).getD i true)∘Nat.succ))=((List.range r.length).any λ i=>r.getD i true):=e _ _ _ λ i _=>by simp
  rw[this,j];rfl
theorem vN(hh:X.A.handled=none):aW X (.builtin "any") (λ xs H Q=>∃(p:Addr) (a:List Bool),xs=[.ref p]/\dI X.K H p (a.map V.bl)/\Q (.bl (a.any _root_.id)) H):=by
 intro aa s Y H xs us Q I r h;let⟨p,a,rfl,U,q⟩:=h;let⟨u,rfl,R⟩:=vals1 r;cases R;let⟨g,B,T,hz⟩:=I.list U;have x:=T.isList;have t:p<s⁻¹:=by let⟨_,e,_⟩:=x;exact Mx e
 have k:=B.length;rw[Nk] at k;refine call_any_walk (OB x ?_);refine⟨_,_,_,_,_,_,(λ i=>a.getD i true),rfl,Walks.list (A:=X.A.in1) hh s⁻¹ p (MD t) g.toArray,⟨⟨_,MC _ rfl,rfl,rfl⟩,x.push _⟩,?_,?_⟩
 .intro i v s' Q' E' l j;have l:g[i]?=some v:=by simpa using l
  have hi:i<g.length:=(Mw.mp l).1;have M:i<a.length:=by lia
  have e:(a.map V.bl)[i]?=some (V.bl (a[i])):=by simp[M]
  let⟨u,L,S⟩:=B.get e;rw[l] at L;cases L;cases S;have:a.getD i true=a[i]:=by simp[List.getD,M]
  dsimp only at j;rw[this] at j;exact Nn j
 .intro h' O hk;have e:((List.range g.toArray.size).any λ i=>a.getD i true)=a.any _root_.id:=by
   rw[ME,<-k];exact vM a
  rw[e];refine⟨.bl _,H,I.kept (t':=O) λ b o N=>hk b o (λ z=>?_) (Mv _ N),rfl,q⟩;rw[Nz] at z;exact MD (Mx N) z
def vO:B->Value
 |.len=>.builtin "len" |.abs=>.builtin "abs" |.max=>.builtin "max" |.min=>.builtin "min" |.divmod=>.builtin "divmod" |.all=>.builtin "all" |.any=>.builtin "any"
 |.list=>.type "list" |.tuple=>.type "tuple" |.int=>.type "int" |.sorted=>.builtin "sorted" |.sum=>.builtin "sum" |.repr=>.builtin "repr" |.str=>.type "str" |.dum=>.builtin "repr"
theorem cg(h:aA K J H [w] vs):∃v,vs=[v]/\RW K J H w v:=by
 cases h with
 |cons q t=>cases t;exact⟨_,rfl,q⟩
theorem DK{g:W}(h:aA K J H [w,g] vs):∃v a,vs=[v,a]/\RW K J H w v/\RW K J H g a:=by
 cases h with
 |cons q t=>let⟨a,rfl,j⟩:=cg t;exact⟨_,_,rfl,q,j⟩
theorem aA.tups:∀{ws:List W} {vs:List V} {g:List (List Int)},aA K J H ws vs->cH uV ws=some g->Paired (Lu K H) vs g
 |_,_,_,.nil,h=>by cases h;exact .nil
 |_,_,_,.cons (w:=w) q t,h=>by
  erw[cH] at h;split at h
  .cases h
  .ext d a;split at h
   .cases h
   .ext ds j;cases h;refine .cons ?_ (t.tups j);cases w with
    |tup xs=>
     cases q with
     |tup hs t'=>
      have:=t'.bF a;subst this;exact⟨_,rfl,hs⟩
    |_=>cases a
theorem vP{M n:Int}{r:List Int}(t:M∈n::r)(q:∀b∈n::r,b<=M):M=r.foldl max n:=by
 have g:∀(r:List Int) (n:Int),(∀b∈n::r,b<=r.foldl max n)/\r.foldl max n∈n::r:=by
  intro r
  induction r with
  |nil=>intro n;exact⟨λ b a=>by rw[Nz] at a;subst a;exact Int.le_refl _,Pa.mpr rfl⟩
  |cons x r k=>
   intro n;let⟨j,l⟩:=k (max n x);rw[foldl_cons];have A:=j (max n x) Nc;refine⟨λ b a=>?_,?_⟩
   .rcases MJ.mp a with rfl | a
    .lia
    .rcases MJ.mp a with rfl | a
     .lia
     .exact j b (MP _ a)
   .rcases MJ.mp l with e | e
    .rw[e]
     by_cases h:n<=x
     .rw[Int.max_eq_right h];exact MP _ Nc
     .rw[Int.max_eq_left 'o'];exact Nc
    .exact MP _ (MP _ e)
 let⟨z,u⟩:=g r n;have:=z M t;have:=q _ u;lia
theorem vQ{M n:Int}{r:List Int}(t:M∈n::r)(q:∀b∈n::r,M<=b):M=r.foldl min n:=by
 have g:∀(r:List Int) (n:Int),(∀b∈n::r,r.foldl min n<=b)/\r.foldl min n∈n::r:=by
  intro r
  induction r with
  |nil=>intro n;exact⟨λ b a=>by rw[Nz] at a;subst a;exact Int.le_refl _,Pa.mpr rfl⟩
  |cons x r k=>
   intro n;let⟨j,l⟩:=k (min n x);rw[foldl_cons];have A:=j (min n x) Nc;refine⟨λ b a=>?_,?_⟩
   .rcases MJ.mp a with rfl | a
    .lia
    .rcases MJ.mp a with rfl | a
     .lia
     .exact j b (MP _ a)
   .rcases MJ.mp l with e | e
    .rw[e]
     by_cases h:n<=x
     .rw[Int.min_eq_left h];exact Nc
     .rw[Int.min_eq_right 'o'];exact MP _ Nc
    .exact MP _ (MP _ e)
 let⟨z,u⟩:=g r n;have:=z M t;have:=q _ u;lia
set_option maxHeartbeats 2000000 in
theorem vR(hu:UN X cl)(T:X.calm=true)(hh:X.A.handled=none)(b:B):aW X (vO b) (KU X cl (gC b)):=by
 intro aa s Y H xs l Q I u h;let⟨J,m,ws,w,m',r,q,e,k⟩:=h;unfold gC at e;split at e
 .split at e
  .
   split at e
   .split at e
    .ext hl;cases e;let⟨v,rfl,g⟩:=cg q;cases g;exact kD aa s Y H _ l Q I u ⟨_,rfl,MQ hl bu,k _ _ _ Ext.refl r (.int _)⟩
    .cases e
   .split at e
    .ext S x;cases e;let⟨v,rfl,g⟩:=cg q;let⟨a,vs,rfl,j,t⟩:=r.bM g x;exact kC aa s Y H _ l Q I u ⟨_,_,rfl,j,k _ _ _ Ext.refl r (by rw[<-t.length];exact .int _)⟩
    .cases e
  .cases e
 .split at e
  .
   cases e;let⟨v,rfl,g⟩:=cg q;cases g;exact uz aa s Y H _ l Q I u ⟨_,rfl,k _ _ _ Ext.refl r (.int _)⟩
  .cases e
 .split at e
  .cases e;let⟨v,v',rfl,g,L⟩:=DK q;cases g;cases L;exact rY T aa s Y H _ l Q I u ⟨_,_,rfl,k _ _ _ Ext.refl r (.int _)⟩
  .split at e
   .ext x;cases e;let⟨v,rfl,g⟩:=cg q;cases g with
    |tup j t=>
     have z:=t.bF x;subst z;refine tu T aa s Y H _ l Q I u ⟨_,_,rfl,j,by simp,λ M h1 U=>?_⟩;rw[vP h1 U];exact k _ _ _ Ext.refl r (.int _)
   .cases e
  .cases e
 .split at e
  .cases e;let⟨v,v',rfl,g,L⟩:=DK q;cases g;cases L;exact rZ T aa s Y H _ l Q I u ⟨_,_,rfl,k _ _ _ Ext.refl r (.int _)⟩
  .split at e
   .ext x;cases e;let⟨v,rfl,g⟩:=cg q;cases g with
    |tup j t=>
     have z:=t.bF x;subst z;refine s9 T aa s Y H _ l Q I u ⟨_,_,rfl,j,by simp,λ M h1 U=>?_⟩;rw[vQ h1 U];exact k _ _ _ Ext.refl r (.int _)
   .cases e
  .cases e
 .split at e
  .split at e
   .ext hd;cases e;let⟨v,v',rfl,g,L⟩:=DK q;cases g;cases L;refine lU aa s Y H _ l Q I u ⟨_,_,rfl,hd,λ p R=>?_⟩;let⟨N,O⟩:=r.kM R [.int _,.int _];exact k _ _ _ N O (.tup (.of aq) %[.int _,|.int _])
   .cases e
  .cases e
 .split at e
  .
   split at e
   .ext S x;split at e
    .ext bs e2;cases e;let⟨v,rfl,g⟩:=cg q;let⟨a,vs,rfl,j,t⟩:=r.getL g x;have z:=t.bools e2;subst z;exact uO hh aa s Y H _ l Q I u ⟨_,_,rfl,j,k _ _ _ Ext.refl r (.bl _)⟩
    .cases e
   .cases e
  .cases e
 .split at e
  .split at e
   .ext S x;split at e
    .ext bs e2;cases e;let⟨v,rfl,g⟩:=cg q;let⟨a,vs,rfl,j,t⟩:=r.getL g x;have z:=t.bools e2;subst z;exact vN hh aa s Y H _ l Q I u ⟨_,_,rfl,j,k _ _ _ Ext.refl r (.bl _)⟩
    .cases e
   .cases e
  .cases e
 .split at e
  .
   split at e
   .ext S x;cases e;let⟨v,rfl,g⟩:=cg q;let⟨a,vs,rfl,j,t⟩:=r.bM g x;refine kE aa s Y H _ l Q I u ⟨_,_,rfl,j,λ p R=>?_⟩;let⟨N,O⟩:=r.newL R t;exact k _ _ _ N O (.ref (r.last p))
   .cases e
  .cases e
 .split at e
  .split at e
   .ext S x;cases e;let⟨v,rfl,g⟩:=cg q;let⟨a,vs,rfl,j,t⟩:=r.bM g x;refine ji aa s Y H _ l Q I u ⟨_,vs,rfl,?_⟩;rcases j with j | j
    .refine .inl ⟨j,λ p R=>?_⟩;let⟨N,O⟩:=r.kM R vs;exact k _ _ _ N O (.tup (.of aq) (t.mono r N))
    .exact .inr ⟨j,k _ _ _ Ext.refl r (.tup j t)⟩
   .cases e
  .cases e
 .split at e
  .cases e;let⟨v,rfl,g⟩:=cg q;cases g;exact jv aa s Y H _ l Q I u (.inl ⟨_,rfl,k _ _ _ Ext.refl r (.int _)⟩)
  .cases e;let⟨v,rfl,g⟩:=cg q;cases g;exact jv aa s Y H _ l Q I u (.inr ⟨_,rfl,k _ _ _ Ext.refl r (.int _)⟩)
  .split at e
   .ext hn;split at e
    .ext hz;cases e;let⟨v,rfl,g⟩:=cg q;cases g;exact kN aa s Y H _ l Q I u ⟨_,_,rfl,hn,hz,k _ _ _ Ext.refl r (.int _)⟩
    .cases e
   .cases e
  .cases e
 .cases e
theorem vS{x:Str}{b:B}{a:Expr}(S:UN X cl)(hc:X.calm=true)(hh:X.A.handled=none)(hb:vO b=.builtin id)(hg:Gl X x)(U:X.mg x=none)(O:bootBuiltins x=@(.builtin id))(ha:PA X (a::es) (SA X cl (aH C ds)))
  (T:x≠"__name__") (j:(x==("__debug__":Str))=false) (he:starEach (a::es) X.env=(false,eval a X.env)::starEach es X.env) (h:(backTo pos (starEach es X.env)).any (·.1)=false):PE X (.Call (.Name x p) (a::es) [] pos) (SE X cl (ao C (.blt b ds))):=by
 refine PE.imp (dQ (hb▸vR (cl:=cl) S hc hh b) hg U O ha T j he h) ?_;rintro Y H Q ⟨J,Z,m,w,m',r,l,e,k⟩;erw[iJ] at e;let⟨x,t,e1,e⟩:=R.af e;exact⟨J,Z,m,x,t,r,l,e1,fun g H1 v1 I q N=>⟨g,t,x,w,m',q,N,e,fun u H2 v2 z L M=>k _ _ _ (I.trans q z) L M⟩⟩
theorem vU{x:Str}{b:B}{a:Expr}(S:UN X cl)(hc:X.calm=true)(hh:X.A.handled=none)(hb:vO b=.type id)(hg:Gl X x)(U:X.mg x=none)(O:bootBuiltins x=@(.type id))(ha:PA X (a::es) (SA X cl (aH C ds)))
  (T:x≠"__name__") (j:(x==("__debug__":Str))=false) (he:starEach (a::es) X.env=(false,eval a X.env)::starEach es X.env) (h:(backTo pos (starEach es X.env)).any (·.1)=false):PE X (.Call (.Name x p) (a::es) [] pos) (SE X cl (ao C (.blt b ds))):=by
 refine PE.imp (jB (hb▸vR (cl:=cl) S hc hh b) hg U O ha T j he h) ?_;rintro Y H Q ⟨J,Z,m,w,m',r,l,e,k⟩;erw[iJ] at e;let⟨x,t,e1,e⟩:=R.af e;exact⟨J,Z,m,x,t,r,l,e1,fun g H1 v1 I q N=>⟨g,t,x,w,m',q,N,e,fun u H2 v2 z L M=>k _ _ _ (I.trans q z) L M⟩⟩
theorem Rel.tw(r:Rel K cl J m H){p:Addr}(a:H p=none)(o:HO):Ext J H J (upd H p o)/\Rel K cl J m (upd H p o):=by
 have x:Ext J H J (upd H p o):=⟨⟨[],by simp,by simp⟩,λ h _ _=>by rw[ai (au h a)];exact h⟩;refine⟨x,r.len,r.nd,λ j g=>?_⟩;have q:=r.obj j g;let⟨u,e,_⟩:=q.ex;exact q.mono r x (ai (au e a))
def bg:List String:=["int","bool","str","list","tuple","dict","NoneType"]
theorem pB(K:ae):∀t∈bg,∀c∈bg,PySem.W.kitOne K (.type t) (.type c)=some (t==c||(t=="bool"&&c=="int")):=by
 intro t a c g;erw[bg,Nq,MU,Nr] at a g;rcases a with rfl | rfl | rfl | rfl | rfl | rfl | rfl<;>rcases g with rfl | rfl | rfl | rfl | rfl | rfl | rfl<;>with_unfolding_all rfl
theorem vW{a:Addr}{c:Value}{b:Bool}{A:Around}{Q:Value->Shared->Prop}{E:Value->Shared->Prop}(I:Inv X aa Y H s)(h:bI X.K H a vs)(e:PySem.W.kitOne X.K (.type "tuple") c=some b)(q:∀tk,Q (.bool b) {s with toks:=tk}) :
  wpAny (model X.prog X.w) A (call (.builtin "isinstance") [.ref a,c]) Q E s:=by
 let⟨g,l,⟨o,k,j,n,t⟩,r⟩:=I.tuple h;exact M1 PySem.W.kitx_tuple I.bA ⟨_,k,j⟩ e (λ z=>nomatch z) q
theorem nv{a:Addr}{c:Value}{b:Bool}{A:Around}{Q:Value->Shared->Prop}{E:Value->Shared->Prop}(I:Inv X aa Y H s)(h:dI X.K H a vs)(e:PySem.W.kitOne X.K (.type "list") c=some b)(q:∀tk,Q (.bool b) {s with toks:=tk}) :
  wpAny (model X.prog X.w) A (call (.builtin "isinstance") [.ref a,c]) Q E s:=by
 let⟨g,l,⟨o,n,k,j,u,t⟩,r⟩:=I.list h;exact M1 Pd I.bA ⟨_,k,j⟩ e (λ z=>nomatch z) q
theorem DL{t:String}(a:t∈bg):aW X (.builtin "isinstance") (λ xs H Q=>∃x,xs=[x,.ty t]/\∃J m w b,Rel X.K cl J m H/\RW X.K J H w x/\iD m t w=some b/\Q (.bl b) H):=by
 intro aa s Y H xs S Q I M h;let⟨x,rfl,J,m,w,b,r,q,e,k⟩:=h;let⟨u,T,rfl,j,N⟩:=vals2 M;cases N;have g:∀B,EP X aa Y Q (.bool b) {s with toks:=B}:=λ B=>⟨.bl b,H,I.tok B,rfl,k⟩;cases q with
 |non=>erw[iD] at e;exact ef I j .non (by rw[pB _ _ 'd' _ a,<-e];erw[bg,Nq,MU,Nr] at a;rcases a with rfl | rfl | rfl | rfl | rfl | rfl | rfl<;>rfl) g
 |bl c=>erw[iD] at e;exact ef I j (.bl c) (by rw[pB _ _ 'd' _ a,<-e];erw[bg,Nq,MU,Nr] at a;rcases a with rfl | rfl | rfl | rfl | rfl | rfl | rfl<;>rfl) g
 |int i=>erw[iD] at e;exact ef I j (.int i) (by rw[pB _ _ 'd' _ a,<-e];erw[bg,Nq,MU,Nr] at a;rcases a with rfl | rfl | rfl | rfl | rfl | rfl | rfl<;>rfl) g
 |str y=>erw[iD] at e;exact ef I j (.str y) (by rw[pB _ _ 'd' _ a,<-e];erw[bg,Nq,MU,Nr] at a;rcases a with rfl | rfl | rfl | rfl | rfl | rfl | rfl<;>rfl) g
 |tup h tt=>
  erw[iD] at e;cases j;exact vW I h (by rw[pB _ _ 'd' _ a,<-e];erw[bg,Nq,MU,Nr] at a;rcases a with rfl | rfl | rfl | rfl | rfl | rfl | rfl<;>rfl) g
 |fz h tt=>
  erw[iD] at e;cases j;exact nv I h.l (by rw[pB _ _ 'd' _ a,<-e];erw[bg,Nq,MU,Nr] at a;rcases a with rfl | rfl | rfl | rfl | rfl | rfl | rfl<;>rfl) g
 |obj h e0 tt=>erw[iD] at e;cases e
 |ref h=>
  erw[iD] at e;cases j;ext U L;have O:∀{vs:List V},dI X.K H L vs->some (t=="list")=some b->wpAny (model X.prog X.w) X.A (call (.builtin "isinstance") [.ref L,.type t]) (EP X aa Y Q) X.xe s:=λ {vs} hs e=>nv (A:=X.A) (E:=X.xe) I hs (c:=.type t) (b:=b) (by rw[pB _ _ 'd' _ a,<-e];erw[bg,Nq,MU,Nr] at a;rcases a with rfl | rfl | rfl | rfl | rfl | rfl | rfl<;>rfl) g;split at e
  .ext xs R;let⟨vs,z,_⟩:=r.obj R h;exact O (.inl (.inl z)) e
  .cases e
theorem Hq{a:Expr}{t:Str}{g:String}{j:Pos}(O:g∈bg)(U:Gl X "isinstance")(T:X.mg "isinstance"=none)(Hr:Gl X t)(q:X.mg t=none)(A:bootBuiltins t=@(.type g))(ha:PE X a (SE X cl (ao C d)))
  (S:t≠"__name__") (z:(t==("__debug__":Str))=false) (I:starEach [a,.Name t j] X.env=(false,eval a X.env)::starEach [.Name t j] X.env):PE X (.Call (.Name "isinstance" p) [a,.Name t j] [] pos) (SE X cl (ao C (.isI d g))):=by
 refine PE.imp (dQ (DL (cl:=cl) O) U T 'k' (aM ha (aM (pY (v:=.ty g) (u:=.type g) Hr q A rfl S z) bE) I) 'k' 'k' I rfl) ?_;rintro Y H Q ⟨J,Z,m,w,m',r,l,e,k⟩;erw[qD] at e;let⟨x,m1,e1,e⟩:=R.af e;split at e
 .ext b e2;cases e;exact⟨J,Z,m,x,_,r,l,e1,fun h H1 M L B N=>⟨M,rfl,h,_,x,b,B,N,e2,k _ _ _ L B (.bl b)⟩⟩
 .cases e
inductive SM(X:L2.Cx)(cl:Cl)(name:String)(x:V)(xs:List V)(H:Hp)(Q:VK):Prop
 |mk (J:List Addr) (m:Mem) (wx:W) (ws:List W) (w:W) (m':Mem) (h1:Rel X.K cl J m H) (h2:RW X.K J H wx x) (h3:aA X.K J H ws xs) (h4:bT wx name ws m=.ok w m') (h5:∀J' H' v,Ext J H J' H'->Rel X.K cl J' m' H'->RW X.K J' H' w v->Q v H'):SM X cl name x xs H Q
theorem zm(h:sN name=.lst):¬name="join"/\¬name="index"/\¬name="add"/\¬name="endswith"/\¬name="split":=by
 unfold sN at h;split at h
 .cases h
 .ext a;split at h
  .cases h
  .ext g;exact⟨λ z=>a (.inl z),λ z=>a (.inr (.inl z)),g,λ z=>a (.inr (.inr (.inl z))),λ z=>a (.inr (.inr (.inr z)))⟩
theorem vX{o:W}(h:sN name=.lst)(g:¬(name="lindex"\/name="count"))(e:bT o name ws m=.ok w m'):∃n a,o=.ref n/\m[n]?=some (.lst a)/\gD n a name ws m=.ok w m':=by
 let⟨r,q,l,k,j⟩:=zm h;unfold bT at e;split at e
 .split at e
  .ext n _ a t;exact⟨_,_,rfl,t,e⟩
  .erw[cD,l,MR] at e;cases e
  .cases e
 .erw[iF,r,q,k,j,MR] at e;cases e
 .rw[O7] at g;erw[g.1,g.2,MR] at e;cases e
 .split at e
  .ext z;subst z;exact absurd h 'd'
  .cases e
 .cases e
theorem aA.strs:∀{ws:List W} {vs:List V} {a:List Str},aA K J H ws vs->jG ws=some a->vs=a.map V.str
 | [],_,_,.nil,h=>by cases h;rfl
 |w::ws,_,a,.cons q t,h=>by
  cases w with
  |str z=>
   erw[jG,Mt] at h;let⟨g,j,rfl⟩:=h;cases q;rw[t.strs j];rfl
  |_=>cases h
theorem DM{g:Type}[BEq g][LawfulBEq g](f:g->V)(hf:∀x,L2.cR (f x)=true)(he:∀x y,l0 (f x) (f y)=(x==y)){a:Addr}{ns:List g}{i:g}(r:dI K H a (ns.map f))(h:ns.idxOf i<ns.length/\ns.length<=1000000)(q:Q (.int (ns.idxOf i:Nat)) H):L2.vJ K (.ref a) [f i] H Q:=by
 refine⟨_,_,_,ns.idxOf i,rfl,rfl,r,hf _,?_,?_,⟨f i,?_,by rw[he];simp⟩,λ j z u l=>?_,q⟩
 .rw[Qc];exact MV.mpr λ _ _=>hf _
 .have:=h.1;have:=h.2;lia
 .rw[Oc,M6 h.1,getElem_idxOf h.1];rfl
 .rw[Oc,Mt] at l;let⟨y,k,rfl⟩:=l;let⟨t,rfl⟩:=Mw.mp k;have:=not_of_lt_findIdx u;rw[he];simpa using this
theorem tB:ya X "list.index" (SM X cl "lindex"):=by
 intro aa s Y H x T v q Q I u A h;let⟨J,m,l,ws,w,m',r,B,L,e,k⟩:=h;have S:∃g,D.getL m l=some g/\gY g ws m=.ok w m':=by
  unfold bT at e;split at e
  .split at e
   .ext n _ g j;erw[gD,String.reduceEq,MR,ND] at e;exact⟨g,by erw[D.getL,j],e⟩
   .erw[cD,String.reduceEq,MR] at e;cases e
   .cases e
  .erw[iF,String.reduceEq,MR] at e;cases e
  .erw[ND] at e;exact⟨_,rfl,e⟩
  .erw[String.reduceEq,MR] at e;cases e
  .cases e
 clear e;let⟨g,N,e⟩:=S;let⟨a,vs,rfl,O,t⟩:=r.getL B N;unfold gY at e;split at e
 .split at e
  .ext i _ ns j;split at e
   .ext R;cases e;have z:=t.bF j;subst z;let⟨U,rfl,M⟩:=cg L;cases M;exact vK aa s Y H _ _ v q Q I u A (DM V.int (λ _=>rfl) (λ _ _=>rfl) O R (k _ _ _ Ext.refl r (.int _)))
   .cases e
  .cases e
 .cases e
theorem tD:ya X "list.append" (SM X cl "append"):=by
 intro aa s Y H x S v l Q I q u h;let⟨J,m,T,ws,w,m',r,A,B,e,k⟩:=h;replace e:=vX 'd' 'd' e;let⟨n,R,rfl,g,e⟩:=e;erw[gD,MO] at e;unfold mF at e;split at e
 .split at e
  .ext M;cases e;let⟨a,vs,rfl,N,O,t⟩:=r.lst A g;let⟨U,rfl,L⟩:=cg B;let⟨j,z⟩:=r.G6 g N (t.append %[|L]);exact jC aa s Y H _ _ v l Q I q u ⟨_,_,_,rfl,rfl,O,MG (by rw[<-t.length];exact M) bu,k _ _ _ j z .non⟩
  .cases e
 .cases e
theorem vY:ya X "list.count" (SM X cl "count"):=by
 intro aa s Y H x xs v A Q I B L h;let⟨J,m,O,ws,w,m',r,S,M,e,k⟩:=h;have U:∃g,D.getL m O=some g/\dz g ws m=.ok w m':=by
  unfold bT at e;split at e
  .split at e
   .ext n _ g l;erw[gD,String.reduceEq,MR,ND] at e;exact⟨g,by erw[D.getL,l],e⟩
   .erw[cD,String.reduceEq,MR] at e;cases e
   .cases e
  .erw[iF,String.reduceEq,MR] at e;cases e
  .erw[String.reduceEq,MR,ND] at e
   first | exact⟨_,rfl,e⟩ | cases e
  .erw[String.reduceEq,MR] at e;cases e
  .cases e
 clear e;let⟨g,T,e⟩:=U;let⟨a,vs,rfl,N,t⟩:=r.getL S T;unfold dz at e;split at e
 .split at e
  .ext z;split at e
   .ext j l;cases e;have u:=t.strs l;subst u;let⟨R,rfl,q⟩:=cg M;cases q;refine jU aa s Y H _ _ v A Q I B L ⟨_,_,_,rfl,rfl,N,rfl,?_,?_⟩
    .rw[Qc];exact MV.mpr λ _ _=>rfl
    .have:((j.map V.str).countP λ y=>l0 y (.str z))=j.count z:=by
      rw[Qh,List.count];rfl
     rw[this];exact k _ _ _ Ext.refl r (.int _)
   .cases e
  .ext z;split at e
   .ext j l;cases e;have u:=t.bF l;subst u;let⟨R,rfl,q⟩:=cg M;cases q;refine jU aa s Y H _ _ v A Q I B L ⟨_,_,_,rfl,rfl,N,rfl,?_,?_⟩
    .rw[Qc];exact MV.mpr λ _ _=>rfl
    .have:((j.map V.int).countP λ y=>l0 y (.int z))=j.count z:=by
      rw[Qh,List.count];rfl
     rw[this];exact k _ _ _ Ext.refl r (.int _)
   .cases e
  .cases e
 .cases e
theorem tE:ya X "tuple.count" (SM X cl "tcount"):=by
 intro aa s Y H x U v A Q I B L h;let⟨J,m,O,ws,w,m',r,S,M,e,k⟩:=h;have T:∃j,O=.tup j/\dz j ws m=.ok w m':=by
  unfold bT at e;split at e
  .split at e
   .erw[gD,String.reduceEq,MR] at e;cases e
   .erw[cD,String.reduceEq,MR] at e;cases e
   .cases e
  .erw[iF,String.reduceEq,MR] at e;cases e
  .erw[String.reduceEq,MR] at e;cases e
  .erw[ND] at e;exact⟨_,rfl,e⟩
  .cases e
 clear e;let⟨j,rfl,e⟩:=T;cases S;ext a vs N t;unfold dz at e;split at e
 .split at e
  .ext z;split at e
   .ext g u;cases e;have q:=t.strs u;subst q;let⟨R,rfl,l⟩:=cg M;cases l;refine jW aa s Y H _ _ v A Q I B L ⟨_,_,_,rfl,rfl,N,rfl,?_,?_⟩
    .rw[Qc];exact MV.mpr λ _ _=>rfl
    .have:((g.map V.str).countP λ y=>l0 y (.str z))=g.count z:=by
      rw[Qh,List.count];rfl
     rw[this];exact k _ _ _ Ext.refl r (.int _)
   .cases e
  .ext z;split at e
   .ext g u;cases e;have q:=t.bF u;subst q;let⟨R,rfl,l⟩:=cg M;cases l;refine jW aa s Y H _ _ v A Q I B L ⟨_,_,_,rfl,rfl,N,rfl,?_,?_⟩
    .rw[Qc];exact MV.mpr λ _ _=>rfl
    .have:((g.map V.int).countP λ y=>l0 y (.int z))=g.count z:=by
      rw[Qh,List.count];rfl
     rw[this];exact k _ _ _ Ext.refl r (.int _)
   .cases e
  .cases e
 .cases e
theorem ny{o:W}(a:sN name=.str)(e:bT o name ws m=.ok w m'):∃z,o=.str z/\iF z name ws m=.ok w m':=by
 have g:name="join"\/name="index"\/name="endswith"\/name="split":=by
  unfold sN at a;split at a
  .assumption
  .split at a<;>first | cases a | (split at a<;>cases a)
 unfold bT at e;split at e
 .split at e
  .rcases g with rfl | rfl | rfl | rfl<;>(erw[gD,String.reduceEq,MR] at e;cases e)
  .rcases g with rfl | rfl | rfl | rfl<;>(erw[cD,String.reduceEq,MR] at e;cases e)
  .cases e
 .exact⟨_,rfl,e⟩
 .rcases g with rfl | rfl | rfl | rfl<;>(erw[String.reduceEq,MR] at e;cases e)
 .rcases g with rfl | rfl | rfl | rfl<;>(erw[String.reduceEq,MR] at e;cases e)
 .cases e
theorem zo:ya X "str.endswith" (SM X cl "endswith"):=by
 intro aa s Y H x u v a Q I g j h;let⟨J,m,A,ws,w,m',r,l,q,e,k⟩:=h;replace e:=ny 'd' e;let⟨z,rfl,e⟩:=e;replace e:oW z ws m=.ok w m':=e;unfold oW at e;split at e
 .cases e;cases l;let⟨B,rfl,t⟩:=cg q;cases t;exact zj aa s Y H _ _ v a Q I g j ⟨_,_,rfl,rfl,k _ _ _ Ext.refl r (.bl _)⟩
 .cases e
theorem aA.qP:∀ns:List Str,aA K J H (ns.map W.str) (ns.map V.str)
 | []=>.nil
 |x::r=>.cons (.str x) (aA.qP r)
theorem vZ:ya X "str.split" (SM X cl "split"):=by
 intro aa s Y H x M v j Q I l q h;let⟨J,m,N,ws,w,m',r,u,A,e,k⟩:=h;replace e:=ny 'd' e;let⟨z,rfl,e⟩:=e;replace e:kH z ws m=.ok w m':=e;unfold kH at e;split at e
 .split at e
  .ext a;cases e;cases u;let⟨O,rfl,B⟩:=cg A;cases B;have R:sizeLine=16777216:=NS;refine vH aa s Y H _ _ v j Q I l q ⟨_,_,rfl,rfl,by rw[a.1];rfl,by have:=a.2;erw[lim] at this;lia,λ p L=>?_⟩;let⟨g,t⟩:=r.newL L (aA.qP (Txt.split z _));exact k _ _ _ g t (.ref (r.last p))
  .cases e
 .cases e
theorem wc{o:W}(e:bT o "add" ws m=.ok w m'):∃n ks,o=.ref n/\m[n]?=some (.set ks)/\cD n ks "add" ws m=.ok w m':=by
 unfold bT at e;split at e
 .split at e
  .erw[gD,String.reduceEq,MR] at e;cases e
  .ext n _ ks a;exact⟨_,_,rfl,a,e⟩
  .cases e
 .erw[iF,String.reduceEq,MR] at e;cases e
 .erw[String.reduceEq,MR] at e;cases e
 .erw[String.reduceEq,MR] at e;cases e
 .cases e
theorem Rel.JU{a:Addr}(r:Rel K cl J m H){o:O}{ks:List L2.Key}{S:L2.Key->Bool}(B:m[n]?=some o)(t:J[n]?=some a)(q:∀k,S k=mC k ks) :
  Ext J H J (upd H a (iB cl.P cl.w a S ks.length))/\Rel K cl J (m.set n (.set ks)) (upd H a (iB cl.P cl.w a S ks.length)):=by
 have I:a∈J:=M3 t;have x:Ext J H J (upd H a (iB cl.P cl.w a S ks.length)):=⟨⟨[],by simp,by simp⟩,λ {b u} h hn _=>by rw[ai (show b≠a from λ z=>hn (by rw[z];exact I))];exact h⟩;refine⟨x,by simp[r.len],r.nd,λ {k N b} j g=>?_⟩
 by_cases l:n=k
 .subst l;rw[t] at g;cases g;rw[Nd (Mw.mp B).1] at j;cases j;exact⟨S,aq,q⟩
 .rw[Na l] at j;have A:=r.obj j g;refine A.mono r x (ai ?_);rintro rfl;let⟨T,M⟩:=Mw.mp g;let⟨R,L⟩:=Mw.mp t;exact l ((PY r.nd).mp (L.trans M.symm))
theorem DN(t:UN X cl):ya X "set.add" (SM X cl "add"):=by
 intro aa s Y H x xs v O Q I R T h;let⟨J,m,wx,ws,w,m',r,U,qs,e,k⟩:=h;replace e:=wc e;let⟨n,a,rfl,N,e⟩:=e;erw[cD,MO] at e;unfold AW at e;split at e
 .split at e
  .ext g e1;split at e
   .ext hl;cases e;let⟨v1,rfl,q1⟩:=cg qs;have z:=nu q1 e1;subst z;cases U with
    |ref M=>
     let⟨S,hS,L⟩:=r.obj N M;have q:=hS;rw[t.P,t.w] at q;refine oR aa s Y H _ _ v O Q I R T ⟨_,S,_,g,rfl,rfl,q,hl,?_⟩;have u:∀j,(S j||decide (j=g))=mC j (if mC g a then a else a++[g]):=λ j=>by
      rw[L];split
      .ext hm;cases hd:decide (j=g) with
       |false=>simp
       |true=>
        have:=Oh hd;subst this;simp[hm]
      .erw[mC,any_append,ON,any_nil,Bool.or_false];congr 1;exact decide_eq_decide.mpr eq_comm
     let⟨A,B⟩:=r.JU N M u;have l:(if mC g a then a else a++[g]).length=if S g then a.length else a.length+1:=by
      rw[L];split<;>simp
     rw[l,t.P,t.w] at A B;exact k _ _ _ A B .non
   .cases e
  .cases e
 .cases e
def JV(X:L2.Cx)(T:String)(x:V)(H:Hp):Prop:=∀(aa:List (Addr×Obj)) (s:Shared) (Y:L2.St) (v:Value),Inv X aa Y H s->RelV x v->s.TypeIs v T/\∀a,v=.ref a->Exists λ g=>s.heap.get? a=some g/\g.dict=none
def Hs:Kd->String
 |.lst=>"list" |.str=>"str" |.set=>"set" |.no=>""
 |.tup=>"tuple"
theorem Bp{j:Kd}(r:Rel X.K cl J m H)(q:RW X.K J H w v)(A:j≠.no)(e:kdOf m w=j):JV X (Hs j) v H:=by
 intro aa s Y u I g;cases q with
 |ref h=>
  erw[kdOf] at e;split at e
  .ext ws t;let⟨vs,z,_⟩:=r.obj t h;subst e;exact oO (T:="list") I g (.inl ⟨rfl,_,.inl (.inl z)⟩)
  .ext N t;subst e;let⟨S,z,_⟩:=r.obj t h;cases g;let⟨⟨o,_,_,_,e,B,_⟩,_⟩:=I.hok _ _ z;refine⟨⟨o,e,B.1⟩,λ a k=>?_⟩;cases k;exact⟨o,e,B.2.1⟩
  .exact absurd e.symm A
 |str x=>
  erw[kdOf] at e;subst e;exact oO (T:="str") I g rfl
 |fz h tt=>
  erw[kdOf] at e;subst e;exact oO (T:="list") I g (.inl ⟨rfl,_,h.l⟩)
 |tup h tt=>
  erw[kdOf] at e;subst e;cases g;let⟨M,L⟩:=I.IZ h;exact⟨M,λ a k=>by cases k;exact L⟩
 |_=>exact absurd (by simpa[kdOf] using e.symm) A
section
variable{o:Expr}{d:E}{name:Str}{nm id:String}{apos:Pos}
theorem zp{T:String}(hT:T=Hs (sN nm))(pa:PlainAttrs T)(q:Slot T name id)(B:typeOf (.builtin id)=pure (.type "method_descriptor"))(hm:ya X id (SM X cl nm))(ho:PE X o (SE X cl (ao C d)))
  (g:attributeBase o name X.env (eval o X.env)=eval o X.env) (a:(apos.endLine==pos.line)=true):PE X (.Call (.Attribute o name apos) [] [] pos) (SE X cl (ao C (.meth d nm .nil))):=by
 intro aa s Y H Q I h;refine wpAny_Call_method0_late g a ?_;let⟨J,Z,m,w,m',r,l,e,k⟩:=h;erw[iK] at e;let⟨x,M,e1,e⟩:=R.af e;refine aJ (ho aa s Y H (λ v t=>JV X T v t/\SM X cl nm v [] t Q) I ⟨J,Z,m,x,M,r,l,e1,fun A t v1 U j u=>?_⟩) λ v L ⟨x,t,N,j,ty,u⟩=>?_
 .split at e
  .ext hk;erw[bW,R.bind] at e;exact⟨by rw[hT];exact Bp j u (by unfold sN;split<;>(try split)<;>(try split)<;>(intro z;cases z)) hk,A,M,x,[],w,m',j,u,.nil,e,fun O H2 v2 S r2 q2=>k _ _ _ (U.trans j S) r2 q2⟩
  .cases e
 .let⟨h1,h2⟩:=ty aa L Y v N j;exact⟨T,id,pa,q,B,h1,h2,PF rfl (PySem.evalArgs_none (hm aa L Y t x [] v [] Q N j .nil u))⟩
theorem DO{T:String}{a:Expr}(hT:T=Hs (sN nm))(pa:PlainAttrs T)(u:Slot T name id)(hty:typeOf (.builtin id)=pure (.type "method_descriptor"))(hm:ya X id (SM X cl nm))(ho:PE X o (SE X cl (ao C d)))(ha:PA X (a::es) (SA X cl (aH C ds)))
  (t:attributeBase o name X.env (eval o X.env)=eval o X.env)
  (A:((backTo pos (starEach (a::es) X.env)).all (λ x=>!x.1)&&(backToKw pos (keywordEach [] X.env)).all (λ x=>x.1.isSome)
   && decide ((a::es).length+([]:List Keyword).length+(if ([]:List Keyword).isEmpty then 0 else 1)<30))=true)
  (q:(apos.endLine==pos.line)=true) (hs:starEach (a::es) X.env=(false,eval a X.env)::starEach es X.env) (g:(backTo pos (starEach es X.env)).any (·.1)=false):PE X (.Call (.Attribute o name apos) (a::es) [] pos) (SE X cl (ao C (.meth d nm ds))):=by
 intro aa s Y H Q I h;refine wpAny_Call_method_late t A q rfl ?_;let⟨J,Z,m,w,m',r,l,e,k⟩:=h;erw[iK] at e;let⟨x,m1,e1,e⟩:=R.af e;refine aJ (ho aa s Y H (λ v B=>JV X T v B/\SA X cl (aH C ds) Y B λ xs N=>SM X cl nm v xs N Q) I ⟨J,Z,m,x,m1,r,l,e1,fun S B v1 x1 j M=>?_⟩) λ v s1 ⟨x,B,I1,j,ty,M⟩=>?_
 .split at e
  .ext hk;let⟨ws,m2,e2,e⟩:=R.af e;exact⟨by rw[hT];exact Bp j M (by unfold sN;split<;>(try split)<;>(try split)<;>(intro z;cases z)) hk,S,Z,m1,ws,m2,j,l.mono r x1,e2,fun O N v2 x2 L U=>
    ⟨O,m2,x,ws,w,m',L,M.mono j x2,U,e,fun β3 H3 v3 x3 r3 q3=>k _ _ _ ((x1.trans j x2).trans L x3) r3 q3⟩⟩
  .cases e
 .let⟨h1,h2⟩:=ty aa s1 Y v I1 j;refine⟨T,id,pa,u,hty,h1,h2,?_⟩;have hA:=ha pos aa s1 Y B _ I1 M;rw[hs] at hA ⊢;refine PF (by show (false||(backTo pos (starEach es X.env)).any (·.1))=false;rw[g]<;>rfl) (Calls.evalArgs_plain ?_);exact aJ hA λ us s2 ⟨vs,N,I2,L,U⟩=>hm aa s2 Y N x vs v us Q I2 j L U
end
theorem DP(a:UN X cl)(j:Gl X "set")(h:X.mg "set"=none):PE X (.Call (.Name "set" p) [] [] pos) (SE X cl (ao C .set0)):=by
 refine PE.imp (oG sD j h 'k' 'k' 'k') ?_;rintro Y H Q ⟨J,Z,m,w,m',r,l,e,k⟩;erw[kI,new] at e;cases e;refine⟨rfl,λ p g=>?_⟩;have:=r.zc (o:=.set []) (ho:=iB cl.P cl.w p (λ _=>false) 0) g λ x=>⟨_,aq,λ _=>rfl⟩;rw[a.P,a.w] at this;exact k _ _ _ this.1 this.2 (.ref (r.last p))
abbrev tY(P:Program)(w:World):qb:=iZ P w
theorem qQ:Passes (tY X.prog X.w) X E0:=G1
theorem Lw{w:World}{l:List Env}{a:Shared}{e:Value}(h:tY P w l H s (λ _ _ _=>False) e a):False:=by
 let⟨_,_,_,_,_,_,_,_,_,_,z⟩:=h;exact z
def qR(K:ae)(cl:Cl)(np:Nat)(f:List W->Mem->R W):Sp:=λ vs H Q _=>vs.length=np/\∃J m ws w m',Rel K cl J m H/\aA K J H ws vs/\f ws m=.ok w m'/\∀J' H' v,Ext J H J' H'->Rel K cl J' m' H'->RW K J' H' w v->Q v H'
theorem s_call{k f:Nat}{B:FuncData}{g:List Str}{x:Str}{a:Expr}(F:aY X.prog X.w X.K X.mg X.base (tY X.prog X.w) k fa B g (qR X.K cl g.length (C.call f)))(T:aS k X.A)(hg:Gl X x)(U:X.mg x=@(.ref fa))(hk:PySem.W.keepIn X.K (.ref fa)=true)(hb:Binds X.K B g [])
  (ha:PA X (a::es) (SA X cl (aH C ds))) (hl:∀Z m ws m',aH C ds Z m=.ok ws m'->ws.length=g.length) (q:(x==("__debug__":Str))=false) (he:starEach (a::es) X.env=(false,eval a X.env)::starEach es X.env) (j:(backTo pos (starEach es X.env)).any (·.1)=false) :
  PE X (.Call (.Name x p) (a::es) [] pos) (SE X cl (ao C (.call f ds))):=by
 refine PE.imp (yx F T hg U hk hb .nil qQ ha q he j) ?_;rintro Y H Q ⟨J,Z,m,w,m',r,l,e,k⟩;erw[iH] at e;let⟨x,z,I,e⟩:=R.af e;refine⟨J,Z,m,x,z,r,l,I,fun h H1 v1 N t u=>⟨?_,h,z,x,w,m',t,by rw[NP];exact u,e,fun L H2 v2 M O S=>k _ _ _ (N.trans t M) O S⟩⟩;rw[NP,<-u.length];exact hl _ _ _ _ I
end
section
variable(X:L2.Cx)(cl:Cl)
def IS(h:It)(g:Src)(β0:List Addr)(H0:Hp):Prop:=∀(J:List Addr) (m:Mem) (H:Hp) (i:Nat),(∃j,J=β0++j)->(∀{a:Addr} {vs:List V},bI X.K H0 a vs->bI X.K H a vs)->(∀{a:Addr} {o:Obj} {u:HO},H0 a=some (.frz o u)->H a=@(.frz o u))->Rel X.K cl J m H->
 (∀w,g.get m i=.it w->h.go i H/\∀x H',h.yld i H x H'->Ext J H J H'/\Rel X.K cl J m H'/\RW X.K J H' w x)/\(g.get m i=.fin->h.stop i H)
inductive SI(ev:Loc->Mem->R Src)(Y:L2.St)(H:Hp)(Rr:It->Hp->Prop):Prop
 |mk (J:List Addr) (Z:Loc) (m:Mem) (src:Src) (m':Mem) (h1:Rel X.K cl J m H) (h2:RL X.K J H Z Y) (h3:ev Z m=.ok src m') (h4:∀J' H' Ms,Ext J H J' H'->Rel X.K cl J' m' H'->IS X cl Ms src J' H'->Rr Ms H'):SI ev Y H Rr
inductive SG(ev:W->Loc->Mem->R Loc)(v:V)(Y:L2.St)(H:Hp)(Q:L2.St->Hp->Prop):Prop
 |mk (J:List Addr) (Z:Loc) (m:Mem) (w:W) (ρ':Loc) (m':Mem) (h1:Rel X.K cl J m H) (h2:RL X.K J H Z Y) (h3:RW X.K J H w v) (h4:ev w Z m=.ok ρ' m') (h5:∀J' H' σ',Ext J H J' H'->Rel X.K cl J' m' H'->RL X.K J' H' ρ' σ'->Q σ' H'):SG ev v Y H Q
inductive DQ(ev:List W->Loc->Mem->R Loc)(vs:List V)(Y:L2.St)(H:Hp)(Q:L2.St->Hp->Prop):Prop
 |mk (J:List Addr) (Z:Loc) (m:Mem) (ws:List W) (ρ':Loc) (m':Mem) (h1:Rel X.K cl J m H) (h2:RL X.K J H Z Y) (h3:aA X.K J H ws vs) (h4:ev ws Z m=.ok ρ' m') (h5:∀J' H' σ',Ext J H J' H'->Rel X.K cl J' m' H'->RL X.K J' H' ρ' σ'->Q σ' H'):DQ ev vs Y H Q
def we(D:Ends)(J:List Addr)(H:Hp):F->Prop
 |.nx Z=>∀Y,RL X.K J H Z Y->D.nx Y H
 |.rt w=>∀v,RW X.K J H w v->D.rt v H
 |.bk Z=>∀Y,RL X.K J H Z Y->D.bk Y H
 |.ct Z=>∀Y,RL X.K J H Z Y->D.ct Y H
 |.rz c none Z=>∀Y,RL X.K J H Z Y->gM X Y (.ref (ah X.K c)) none H
 |.rz c (some (f,w)) Z=>∀Y y dx,RL X.K J H Z Y->RW X.K J H w y->H dx=none->gM X Y (.ref (ah X.K c)) (some dx) (upd H dx (.xd [(f,y)]))
inductive SS(ev:Loc->Mem->R F)(D:Ends)(Y:L2.St)(H:Hp):Prop
 |mk (J:List Addr) (Z:Loc) (m:Mem) (f:F) (m':Mem) (h1:Rel X.K cl J m H) (h2:RL X.K J H Z Y) (h3:ev Z m=.ok f m') (h4:∀J' H',Ext J H J' H'->Rel X.K cl J' m' H'->we X D J' H' f):SS ev D Y H
end
theorem PI.imp{X:L2.Cx}{t t':TI}(h:PI X tg e t)(i:∀Y H R,t' Y H R->t Y H R):PI X tg e t':=λ aa s Y H R I q=>h aa s Y H R I (i Y H R q)
theorem PI.or{X:L2.Cx}{t t':TI}(h:PI X tg e t)(h':PI X tg e t'):PI X tg e (fun Y H R=>t Y H R\/t' Y H R):=λ aa s Y H R I q=>q.elim (h aa s Y H R I) (h' aa s Y H R I)
theorem PG.imp{X:L2.Cx}{t t':TG}(h:PG X e t)(i:∀v Y H Q,t' v Y H Q->t v Y H Q):PG X e t':=λ aa s Y H v u Q I r q=>h aa s Y H v u Q I r (i v Y H Q q)
theorem n5.imp{X:L2.Cx}{e:List Expr}{t t':x9}(h:n5 X e t)(i:∀v Y H Q,t' v Y H Q->t v Y H Q):n5 X e t':=λ aa s Y H v u Q I r q=>h aa s Y H v u Q I r (i v Y H Q q)
theorem PS.imp{X:L2.Cx}{e:Stmt}{t t':TS}(h:PS X e t)(i:∀D Y H,t' D Y H->t D Y H):PS X e t':=λ aa s Y H D I q=>h aa s Y H D I (i D Y H q)
theorem dO.imp{X:L2.Cx}{e:List Stmt}{t t':TS}(h:dO X e t)(i:∀D Y H,t' D Y H->t D Y H):dO X e t':=λ aa s Y H D I q=>h aa s Y H D I (i D Y H q)
section
variable{X:L2.Cx}{cl:Cl}{C:D.Cx}{pos:Pos}
theorem nq.keep(g:∀{a:Addr} {o:Obj} {u:HO},H a=some (.frz o u)->H' a=@(.frz o u)){a:Addr}(h:nq K H a vs):nq K H' a vs:=
 h.elim (λ ⟨o,e⟩=>.inl ⟨o,g e⟩) .inr
theorem RW.keep(k:∃γ,J'=J++γ)(j:∀{a:Addr} {vs:List V},bI K H a vs->bI K H' a vs)(g:∀{a:Addr} {o:Obj} {u:HO},H a=some (.frz o u)->H' a=@(.frz o u))(q:RW K J H w v):RW K J' H' w v:=
 q.gen j (λ h=>h.keep g) g (λ h=>by let⟨γ,rfl⟩:=k;rw[MI (Mw.mp h).1];exact h)
theorem aA.keep(j:∃γ,J'=J++γ)(g:∀{a:Addr} {vs:List V},bI K H a vs->bI K H' a vs)(h:∀{a:Addr} {o:Obj} {u:HO},H a=some (.frz o u)->H' a=@(.frz o u)){w:List W}{v:List V}(q:aA K J H w v):aA K J' H' w v:=q.sZ (RW.keep j g h)
theorem wg{a:Addr}(u:β0[n]?=some a):IS X cl (Iu X.K a) (.lst n) β0 H0:=by
 intro J m H i j _ _ r;let⟨B,rfl⟩:=j;have g:(β0++B)[n]?=some a:=by rw[MI (Mw.mp u).1];exact u
 refine⟨λ w e=>?_,λ e=>?_⟩
 .erw[Src.get] at e;split at e
  .ext I l;split at e
   .ext M k;cases e;let⟨L,vs,z,h,t⟩:=r.getL (.ref g) l;cases z;let⟨v,A,q⟩:=t.get k;refine⟨⟨vs,v,h,A⟩,λ x H' y=>?_⟩;let⟨rfl,y⟩:=y;have:=y vs h;rw[A] at this;cases this;exact⟨Ext.refl,r,q⟩
   .cases e
  .cases e
 .erw[Src.get] at e;split at e
  .ext I l;split at e
   .cases e
   .ext k;let⟨L,vs,z,h,t⟩:=r.getL (.ref g) l;cases z;refine⟨vs,h,?_⟩;rw[<-t.length];exact Oo.mp k
  .cases e
theorem wj{a:Addr}(A:bI X.K H0 a vs)(u:aA X.K β0 H0 ws vs):IS X cl (Jg X.K a) (.tup ws) β0 H0:=by
 intro J m H i g k z r;have h:=k A;have t:=u.keep g k z;refine⟨λ w e=>?_,λ e=>?_⟩
 .erw[Src.get] at e;split at e
  .ext B j;cases e;let⟨v,l,q⟩:=t.get j;refine⟨⟨vs,v,h,l⟩,λ x H' y=>?_⟩;let⟨rfl,y⟩:=y;have:=y vs h;rw[l] at this;cases this;exact⟨Ext.refl,r,q⟩
  .cases e
 .erw[Src.get] at e;split at e
  .cases e
  .ext j;exact⟨vs,h,by rw[<-t.length];exact Oo.mp j⟩
theorem Bq{a:Addr}(B:nq X.K H0 a vs)(z:aA X.K β0 H0 ws vs):IS X cl (Iu X.K a) (.tup ws) β0 H0:=by
 intro J m H i g A k r;have h:=(B.keep k).l;have t:=z.keep g A k;refine⟨λ w e=>?_,λ e=>?_⟩
 .erw[Src.get] at e;split at e
  .ext I j;cases e;let⟨v,u,q⟩:=t.get j;refine⟨⟨vs,v,h,u⟩,λ x H' y=>?_⟩;let⟨rfl,y⟩:=y;have:=y vs h;rw[u] at this;cases this;exact⟨Ext.refl,r,q⟩
  .cases e
 .erw[Src.get] at e;split at e
  .cases e
  .ext j;exact⟨vs,h,by rw[<-t.length];exact Oo.mp j⟩
theorem DS{a:Addr}(T:nq X.K H0 a vs)(B:aA X.K β0 H0 ws vs):IS X cl (IB X.K a) (.enm (.tup ws)) β0 H0:=by
 intro J m H i h N S r;let⟨t,l⟩:=Bq (X:=X) (cl:=cl) T B J m H i h N S r;refine⟨λ w e=>?_,λ e=>?_⟩
 .erw[Src.get] at e t;split at e
  .ext A j;cases e;let⟨⟨u,x,O,L⟩,g⟩:=t A j;refine⟨⟨u,x,O,L⟩,λ y H' z=>?_⟩;let⟨p,v,R,rfl,rfl,M⟩:=z;let⟨_,_,q⟩:=g v H ⟨rfl,M⟩;let⟨k,I⟩:=r.kM R [.int i,v];exact⟨k,I,.tup (.of aq) %[.int _,|q.mono r k]⟩
  .cases e
  .cases e
 .erw[Src.get] at e l;split at e
  .cases e
  .ext j;exact l j
  .cases e
theorem DT{lo:Int}:IS X cl (Iv lo n) (.rng lo n) β0 H0:=by
 intro J m H i a _ _ r;refine⟨λ w e=>?_,λ e=>?_⟩
 .erw[Src.get] at e;split at e
  .ext h;cases e;refine⟨h,λ x H' y=>?_⟩;let⟨rfl,rfl⟩:=y;exact⟨Ext.refl,r,.int _⟩
  .cases e
 .erw[Src.get] at e;split at e
  .cases e
  .ext h;exact Pn h
theorem DU{s:Src}(r:Rel X.K cl J m H)(q:RW X.K J H w v)(e:srcOf m w=some s) :
  ∃a,v=.ref a/\((∃n vs,s=.lst n/\w=.ref n/\J[n]?=some a/\dI X.K H a vs)\/(∃ws vs,s=.tup ws/\w=.fz ws/\nq X.K H a vs/\aA X.K J H ws vs)\/∃ws vs,s=.tup ws/\w=.tup ws/\bI X.K H a vs/\aA X.K J H ws vs):=by
 cases q with
 |tup h t=>cases e;exact⟨_,rfl,.inr (.inr ⟨_,_,rfl,rfl,h,t⟩)⟩
 |fz h t=>cases e;exact⟨_,rfl,.inr (.inl ⟨_,_,rfl,rfl,h,t⟩)⟩
 |ref h=>
  erw[srcOf] at e;split at e
  .ext k j;cases e;let⟨a,vs,z,g,t⟩:=r.getL (.ref h) j;cases z;exact⟨_,rfl,.inl ⟨_,_,rfl,rfl,h,g⟩⟩
  .cases e
 |_=>cases e
theorem qS{s:Src}(r:Rel X.K cl J m H)(q:RW X.K J H (.tup ws) v)(e:srcOf m (.tup ws)=some s):∃a vs,v=.ref a/\s=.tup ws/\bI X.K H a vs/\aA X.K J H ws vs:=by
 cases q with
 |tup h t=>cases e;exact⟨_,_,rfl,rfl,h,t⟩
theorem wk{s:Src}(r:Rel X.K cl J m H)(q:RW X.K J H (.fz ws) v)(e:srcOf m (.fz ws)=some s):∃a vs,v=.ref a/\s=.tup ws/\nq X.K H a vs/\aA X.K J H ws vs:=by
 cases q with
 |fz h t=>cases e;exact⟨_,_,rfl,rfl,h,t⟩
theorem qT{s:Src}(r:Rel X.K cl J m H)(q:RW X.K J H (.ref n) v)(e:srcOf m (.ref n)=some s):∃a vs,v=.ref a/\s=.lst n/\J[n]?=some a/\dI X.K H a vs:=by
 obtain⟨a,rfl,⟨j,vs,rfl,z,h,g⟩ | ⟨_,_,_,z,_⟩ | ⟨_,_,_,z,_⟩⟩:=DU r q e
 .cases z;exact⟨a,vs,rfl,rfl,h,g⟩
 .cases z
 .cases z
theorem DV{z:Str}:IS X cl (JG z) (.tup (signs z)) β0 H0:=by
 intro J m H i k _ _ r;have a:∀j:Nat,(signs z)[j]?=(z.cps[j]?).map λ c=>W.str ⟨#[c]⟩:=λ j=>by simp[signs]
 refine⟨λ w e=>?_,λ e=>?_⟩
 .erw[Src.get,a] at e;cases hc:z.cps[i]? with
  |none=>rw[hc] at e;cases e
  |some c=>
   rw[hc] at e;cases e;have l:i<z.cps.size:=by
    rcases Nat.lt_or_ge i z.cps.size with h | h
    .exact h
    .rw[Array.getElem?_eq_none h] at hc;cases hc
   refine⟨l,λ x H' y=>?_⟩;let⟨rfl,q,g,rfl⟩:=y;rw[hc] at g;cases g;exact⟨Ext.refl,r,.str _⟩
 .erw[Src.get,a] at e;cases hc:z.cps[i]? with
  |none=>exact Array.getElem?_eq_none_iff.mp hc
  |some c=>rw[hc] at e;cases e
theorem Ht{a:Expr}(L:PE X a (SE X cl (ao C d)))(S:∀Z m,gE C d Z m=(ao C d Z m).bind GV):PI X tg a (SI X cl (gE C d)):=by
 refine PI.imp (PI.or (PI.or (yo L) (CB L)) (C9 L)) ?_;rintro Y H Rr ⟨J,Z,m,N,m',r,l,e,k⟩;rw[S] at e;let⟨x,U,B,e⟩:=R.af e;unfold GV at e;split at e
 .ext s h;cases e;cases x with
  |tup xs=>
   refine .inl (.inr ⟨J,Z,m,_,_,r,l,B,fun j M I q g u=>?_⟩);let⟨a,vs,rfl,rfl,A,t⟩:=qS g u h;exact⟨a,rfl,⟨vs,A⟩,k _ _ _ q g (wj A t)⟩
  |fz xs=>
   refine .inl (.inl ⟨J,Z,m,_,_,r,l,B,fun j M I q g u=>?_⟩);let⟨a,vs,rfl,rfl,A,t⟩:=wk g u h;exact⟨a,rfl,⟨vs,A.l⟩,k _ _ _ q g (Bq A t)⟩
  |ref n=>
   refine .inl (.inl ⟨J,Z,m,_,_,r,l,B,fun j M I q g u=>?_⟩);let⟨a,vs,rfl,rfl,T,A⟩:=qT g u h;exact⟨a,rfl,⟨vs,A⟩,k _ _ _ q g (wg T)⟩
  |str z=>
   refine .inr ⟨J,Z,m,_,_,r,l,B,fun j M I q g u=>?_⟩;cases u;erw[GU] at h;split at h
   .ext O;cases h;exact⟨z,rfl,O,k _ _ _ q g DV⟩
   .cases h
  |_=>cases h
 .cases e
theorem Hu{a:Expr}(I:Gl X "range")(B:X.mg "range"=none)(L:PE X a (SE X cl (ao C d)))(g:starEach [a] X.env=[(false,eval a X.env)]):PI X tg (.Call (.Name "range" p) [a] [] pos) (SI X cl (gE C (.rng d))):=by
 refine PI.imp (rV I B (aM L bE g) g) ?_;rintro Y H O ⟨J,Z,m,t,m',r,l,e,k⟩;erw[AY] at e;let⟨x,A,M,e⟩:=R.af e;refine⟨J,Z,m,x,A,r,l,M,fun j S N q u z=>?_⟩;split at e
 .split at e
  .ext h;cases e;cases z;exact⟨_,rfl,h.1,h.2,k _ _ _ q u DT⟩
  .cases e
 .cases e
theorem DW{a:Addr}(S:β0[n]?=some a):IS X cl (IB X.K a) (.enm (.lst n)) β0 H0:=by
 intro J m H i h M R r;let⟨t,l⟩:=wg (X:=X) (cl:=cl) (H0:=H0) S J m H i h M R r;refine⟨λ w e=>?_,λ e=>?_⟩
 .erw[Src.get] at e t;split at e
  .ext A j;cases e;let⟨⟨u,x,N,I⟩,g⟩:=t A j;refine⟨⟨u,x,N,I⟩,λ y H' z=>?_⟩;let⟨p,v,O,rfl,rfl,L⟩:=z;let⟨_,_,q⟩:=g v H ⟨rfl,L⟩;let⟨k,B⟩:=r.kM O [.int i,v];exact⟨k,B,.tup (.of aq) %[.int _,|q.mono r k]⟩
  .cases e
  .cases e
 .erw[Src.get] at e l;split at e
  .cases e
  .ext j;exact l j
  .cases e
theorem DX{a:Addr}(T:bI X.K H0 a vs)(B:aA X.K β0 H0 ws vs):IS X cl (JK X.K a) (.enm (.tup ws)) β0 H0:=by
 intro J m H i h N S r;let⟨t,l⟩:=wj (X:=X) (cl:=cl) T B J m H i h N S r;refine⟨λ w e=>?_,λ e=>?_⟩
 .erw[Src.get] at e t;split at e
  .ext A j;cases e;let⟨⟨u,x,O,L⟩,g⟩:=t A j;refine⟨⟨u,x,O,L⟩,λ y H' z=>?_⟩;let⟨p,v,R,rfl,rfl,M⟩:=z;let⟨_,_,q⟩:=g v H ⟨rfl,M⟩;let⟨k,I⟩:=r.kM R [.int i,v];exact⟨k,I,.tup (.of aq) %[.int _,|q.mono r k]⟩
  .cases e
  .cases e
 .erw[Src.get] at e l;split at e
  .cases e
  .ext j;exact l j
  .cases e
theorem Hv{a:Expr}{u:Pos}{A:List Expr}{j}(M:Gl X "enumerate")(hm:X.mg "enumerate"=none)(ha:PE X a (SE X cl (ao C d)))(g:starEach [a] X.env=[(false,eval a X.env)]):PI X (.Tuple A j u) (.Call (.Name "enumerate" p) [a] [] pos) (SI X cl (gE C (.enm d))):=by
 refine PI.imp (PI.or (yP M hm (aM ha bE g) g) (uT M hm (aM ha bE g) g)) ?_;rintro Y H U ⟨J,Z,m,O,m',r,l,e,k⟩;erw[AZ] at e;let⟨x,T,I,e⟩:=R.af e;split at e
 .ext s B;cases e;cases x with
  |tup xs=>
   refine .inr ⟨J,Z,m,_,_,r,l,I,fun q N L j h z=>?_⟩;let⟨a,vs,rfl,rfl,g,t⟩:=qS h z B;exact⟨a,rfl,⟨vs,g⟩,k _ _ _ j h (DX g t)⟩
  |fz xs=>
   refine .inl ⟨J,Z,m,_,_,r,l,I,fun q N L j h z=>?_⟩;let⟨a,vs,rfl,rfl,g,t⟩:=wk h z B;exact⟨a,rfl,⟨vs,g.l⟩,k _ _ _ j h (DS g t)⟩
  |ref n=>
   refine .inl ⟨J,Z,m,_,_,r,l,I,fun q N L j h z=>?_⟩;let⟨a,vs,rfl,rfl,S,g⟩:=qT h z B;exact⟨a,rfl,⟨vs,g⟩,k _ _ _ j h (DW S)⟩
  |_=>cases B
 .cases e
theorem RL.set{Z:Loc}(l:RL K J H Z Y)(q:RW K J H w v):RL K J H (Z.set i (some w)) (Y.set i (some v)):=by
 refine⟨by simp[l.len],λ {j g} h=>?_⟩
 by_cases e:i=j
 .subst e;have a:i<Z.length:=by have:=(Mw.mp h).1;simpa using this
  rw[Nd a] at h;cases h;exact⟨v,Nd (by rw[<-l.len];exact a),q⟩
 .rw[Na e] at h ⊢;exact l.at_ h
theorem Br{x:Str}(t:X.N.Nodup)(h:X.N[i]?=some x)(g:L2.Loc X.env.scope x)(j:X.fn x=true\/X.env.scope.names.lookup x=some .local):PG X (.Name x pos) (SG X cl (cN C (.pt (.var i)))):=by
 refine PG.imp (yl t h g j) ?_;rintro v Y H Q ⟨J,Z,m,w,a,m',r,l,q,e,k⟩;erw[cN,aG] at e;cases e;exact k _ _ _ Ext.refl r (l.set q)
theorem wm:n5 X [] (DQ X cl (cJ C .nil)):=by
 refine n5.imp ym ?_;rintro vs Y H Q ⟨J,Z,m,ws,a,m',r,l,q,e,k⟩;cases q with
 |nil=>
  erw[cJ] at e;cases e;exact⟨rfl,k _ _ _ Ext.refl r l⟩
 |cons _ _=>erw[cJ] at e;cases e
theorem qU{a:Expr}{da:A}{ds:As}(h1:PG X a (SG X cl (cN C da)))(h2:n5 X es (DQ X cl (cJ C ds)))(U:(assignEach (a::es) X.env).map (·.2)=assign a X.env::(assignEach es X.env).map (·.2)):n5 X (a::es) (DQ X cl (cJ C (.cons da ds))):=by
 refine n5.imp (uo h1 h2 U) ?_;rintro vs Y H Q ⟨J,Z,m,ws,g,m',r,l,q,e,k⟩;cases q with
 |nil=>erw[cJ] at e;cases e
 |cons O N=>
  erw[cJ] at e;let⟨x,u,e1,e⟩:=R.af e;refine⟨_,_,rfl,J,Z,m,_,x,u,r,l,O,e1,fun h H1 B j t T=>?_⟩;exact⟨h,x,u,_,g,m',t,T,N.mono r j,e,fun I H2 z L M S=>k _ _ _ (j.trans t L) M S⟩
def As.len:As->Nat
 |.nil=>0
 |.cons _ l=>l.len+1
theorem i0:∀{ds:As} {ws:List W} {Z g:Loc} {m m':Mem},cJ C ds ws Z m=.ok g m'->ws.length=ds.len
 |.nil,ws,_,_,_,_,e=>by
  cases ws with
  |nil=>rfl
  |cons _ _=>erw[cJ] at e;cases e
 |.cons a l,ws,_,_,_,_,e=>by
  cases ws with
  |nil=>erw[cJ] at e;cases e
  |cons w ws=>
   erw[cJ] at e;let⟨Z1,m1,h,e⟩:=R.af e;rw[MX,i0 e];rfl
theorem PG.or{t t':TG}(h:PG X e t)(h':PG X e t'):PG X e (λ v Y H Q=>t v Y H Q\/t' v Y H Q):=λ aa s Y H v u Q I r q=>q.elim (h aa s Y H v u Q I r) (h' aa s Y H v u Q I r)
theorem Bs{k:Nat}{ds:As}(z:X.calm=true)(h:n5 X es (DQ X cl (cJ C ds)))(x:(assignEach es X.env).length=ds.len)(j:(assignEach es X.env).findIdx? (·.1)=none):PG X (.Tuple es k pos) (SG X cl (cN C (.tup ds))):=by
 refine PG.imp (PG.or (Cr z h x j) (Df z h x j)) ?_;rintro v Y H Q ⟨J,Z,m,w,g,m',r,l,q,e,k⟩;erw[cN] at e;split at e
 .ext B A;let⟨a,vs,rfl,u,t⟩:=r.bM q A;rcases u with u | u
  .exact .inr ⟨_,_,rfl,u,by rw[<-t.length];exact i0 e,J,Z,m,_,g,m',r,l,t,e,k⟩
  .exact .inl ⟨_,_,rfl,u,by rw[<-t.length];exact i0 e,J,Z,m,_,g,m',r,l,t,e,k⟩
 .cases e
def T.pC:Ts->As
 |.nil=>.nil
 |.cons t ts=>.cons (.pt t) (T.pC ts)
theorem gk:∀(ts:Ts) (ws:List W) (Z a:Loc) (m:Mem),bU ts ws Z=some a->cJ C (T.pC ts) ws Z m=.ok a m
 |.nil,ws,Z,a,m,h=>by
  cases ws with
  |nil=>erw[bU] at h;cases h;erw[T.pC,cJ]
  |cons _ _=>erw[bU] at h;cases h
 |.cons t ts,ws,Z,a,m,h=>by
  cases ws with
  |nil=>erw[bU] at h;cases h
  |cons w ws=>
   erw[bU] at h;split at h
   .ext Z1 g;erw[T.pC,cJ,cN,g,R.bind];exact gk ts ws Z1 a m h
   .cases h
theorem DY{k:Nat}{ts:Ts}(h:PG X (.Tuple es k pos) (SG X cl (cN C (.tup (T.pC ts))))):PG X (.Tuple es k pos) (SG X cl (cN C (.pt (.tup ts)))):=by
 refine PG.imp h ?_;rintro v Y H Q ⟨J,Z,m,w,a,m',r,l,q,e,k⟩;refine⟨J,Z,m,w,a,m',r,l,q,?_,k⟩;erw[cN,aG] at e ⊢;cases w with
 |tup xs=>
  erw[bM] at e ⊢;split at e
  .ext j g;cases e;exact gk _ _ _ _ _ g
  .cases e
 |fz xs=>
  erw[bM,getL] at e ⊢;split at e
  .ext j g;cases e;exact gk _ _ _ _ _ g
  .cases e
 |_=>cases e
theorem DZ(hu:UN X cl):Cq X (λ o i v H Q=>∃J m l q g m',Rel X.K cl J m H/\RW X.K J H l o/\RW X.K J H q i/\RW X.K J H g v/\mD l q g m=.ok () m'/\∀J' H',Ext J H J' H'->Rel X.K cl J' m' H'->Q H'):=by
 intro aa s Y H o i v S T u Q I M L B h;let⟨J,m,l,q,g,m',r,O,R,N,e,k⟩:=h;unfold mD at e;split at e
 .split at e
  .ext xs z;split at e
   .ext j e2;cases e;cases R;let⟨a,vs,rfl,U,ha,t⟩:=r.lst O z;let⟨A,x⟩:=r.G6 z U (t.set N j);exact set_list aa s Y H _ _ _ S T u Q I M L B ⟨_,_,_,_,rfl,rfl,ha,by rw[<-t.length];exact e2,k _ _ A x⟩
   .cases e
  .cases e
 .cases e
theorem Hw(hu:UN X cl){i:Expr}{M di:E}(ho:PE X o (SE X cl (ao C M)))(hi:PE X i (SE X cl (ao C di)))(ha:∀v,assign (.Subscript o i pos) X.env v=(do
   let j <-holding [v] (eval o X.env)
   let B <-holding [v,j] (eval i X.env)
   standAt pos
   holding [v,j,B] (setItem j B v)
   release [v,j,B] [])):PG X (.Subscript o i pos) (SG X cl (cN C (.sub M di))):=by
 refine PG.imp (Ct ho hi (DZ hu) ha) ?_;rintro v Y H Q ⟨J,Z,m,w,N,m',r,l,q,e,k⟩;erw[cN] at e;let⟨x,L,e1,e⟩:=R.af e;let⟨y,m2,e2,e⟩:=R.af e;let⟨u,m3,e3,e⟩:=R.af e;cases e;refine⟨J,Z,m,x,L,r,l,e1,fun z H1 v1 h a U=>?_⟩;refine⟨z,Z,L,y,m2,a,l.mono r h,e2,fun t H2 v2 g A T=>?_⟩;exact⟨t,m2,x,y,w,_,A,U.mono a g,T,(q.mono r h).mono a g,e3,fun O H3 I S=>k _ _ _ ((h.trans a g).trans A I) S (((l.mono r h).mono a g).mono A I)⟩
theorem D0:dO X [] (SS X cl (aD C .nil)):=by
 refine dO.imp pZ ?_;rintro D Y H ⟨J,Z,m,f,m',r,l,e,k⟩;erw[iY,dD] at e;cases e;exact k _ _ Ext.refl r Y l
theorem zq{rest:List Stmt}{d:S}{ds:Ss}(L:PS X st (SS X cl (aT C d)))(I:dO X rest (SS X cl (aD C ds))):dO X (st::rest) (SS X cl (aD C (.cons d ds))):=by
 refine dO.imp (ug L I) ?_;rintro D Y H ⟨J,Z,m,f,m',r,l,e,k⟩;erw[iY,dD] at e;let⟨t,q,M,e⟩:=R.af e;refine⟨J,Z,m,t,q,r,l,M,fun j O g a=>?_⟩;cases t with
 |nx h=>
  intro u B;exact⟨j,h,q,f,m',a,B,e,fun x N z A=>k _ _ (g.trans a z) A⟩
 |rt w=>simp only at e;cases e;exact k _ _ g a
 |rz c w h=>simp only at e;cases e;rcases w with _ | ⟨f,w⟩<;>exact k _ _ g a
 |bk h=>simp only at e;cases e;exact k _ _ g a
 |ct h=>simp only at e;cases e;exact k _ _ g a
theorem D3{a:Expr}{da:A}(O:PE X a (SE X cl (ao C d)))(N:PG X tg (SG X cl (cN C da)))(M:swapsWithSole [tg] a pos.line X.env=pure false)(L:swappedStores [tg] a X.env=pure none)(S:(assignEach [tg] X.env).map (·.2)=[assign tg X.env]):PS X (.Assign [tg] a pos) (SS X cl (aT C (.asg da d))):=by
 refine PS.imp (oh O N M L S) ?_;rintro D Y H ⟨J,Z,m,f,m',r,l,e,k⟩;erw[dX] at e;let⟨w,t,U,e⟩:=R.af e;let⟨Z2,m2,T,e⟩:=R.af e;cases e;refine⟨J,Z,m,w,t,r,l,U,fun h H1 v1 j q B=>?_⟩;exact⟨h,Z,t,w,Z2,_,q,l.mono r j,B,T,fun u H2 g x z I=>k _ _ (j.trans q x) z g I⟩
theorem kO{x:Str}{a:Expr}(I:X.N.Nodup)(z:X.N[i]?=some x)(t:L2.Loc X.env.scope x)(B:PE X a (SE X cl (ao C d)))(u:swapsWith a @(.Name x p) pos.line X.env=pure false)(A:X.fn x=true\/X.env.scope.names.lookup x=some .local):PS X (.Assign [.Name x p] a pos) (SS X cl (aT C (.asg (.pt (.var i)) d))):=by
 refine PS.imp (Cu I z t B u A) ?_;rintro D Y H ⟨J,Z,m,f,m',r,l,e,k⟩;erw[dX] at e;let⟨w,O,L,e⟩:=R.af e;erw[cN,aG,R.bind] at e;cases e;exact⟨J,Z,m,w,_,r,l,L,fun h S M g j q=>k _ _ g j _ ((l.mono r g).set q)⟩
theorem D4{j:Nat}{x:Str}{a:Expr}{u h:Pos}{kt z}(hc:X.calm=true)(hN:X.N.Nodup)(hi:X.N[i]?=some x)(U:X.N[j]?=some y)(A:i≠j)(T:X.env.scope.names.lookup x=some .local)(S:X.env.scope.names.lookup y=some .local)
  (ha:PA X [a,b] (SA X cl (aH C %[da,|db]))) (hw:swappedStores [.Tuple [.Name x px,.Name y py] kt u] (.Tuple [a,b] z h) X.env=pure (some [x,y])) (hs:swapsWithSole [.Tuple [.Name x px,.Name y py] kt u] (.Tuple [a,b] z h) pos.line X.env=pure false) :
  PS X (.Assign [.Tuple [.Name x px,.Name y py] kt u] (.Tuple [a,b] z h) pos) (SS X cl (aT C (.asg (.pt (.tup %[.var i,|.var j])) (.tup %[da,|db])))):=by
 refine PS.imp (Cv hc hN hi U A T S ha hw hs) ?_;rintro D Y H ⟨J,Z,m,f,m',r,l,e,k⟩;erw[dX,iG] at e;let⟨w,m1,e1,e⟩:=R.af e;let⟨ws,m2,e2,B⟩:=R.af e1;split at B
 .cases B;refine⟨J,Z,m,ws,_,r,l,e2,fun L H1 v1 I M t=>?_⟩;let⟨Z2,m3,g,e⟩:=R.af e;cases e;erw[cN,aG] at g;cases t with
  |nil=>erw[bU] at g;cases g
  |cons t q=>
   cases q with
   |nil=>erw[bU,aG] at g;cases g
   |cons q O=>
    cases O with
    |nil=>
     erw[bU,aG] at g;cases g;exact⟨_,_,rfl,k _ _ I M _ (((l.mono r I).set t).set q)⟩
    |cons _ _=>erw[bU,aG] at g;cases g
 .cases B
theorem D5{x:Str}{a:Expr}{j:Operator}(L:j=.Add\/j=.Sub)(hN:X.N.Nodup)(U:X.N[i]?=some x)(T:L2.Loc X.env.scope x)(he:PE X a (SE X cl (ao C d)))(hf:X.fn x=true\/X.env.scope.names.lookup x=some .local):PS X (.AugAssign (.Name x p) j a pos) (SS X cl (aT C (.aug i j d))):=by
 rcases L with rfl | rfl
 .refine PS.imp (uq hN U T he Cw hf) ?_;rintro D Y H ⟨J,Z,m,f,m',r,l,e,k⟩;erw[jL] at e;split at e
  .ext w0 S;let⟨y,I,O,e⟩:=R.af e;let⟨z,m2,g,e⟩:=R.af e;cases e;let⟨t,M,B⟩:=l.at_ S;refine⟨t,M,J,Z,m,y,I,r,l,O,fun q H1 v1 h u A=>?_⟩;unfold qG at g;dsimp only at g;split at g
   .cases g;cases B;cases A;exact⟨_,_,rfl,rfl,k _ _ h u _ ((l.mono r h).set (.int _))⟩
   .cases g
  .cases e
 .refine PS.imp (uq hN U T he Cy hf) ?_;rintro D Y H ⟨J,Z,m,f,m',r,l,e,k⟩;erw[jL] at e;split at e
  .ext w0 S;let⟨y,I,O,e⟩:=R.af e;let⟨z,m2,g,e⟩:=R.af e;cases e;let⟨t,M,B⟩:=l.at_ S;refine⟨t,M,J,Z,m,y,I,r,l,O,fun q H1 v1 h u A=>?_⟩;unfold qG at g;dsimp only at g;split at g
   .cases g;cases B;cases A;exact⟨_,_,rfl,rfl,k _ _ h u _ ((l.mono r h).set (.int _))⟩
   .cases g
  .cases e
theorem zu{a:Expr}(t:PE X a (SE X cl (ao C d)))(q:swapsWith a none pos.line X.env=pure false):PS X (.Expr a pos) (SS X cl (aT C (.expr d))):=by
 refine PS.imp (kg t q) ?_;rintro D Y H ⟨J,Z,m,f,m',r,l,e,k⟩;erw[iT] at e;let⟨w,A,u,e⟩:=R.af e;cases e;exact⟨J,Z,m,w,_,r,l,u,fun h B x g j z=>k _ _ g j _ (l.mono r g)⟩
theorem pD{a:Expr}(t:PE X a (SE X cl (ao C d))):PS X (.Return (some a) pos) (SS X cl (aT C (.ret d))):=by
 refine PS.imp (n9 t) ?_;rintro D Y H ⟨J,Z,m,f,m',r,l,e,k⟩;erw[jM] at e;let⟨w,z,u,e⟩:=R.af e;cases e;exact⟨J,Z,m,w,_,r,l,u,fun g A x h j q=>k _ _ h j _ q⟩
theorem kP:PS X (.Return none pos) (SS X cl (aT C .retN)):=by
 refine PS.imp yk ?_;rintro D Y H ⟨J,Z,m,f,m',r,l,e,k⟩;erw[iU] at e;cases e;exact k _ _ Ext.refl r _ .non
theorem qV:PS X (.Pass pos) (SS X cl (aT C .pass)):=by
 refine PS.imp yj ?_;rintro D Y H ⟨J,Z,m,f,m',r,l,e,k⟩;erw[iW] at e;cases e;exact k _ _ Ext.refl r _ l
theorem D6:PS X (.Break pos) (SS X cl (aT C .brk)):=by
 refine PS.imp uh ?_;rintro D Y H ⟨J,Z,m,f,m',r,l,e,k⟩;erw[mY] at e;cases e;exact k _ _ Ext.refl r _ l
theorem zw:PS X (.Continue pos) (SS X cl (aT C .cont)):=by
 refine PS.imp lR ?_;rintro D Y H ⟨J,Z,m,f,m',r,l,e,k⟩;erw[iX] at e;cases e;exact k _ _ Ext.refl r _ l
theorem fL:PS X st (SS X cl (aT C .never)):=by
 refine PS.imp um ?_;rintro D Y H ⟨J,Z,m,f,m',r,l,e,k⟩;erw[fH] at e;cases e
theorem wu{t:Expr}{B:E}{a b:List Stmt}{da db:Ss}(I:PT X t (ST X cl (aR C B)))(M:dO X a (SS X cl (aD C da)))(L:dO X b (SS X cl (aD C db))):PS X (.If t a b pos) (SS X cl (aT C (.ife B da db))):=by
 refine PS.imp (Gm I M L) ?_;rintro D Y H ⟨J,Z,m,f,m',r,l,e,k⟩;erw[jN] at e;let⟨c,z,N,e⟩:=R.af e;refine⟨J,Z,m,c,z,r,l,N,fun g S h j=>?_⟩;split at e
 .ext A;rw[MO A];exact⟨g,Z,z,f,m',j,l.mono r h,e,fun q O u x=>k _ _ (h.trans j u) x⟩
 .ext A;rw[MN A];exact⟨g,Z,z,f,m',j,l.mono r h,e,fun q O u x=>k _ _ (h.trans j u) x⟩
theorem Ext.sq(r:Rel X.K cl J m H)(x:Ext J H J' H'){a:Addr}(h:bI X.K H a vs):bI X.K H' a vs:=x.IE r yd h
theorem wA{t:T}{it:E}{db:Ss}(hp:PassesOwn (model X.prog X.w) X.A X.env X.xe)(hc:X.calm=true)(hi:PI X tg iter (SI X cl (gE C it)))(hg:PG X tg (SG X cl (cN C (.pt t))))(hb:dO X body (SS X cl (aD C db)))
  (hs:∀x,foldedSetIterable iter X.env x=pure x):PS X (.For tg iter body [] pos) (SS X cl (aT C (.for_ t it db))):=by
 refine PS.imp (CC hp hc hi hg hb hs) ?_;rintro D Y H ⟨J,Z,m,f,m',r,l,e,k⟩;erw[iV] at e;let⟨q,m1,e1,e⟩:=R.af e;refine⟨J,Z,m,q,m1,r,l,e1,fun a H1 Ms L u is=>?_⟩;refine⟨λ i n Y H=>∃J Z m,Ext a H1 J H/\Rel X.K cl J m H/\RL X.K J H Z Y/\dS q.get t (fun Z m=>aD C db Z m) n i Z m=.ok f m',⟨_,a,Z,m1,Ext.refl,u,l.mono r L,e⟩,?_⟩;rintro i n Y H ⟨j,Z2,m2,I,r2,l2,g⟩;have pre:∃γ,j=a++γ:=let ⟨γ,h,_⟩:=I.pre;⟨γ,h⟩;let⟨go,M⟩:=is j m2 H i pre (λ h=>I.sq u h) (λ h=>I.fz u yd h) r2;unfold dS at g;split at g
 .cases g
 .ext e3;cases g;exact .inl ⟨M e3,k _ _ (L.trans u I) r2 _ l2⟩
 .ext w e3;let⟨g1,g2⟩:=go w e3;refine .inr ⟨g1,?_⟩;split at g
  .cases g
  .ext n';split at g
   .cases g
   .ext Z3 e4;let⟨ff,m4,e5,S⟩:=R.af g;refine⟨fun z H'=>∃J Z m,Ext a H1 J H'/\Rel X.K cl J m H'/\RL X.K J H' Z z/\dS q.get t (fun Z m=>aD C db Z m) n' (i+1) Z m=.ok f m',fun z H' h=>⟨n',NK _,h⟩,λ x H' y=>?_⟩;let⟨x3,r3,q3⟩:=g2 x H' y;refine⟨j,Z2,m2,w,Z3,m2,r3,l2.mono r2 x3,q3,by erw[cN,e4],fun β5 H5 Y5 x5 r5 l5=>?_⟩;refine⟨β5,Z3,m2,ff,m4,r5,l5,e5,fun B H6 x6 N=>?_⟩;have Hy:=((I.trans r2 x3).trans r3 x5).trans r5 x6;cases ff with
    |nx U=>exact fun Y6 O=>⟨B,U,m4,Hy,N,O,S⟩
    |ct U=>exact fun Y6 O=>⟨B,U,m4,Hy,N,O,S⟩
    |bk U=>cases S;exact fun Y6 O=>k _ _ (L.trans u Hy) N Y6 O
    |rt w6=>cases S;exact λ v6 q6=>k _ _ (L.trans u Hy) N v6 q6
    |rz c w U=>cases S;rcases w with _ | ⟨f,w⟩<;>exact k _ _ (L.trans u Hy) N
theorem nA{c:Expr}{L:E}{db:Ss}(hp:PassesOwn (model X.prog X.w) X.A X.env X.xe)(hc:PT X c (ST X cl (aR C L)))(hb:dO X body (SS X cl (aD C db))):PS X (.While c body [] pos) (SS X cl (aT C (.while_ L db))):=by
 refine PS.imp (ur hp hc hb) ?_;rintro D Y H ⟨J,Z,m,f,m',r,l,e,k⟩;erw[fG] at e;refine⟨λ n Y H'=>∃J' Z m,Ext J H J' H'/\Rel X.K cl J' m H'/\RL X.K J' H' Z Y/\dU (fun Z m=>aR C L Z m) (fun Z m=>aD C db Z m) n Z m=.ok f m',⟨_,J,Z,m,Ext.refl,r,l,e⟩,?_⟩;rintro n Y H1 ⟨N,Z1,m1,x1,B,U,I⟩;cases n with
 |zero=>erw[dU] at I;cases I
 |succ n=>
  erw[dU] at I;let⟨b,m2,e2,e3⟩:=R.af I;refine⟨N,Z1,m1,b,m2,B,U,e2,fun M H2 O S=>?_⟩;have KZ:=x1.trans B O;split at e3
  .ext a;dsimp only;rw[MO a];let⟨ff,T,e5,u⟩:=R.af e3;refine⟨fun g H'=>∃J' Z m,Ext J H J' H'/\Rel X.K cl J' m H'/\RL X.K J' H' Z g/\dU (fun Z m=>aR C L Z m) (fun Z m=>aD C db Z m) n Z m=.ok f m',fun g H' h=>⟨n,NK _,h⟩,?_⟩;refine⟨M,Z1,m2,ff,T,S,U.mono B O,e5,fun j H6 x6 q=>?_⟩;have z:=KZ.trans S x6;cases ff with
   |nx x=>exact fun Y6 t=>⟨j,x,T,z,q,t,u⟩
   |ct x=>exact fun Y6 t=>⟨j,x,T,z,q,t,u⟩
   |bk x=>cases u;exact fun Y6 t=>k _ _ z q Y6 t
   |rt w6=>cases u;exact λ v6 q6=>k _ _ z q v6 q6
   |rz c w x=>cases u;rcases w with _ | ⟨f,w⟩<;>exact k _ _ z q
  .ext a;dsimp only;rw[MN a];cases e3;exact k _ _ KZ S _ (U.mono B O)
end
def bK(prog:Program)(w:World)(A:Around)(e elt:Expr)(d:Nat)(j:Value)(env:Env)(Q:Shared->Prop):Option Comprehension->Shared->Prop
 |none,s=>wpAny (model prog w) A (eval elt env) (λ x g=>wpAny (model prog w) A (call (.builtin "list.append") [j,x]) (λ _ a=>Q a) (λ _ _=>False) g) (λ _ _=>False) s
 |some g',s=>wpAny (model prog w) A (eval g'.iter env) (λ x g=>wpAny (model prog w) A (pyIter x) (λ k a=>codeAny (model prog w) A (.compStart e (d+1) k j env) (λ r h=>match r with
   |.ok _=>Q h
   |.error _=>False) a) (λ _ _=>False) g) (λ _ _=>False) s
theorem jn(elt target iter:Expr)(gens:List Comprehension)(ifs:List Expr)(scope:Scope)(pos:Pos)(d:Nat)(it a:Value)(env:Env)(h:gens[d]?=some ⟨target,iter,ifs,0⟩)(g:gens[d+1]?=none) :
  compTurn (.ListComp elt gens scope pos) d it a env=(do
   standAt iter.pos
   match <-pyNext it with
   |none=>pure (.done .next)
   |some v=>
    letOwnedTupleGo target it v
    assign target env v
    let mut ok:=true
    for c in ifs do
     if ok then ok <-isTrue c env (eval c env)
    if ok then
     (do let _ <-call (.builtin "list.append") [a,<-eval elt env])
    again (.compLoop (.ListComp elt gens scope pos) d it a env)):=by
 unfold compTurn;erw[h,g];rfl
theorem jo(elt target iter g a:Expr)(gens:List Comprehension)(ifs k:List Expr)(scope:Scope)(pos:Pos)(d:Nat)(it j:Value)(env:Env)(h:gens[d]?=some ⟨target,iter,ifs,0⟩)(l:gens[d+1]?=some ⟨g,a,k,0⟩) :
  compTurn (.ListComp elt gens scope pos) d it j env=(do
   standAt iter.pos
   match <-pyNext it with
   |none=>pure (.done .next)
   |some v=>
    letOwnedTupleGo target it v
    assign target env v
    let mut ok:=true
    for c in ifs do
     if ok then ok <-isTrue c env (eval c env)
    if ok then
     let x <-eval a env
     standAt a.pos
     let x <-foldedSetIterable a env x
     let _ <-runOwn (.compStart (.ListComp elt gens scope pos) (d+1) (<-holding [x] (pyIter x)) j env) env
    again (.compLoop (.ListComp elt gens scope pos) d it j env)):=by
 unfold compTurn;erw[h,l];rfl
section
variable{prog:Program}{w:World}{A:Around}{R:Result->Shared->Prop}{s:Shared}
theorem kQ{d:Nat}{S:Value}(hg:gens[d]?=some ⟨target,iter,ifs,0⟩)(hn:∀g',gens[d+1]?=some g'->g'.is_async=0/\∀x,foldedSetIterable g'.iter env x=pure x)(I:Nat->Shared->Prop)
  (N:∀n s,I n s->wpAny (model prog w) A (pyNext it) (λ r t=>match r with
   |none=>R (.ok .next) t
   |some v=>wpAny (model prog w) A (letOwnedTupleGo target it v) (λ _ k=>wpAny (model prog w) A (assign target env v) (λ _ z=>
     wpAny (model prog w) A (forIn ifs true λ c r=>if r=true then do let ok <-isTrue c env (eval c env);pure (ForInStep.yield ok) else pure (ForInStep.yield r)) (λ ok q=>
      if ok=true then bK prog w A (.ListComp elt gens scope pos) elt d S env (λ u=>Exists λ m=>m<n/\I m u) gens[d+1]? q
      else Exists λ m=>m<n/\I m q) (λ _ _=>False) z) (λ _ _=>False) k) (λ _ _=>False) t) (λ _ _=>False) s)
  (n:Nat) (h:I n s) :
  codeAny (model prog w) A (.compLoop (.ListComp elt gens scope pos) d it S env) R s:=by
 refine codeAny_loop rfl I (λ n s hI=>?_) n h;show wpAny _ A ((compTurn (.ListComp elt gens scope pos) d it S env).onRaise (λ x=>do noteFrame x env;theTreesLotGoes x)) _ _ s;refine wpAny_noted ?_;cases X:gens[d+1]? with
 |none=>
  rw[jn _ _ _ _ _ _ _ _ _ _ _ hg X];refine Mu (Nh (Mu (MK (N n s hI) (λ r t j=>?_) λ _ _ g=>g.elim)));cases r with
  |none=>exact MA j
  |some v=>
   refine Mu (MK j (λ _ k l=>?_) λ _ _ g=>g.elim);refine Mu (MK l (λ _ z M=>Mu (MK M (λ ok q a=>?_) λ _ _ g=>g.elim)) λ _ _ g=>g.elim);cases ok with
   |false=>exact MA ⟨rfl,a⟩
   |true=>
    rw[X] at a;exact Mu (Mu (MK a (λ x U L=>Mu (MK L (λ _ u B=>MA (MA ⟨rfl,B⟩)) λ _ _ g=>g.elim)) λ _ _ g=>g.elim))
 |some g'=>
  let⟨T,iter',ifs',as⟩:=g';let⟨h0,hfs⟩:=hn _ X;have h0:as=0:=h0;subst h0;rw[jo _ _ _ _ _ _ _ _ _ _ _ _ _ _ hg X];refine Mu (Nh (Mu (MK (N n s hI) (λ r t j=>?_) λ _ _ g=>g.elim)));cases r with
  |none=>exact MA j
  |some v=>
   refine Mu (MK j (λ _ k l=>?_) λ _ _ g=>g.elim);refine Mu (MK l (λ _ z M=>Mu (MK M (λ ok q a=>?_) λ _ _ g=>g.elim)) λ _ _ g=>g.elim);cases ok with
   |false=>exact MA ⟨rfl,a⟩
   |true=>
    rw[X] at a;refine Mu (MK a (λ x U L=>?_) λ _ _ g=>g.elim);refine Mu (Nh (Mu (wpAny_of_eq (hfs x) (Mu (Nl (MK L (λ it' u B=>?_) λ _ _ g=>g.elim))))));refine Mu (wpAny_runOwn (NC B λ r s₆ O=>?_));cases r with
    |ok f=>exact MA ⟨rfl,O⟩
    |error e=>exact O.elim
theorem cM{d:Nat}{a:Value}(r:gens[d]?=some ⟨target,iter,ifs,0⟩)
  (q:codeAny (model prog w) A (.compLoop (.ListComp elt gens scope pos) d it a env) R s)
  (h:wpAny (model prog w) A (pyIter it) (λ g j=>codeAny (model prog w) A (.compLoop (.ListComp elt gens scope pos) d g a env) R j)
   (notedBy (model prog w) A env λ x j=>R (.error x) j) s) :
  codeAny (model prog w) A (.compStart (.ListComp elt gens scope pos) d it a env) R s:=by
 refine PK ?_;show wpAny _ _ ((compStart (.ListComp elt gens scope pos) d it a env).onRaise (λ x=>do noteFrame x env;standAt theWindowsPlace)) _ _ s;refine wpAny_notedAt ?_;unfold compStart;have k:(clausesOf (.ListComp elt gens scope pos))[d]?=some ⟨target,iter,ifs,0⟩:=r;erw[k];show wpAny _ _ (ask >>= _) _ _ s;refine Mu (wpAny_askSetting (wpAny_ite ?_));split
 .first
   |exact Mu (MA (MA (And.intro rfl q)))
   |exact MA (And.intro rfl q)
 .first
   |exact Mu (O1 (Mu (Nh (Mu (MK h (λ g j l=>MA (And.intro rfl l)) λ _ _ x=>x)))))
   |(refine Mu (O1 ?_);show wpAny _ _ (standAt iter.pos >>= _) _ _ s;exact Mu (Nh (Mu (MK h (λ g j l=>MA (And.intro rfl l)) λ _ _ x=>x))))
def nB(prog:Program)(w:World)(A:Around)(e:Expr)(d:Nat)(tg:Expr)(ifs:List Expr)(it q:Value)(env:Env)(rw:(Shared->Prop)->Shared->Prop):Prop:=
 ∀(R:Result->Shared->Prop) (s:Shared) (I:Nat->Shared->Prop),
  (∀n s,I n s->wpAny (model prog w) A (pyNext it) (λ r g=>match r with
   |none=>R (.ok .next) g
   |some v=>wpAny (model prog w) A (letOwnedTupleGo tg it v) (λ _ h=>wpAny (model prog w) A (assign tg env v) (λ _ k=>
     wpAny (model prog w) A (forIn ifs true λ c r=>if r=true then do let l <-isTrue c env (eval c env);pure (ForInStep.yield l) else pure (ForInStep.yield r)) (λ l a=>
      if l=true then rw (λ j=>Exists λ m=>m<n/\I m j) a
      else Exists λ m=>m<n/\I m a) (λ _ _=>False) k) (λ _ _=>False) h) (λ _ _=>False) g) (λ _ _=>False) s)->
  ∀n,I n s->codeAny (model prog w) A (.compLoop e d it q env) R s
theorem fh{d:Nat}{g:Value}(k:gens[d]?=some ⟨target,iter,ifs,0⟩)(j:∀g',gens[d+1]?=some g'->g'.is_async=0/\∀x,foldedSetIterable g'.iter env x=pure x) :
  nB prog w A (.ListComp elt gens scope pos) d target ifs it g env (λ Q s=>bK prog w A (.ListComp elt gens scope pos) elt d g env Q gens[d+1]? s):=
 λ _ _ I a n h=>kQ k j I a n h
end
def PB(X:L2.Cx)(rw:(Shared->Prop)->Shared->Prop)(t:L2.St->Hp->(L2.St->Hp->Prop)->Prop):Prop:=
 ∀(aa:List (Addr×Obj)) (s:Shared) (Y:L2.St) (H:Hp) (Q:L2.St->Hp->Prop),Inv X aa Y H s->t Y H Q->rw (λ g=>∃a H',Inv X aa a H' g/\Q a H') s
inductive D7(K:ae)(J:List Addr)(H:Hp):List W->List (Str×V)->Prop
 |nil:D7 K J H [] []
 |cons {k w v ws vs}:RW K J H w v->D7 K J H ws vs->D7 K J H (.tup [.str k,w]::ws) ((k,v)::vs)
def AK(b:Bool)(K:ae)(J:List Addr)(H:Hp)(Δ:Addr)(a:List W):Prop:=match b with
 |false=>∃vs,H Δ=some (.lst vs)/\aA K J H a vs
 |true=>∃gs,H Δ=some (.dK (cG [] (keyed gs)))/\D7 K J H a gs
inductive SB(b:Bool)(X:L2.Cx)(cl:Cl)(Δ:Addr)(ev:Loc->Mem->List W->R (List W×Loc))(Y:L2.St)(H:Hp)(Q:L2.St->Hp->Prop):Prop
 |mk (J:List Addr) (Z:Loc) (m:Mem) (acc acc':List W) (ρ':Loc) (m':Mem) (h1:Rel X.K cl J m H) (h2:RL X.K J H Z Y) (h3:AK b X.K J H Δ acc) (h4:Δ∉J) (h5:ev Z m acc=.ok (acc',ρ') m') (h6:∀J' H' σ',bB (some Δ) J H J' H'->Rel X.K cl J' m' H'->RL X.K J' H' ρ' σ'->AK b X.K J' H' Δ acc'->Δ∉J'->Q σ' H'):SB b X cl Δ ev Y H Q
section
variable{X:L2.Cx}{cl:Cl}{C:D.Cx}{e elt:Expr}{gens:List Comprehension}{d:Nat}{Δ:Addr}{bk:Bool}
theorem D7.bf{Δ:Option Addr}(r:Rel K cl J m H)(h:∀d,Δ=some d->gf (H d))(x:bB Δ J H J' H')(q:D7 K J H ws gs):D7 K J' H' ws gs:=by
 induction q with
 |nil=>exact .nil
 |cons a _ g=>exact .cons (a.bf r h x) g
theorem AK.acc{a:List W}(h:AK bk K J H Δ a):gf (H Δ):=by
 cases bk
 .let⟨vs,e,_⟩:=h;rw[e];trivial
 .let⟨vs,e,_⟩:=h;rw[e];trivial
theorem AK.HA{a:List W}(h:AK bk K J H Δ a):∀d,some Δ=some d->gf (H d):=λ d z=>by cases z;exact h.acc
theorem AK.zx{a:List W}(h:AK bk K J H Δ a):∀d,some Δ=some d->H d≠none:=λ d z e=>by cases z;have q:=h.acc;rw[e] at q;exact q
theorem Ext.G5(x:Ext J H J' H')(g:gf (H Δ))(h:Δ∉J):Δ∉J':=λ z=>by
 let⟨j,rfl,a⟩:=x.pre;rcases M7.mp z with z | z
 .exact h z
 .rw[a _ z] at g;exact g
theorem AK.mono{a:List W}(h:AK bk K J H Δ a)(r:Rel K cl J m H)(x:Ext J H J' H')(g:Δ∉J):AK bk K J' H' Δ a/\Δ∉J':=by
 refine⟨?_,x.G5 h.acc g⟩;cases bk
 .let⟨vs,e,q⟩:=h;exact⟨vs,x.keep e g 's',q.mono r x⟩
 .let⟨vs,e,q⟩:=h;exact⟨vs,x.keep e g 's',q.bf r yd x⟩
theorem D8{de:E}(T:X.xe=λ _ _=>False)(hn:gens[d+1]?=none)(he:PE X elt (SE X cl (ao C de))):PB X (λ Q s=>bK X.prog X.w X.A e elt d (.ref Δ) X.env Q gens[d+1]? s) (SB false X cl Δ (f9 C (.elt de))):=by
 intro aa s Y H Q I h;let⟨J,Z,m,acc,acc',ρ',m',r,l,ak,nd,x,k⟩:=h;erw[jK] at x;let⟨w,m1,e1,x⟩:=R.af x;split at x
 .ext hl;cases x;show bK X.prog X.w X.A e elt d (.ref Δ) X.env _ gens[d+1]? s;rw[hn];have U:=he aa s Y H (λ v t=>∃a,Ext J H a t/\Rel X.K cl a m' t/\RW X.K a t w v) I ⟨J,Z,m,w,m',r,l,e1,fun a t v1 B j O=>⟨a,B,j,O⟩⟩;rw[T] at U;refine MK U (λ u s1 ⟨v,t,I1,rv,a,B,j,O⟩=>?_) λ _ _ z=>z;let⟨g,L⟩:=ak.mono r B nd;let⟨vs,S,q⟩:=id g;have M:vs.length<sizeLine:=MG (by rw[<-q.length];exact hl) bu;have ap:=jC (X:=X) aa s1 Y t (.ref Δ) [v] (.ref Δ) [u] (λ _ H'=>H'=upd t Δ (.lst (vs++[v]))) I1 rfl %[|rv] ⟨_,vs,v,rfl,rfl,S,M,rfl⟩;rw[T] at ap;refine MK ap (λ _ s2 ⟨_,H2,I2,_,e2⟩=>?_) λ _ _ z=>z;subst e2;let⟨N,r2⟩:=j.JS (u':=.lst (vs++[v])) g.acc L;refine⟨Y,_,I2,k a _ Y (B.toD.trans j N g.zx) r2 ((l.mono r B).bf j g.HA N) ⟨_,aq,?_⟩ L⟩;exact(q.bf j g.HA N).append %[|O.bf j g.HA N]
 .cases x
theorem nE{rw:(Shared->Prop)->Shared->Prop}{t:T}{Ms:It}{fp:List Addr}{it:Addr}{tn:Nat->Heap->Prop}{U:Src}
  (hx:X.xe=λ _ _=>False) (hc:X.calm=true) (hlr:nB X.prog X.w X.A e d tg ifs (.ref it) (.ref Δ) X.env rw) (hmo:∀{Q Q':Shared->Prop} {s:Shared},(∀s,Q s->Q' s)->rw Q s->rw Q' s)
  (Tu:Turn X.prog X.w X.K tg Ms fp it tn) (is:IS X cl Ms U β0 H0) (pg:PG X tg (SG X cl (cN C (.pt t)))) (tZ:iz X ifs (ST X cl (aX C di))) (pb:PB X rw (SB bk X cl Δ (f9 C rest)))
 {Z O:Loc} {k M:List W} (I:Inv X aa Y H s) (st:tn 0 s.heap) (zy:∀b∈fp,fT X aa H b)
  (hpre:∃γ,J=β0++γ) (htup:∀{a:Addr} {vs:List V},bI X.K H0 a vs->bI X.K H a vs) (Lx:∀{a:Addr} {o:Obj} {u:HO},H0 a=some (.frz o u)->H a=@(.frz o u)) (r:Rel X.K cl J m H) (l:RL X.K J H Z Y) (ak:AK bk X.K J H Δ k) (nd:Δ∉J)
  (ev:bC U.get t (fun Z m=>aX C di Z m) (fun Z m k=>f9 C rest Z m k) n 0 Z m k=.ok (M,O) m') {Rr:Result->Shared->Prop}
  (fin:∀s' g H' J',Inv X aa g H' s'->bB (some Δ) J H J' H'->Rel X.K cl J' m' H'->RL X.K J' H' O g->AK bk X.K J' H' Δ M->Δ∉J'->Rr (.ok .next) s') :
  codeAny (model X.prog X.w) X.A (.compLoop e d (.ref it) (.ref Δ) X.env) Rr s:=by
 have S:∀{H':Hp},(∀b∈fp,H' b=none)->∀b∈fp,fT X aa H' b:=λ hn b hb=>⟨hn b hb,(zy b hb).2⟩;refine hlr _ _ (λ n s'=>∃i g H' J' Z1 m1 j,Inv X aa g H' s'/\tn i s'.heap/\(∀b∈fp,H' b=none)/\bB (some Δ) J H J' H'/\Rel X.K cl J' m1 H'/\RL X.K J' H' Z1 g/\AK bk X.K J' H' Δ j/\Δ∉J'/\
  bC U.get t (fun Z m=>aX C di Z m) (fun Z m k=>f9 C rest Z m k) n i Z1 m1 j=.ok (M,O) m') ?_ n ⟨0,Y,H,J,Z,m,k,I,st,λ b hb=>(zy b hb).1,Ext.refl,r,l,ak,nd,ev⟩
 rintro n s1 ⟨i,σ1,H1,N,Z1,m1,j,I1,st1,fr1,x1,r1,l1,ak1,nd1,e1⟩;have JW:∃γ,N=β0++γ:=by
  let⟨γ,h1,_⟩:=x1.pre;let⟨δ,h2⟩:=hpre;exact⟨δ++γ,by rw[h1,h2,NN]⟩
 let⟨go,stop⟩:=is N m1 H1 i JW (λ h=>x1.IE r ak.HA (htup h)) (λ h=>x1.fz r ak.HA (Lx h)) r1;unfold bC at e1;split at e1
 .cases e1
 .ext e2;cases e1;refine MK (Tu.done X rfl rfl rfl hc i aa s1 σ1 H1 (λ _ _=>False) I1 (S fr1) st1 (stop e2)) (λ rr s2 ⟨hr,I2⟩=>?_) λ _ _ z=>z;subst hr;exact fin s2 σ1 H1 N I2 x1 r1 l1 ak1 nd1
 .ext w e2;let⟨g1,g2⟩:=go w e2;split at e1
  .cases e1
  .ext n';split at e1
   .cases e1
   .ext Z2 e3;let⟨b,m3,e4,e5⟩:=R.af e1;refine MK (Tu.item X rfl rfl rfl hc i aa s1 σ1 H1 (λ _ _=>False) I1 (S fr1) st1 g1) (λ rr s2 ⟨u,hr,h2⟩=>?_) λ _ _ z=>z;subst hr;refine MK h2 (λ _ s3 ⟨x,H3,I3,r3,y3,st3,fr3⟩=>?_) λ _ _ z=>z;let⟨x3,rr3,q3⟩:=g2 x H3 y3;let⟨ak3,nd3⟩:=ak1.mono r1 x3 nd1;have Ly:=I3.pinned (S fr3) (Tu.obj _ _ st3);have l3:=l1.mono r1 x3;have K0:=pg _ s3 σ1 H3 x u (fun Y4 H4=>∃L,Ext N H3 L H4/\Rel X.K cl L m1 H4/\RL X.K L H4 Z2 Y4) Ly r3 ⟨N,Z1,m1,w,Z2,m1,rr3,l3,q3,by erw[cN,e3],fun L H4 Y4 x4 r4 l4=>⟨L,x4,r4,l4⟩⟩;rw[hx] at K0;refine MK K0 (λ _ s4 ⟨Y4,H4,I4,L,x4,r4,l4⟩=>?_) λ _ _ z=>z;let⟨ak4,nd4⟩:=ak3.mono rr3 x4 nd3;have K1:=tZ _ s4 Y4 H4 (λ bb H5=>bb=b/\∃q,Ext L H4 q H5/\Rel X.K cl q m3 H5) I4 ⟨L,Z2,m1,b,m3,r4,l4,e4,fun q H5 x5 r5=>⟨rfl,q,x5,r5⟩⟩;rw[hx] at K1;refine MK K1 (λ bb s5 ⟨H5,I5,hb,q,x5,r5⟩=>?_) λ _ _ z=>z;subst hb;let⟨ak5,nd5⟩:=ak4.mono r4 x5 nd4;have l5:=l4.mono r4 x5;have Lz:Ext N H1 q H5:=(x3.trans rr3 x4).trans r4 x5;have K2:bB (some Δ) J H q H5:=x1.trans r1 Lz.toD ak1.zx;have again:∀{g:L2.St} {H':Hp} {s':Shared} {J':List Addr} {Z4:Loc} {m4:Mem} {zA:List W},Inv X (aa++ic fp s3.heap) g H' s'->bB (some Δ) J H J' H'->Rel X.K cl J' m4 H'->RL X.K J' H' Z4 g->AK bk X.K J' H' Δ zA->Δ∉J'->
      bC U.get t (fun Z m=>aX C di Z m) (fun Z m k=>f9 C rest Z m k) n' (i+1) Z4 m4 zA=.ok (M,O) m'->
      Exists λ mm=>mm<n'+1/\∃i g H' J' Z1 m1 j,Inv X aa g H' s'/\tn i s'.heap/\(∀b∈fp,H' b=none)/\bB (some Δ) J H J' H'/\Rel X.K cl J' m1 H'/\RL X.K J' H' Z1 g/\AK bk X.K J' H' Δ j/\Δ∉J'/\
       bC U.get t (fun Z m=>aX C di Z m) (fun Z m k=>f9 C rest Z m k) mm i Z1 m1 j=.ok (M,O) m':=λ {g H' s' J' Z4 m4 zA} I' x' r' l' ak' nd' e'=>by
     refine⟨n',NK _,i+1,g,H',J',Z4,m4,zA,I'.fu,Tu.keep _ _ _ st3 λ b hb o eo=>(I'.pin (b,o) (Nb _ (Nb _ (dj hb eo)))).1,λ b hb=>?_,x',r',l',ak',nd',e'⟩;let⟨o,eo,_⟩:=Tu.obj _ _ st3 b hb;exact(I'.pin (b,o) (Nb _ (Nb _ (dj hb eo)))).2.1
    cases bb with
    |false=>exact again I5 K2 r5 l5 ak5 nd5 e5
    |true=>
     erw[ND] at e5 ⊢;let⟨p,m6,e6,e7⟩:=R.af e5;let⟨acc6,Z6⟩:=p;have LA:=pb _ s5 Y4 H5 (fun Y6 H6=>∃B,bB (some Δ) q H5 B H6/\Rel X.K cl B m6 H6/\RL X.K B H6 Z6 Y6/\AK bk X.K B H6 Δ acc6/\Δ∉B) I5 ⟨q,Z2,m3,j,acc6,Z6,m6,r5,l5,ak5,nd5,e6,fun B H6 Y6 x6 r6 l6 ak6 nd6=>⟨B,x6,r6,l6,ak6,nd6⟩⟩;refine hmo (λ s6 ⟨Y6,H6,I6,B,x6,r6,l6,ak6,nd6⟩=>?_) LA;exact again I6 (K2.trans r5 x6 ak5.zx) r6 l6 ak6 nd6 e7
theorem d9{w:World}{A:Around}{Q Q':Shared->Prop}{o:Option Comprehension}(j:∀s,Q s->Q' s)(h:bK P w A e elt d (.ref Δ) env Q o s):bK P w A e elt d (.ref Δ) env Q' o s:=by
 cases o with
 |none=>exact MK h (λ _ _ h=>MK h (λ _ s z=>j s z) λ _ _ z=>z) λ _ _ z=>z
 |some g=>exact MK h (λ _ _ h=>MK h (λ _ s z=>NC z λ k l a=>by
   cases k with
   |ok f=>exact j _ a
   |error e=>exact a) λ _ _ z=>z) λ _ _ z=>z
theorem HB{t:T}{lN:E}(hx:X.xe=λ _ _=>False)(hc:X.calm=true)(hg:gens[d+1]?=some ⟨tg,iter,ifs,0⟩)(hn:∀g',gens[d+1+1]?=some g'->g'.is_async=0/\∀x,foldedSetIterable g'.iter X.env x=pure x)
  (hi:PI X tg iter (SI X cl (gE C lN))) (pg:PG X tg (SG X cl (cN C (.pt t)))) (tZ:iz X ifs (ST X cl (aX C di))) (pb:PB X (λ Q s=>bK X.prog X.w X.A (.ListComp elt gens scope pos) elt (d+1) (.ref Δ) X.env Q gens[d+1+1]? s) (SB false X cl Δ (f9 C rest))) :
  PB X (λ Q s=>bK X.prog X.w X.A (.ListComp elt gens scope pos) elt d (.ref Δ) X.env Q gens[d+1]? s) (SB false X cl Δ (f9 C (.gen t [] lN di rest))):=by
 intro aa s Y H Q I h;let⟨J,Z,m,acc,acc',ρ',m',r,l,ak,nd,O,k⟩:=h;erw[jK,fW] at O;let⟨B,m1,e1,O⟩:=R.af O;show bK X.prog X.w X.A (.ListComp elt gens scope pos) elt d (.ref Δ) X.env _ gens[d+1]? s;rw[hg];have go:=hi aa s Y H (λ Ms M=>∃a,Ext J H a M/\Rel X.K cl a m1 M/\IS X cl Ms B a M) I ⟨J,Z,m,B,m1,r,l,e1,fun a M Ms q N is=>⟨a,q,N,is⟩⟩;rw[hx] at go;refine MK go (λ v s1 h1=>MK h1 (λ itv s2 h2=>?_) λ _ _ z=>z) λ _ _ z=>z;let⟨it,fp,tn,Ms,M,e2,I1,Tu,st,zy,a,q,N,is⟩:=h2;subst e2;let⟨L,S⟩:=ak.mono r q nd;have j:codeAny (model X.prog X.w) X.A (.compLoop (.ListComp elt gens scope pos) (d+1) (.ref it) (.ref Δ) X.env) (λ rr u=>match rr with
   |.ok _=>∃g H',Inv X aa g H' u/\Q g H'
   |.error _=>False) s2:=
  nE hx hc (fh hg hn) d9 Tu is pg tZ pb I1 st zy ⟨[],by simp⟩ (λ h=>h) (λ h=>h) N (l.mono r q) L S O λ s' g H' J' I' x' r' l' ak' U=>⟨g,H',I',k J' H' g (q.toD.trans N x' L.zx) r' l' ak' U⟩
 exact cM hg j (Tu.self _ 0 _ _ _ st j)
theorem RL.fW:∀{js:List Nat} {Z:Loc} {Y:L2.St},RL K J H Z Y->RL K J H (D.fW js Z) (L2.fW js Y)
 | [],_,_,l=>l
 |j::js,Z,Y,l=>by
  refine RL.fW (js:=js) ⟨by simp[l.len],λ {i w} h=>?_⟩
  by_cases e:j=i
  .subst e;rw[Qn] at h;rw[MO rfl] at h;split at h<;>cases h
  .rw[Na e] at h ⊢;exact l.at_ h
def accN:Bool->Sem Value
 |false=>newList []
 |true=>newDict
def zB:Bool->Obj
 |false=>{cls:=.type "list",dict:=none,data:=.seq ([]:List Value).toArray}
 |true=>{cls:=.type "dict",dict:=none,data:=.dict #[]}
def kR:Bool->HO
 |false=>.lst []
 |true=>.dK []
theorem wB{A:Around}{Q:Value->Shared->Prop}{E:Value->Shared->Prop}(h:Q (.ref s⁻¹) {s with heap:=s.heap.push (zB bk)}):wpAny (model X.prog X.w) A (accN bk) Q E s:=by
 cases bk<;>exact Np h
theorem zC(I:Inv X aa Y H s):Inv X aa Y (upd H s⁻¹ (kR bk)) {s with heap:=s.heap.push (zB bk)}:=by
 cases bk
 .exact I.GH (its:=[]) (t':=s.toks) .nil (Pc _)
 .exact I.laid (a:=s⁻¹) (o:=.dK []) (h':=s.heap.push {cls:=.type "dict",data:=.dict #[]}) (t':=s.toks) (λ _ _ q=>Mv _ q) (MB _) (mj s.heap I.big)
theorem AK.zero(h:H Δ=@(kR bk)):AK bk K J H Δ []:=by
 cases bk
 .exact⟨[],h,.nil⟩
 .exact⟨[],h,.nil⟩
def pG(prog:Program)(w:World)(A:Around)(e:Expr):Prop:=∀(R:Result->Shared->Prop) (s:Shared) (it a:Value) (env:Env),codeAny (model prog w) A (.compLoop e 0 it a env) R s->
 wpAny (model prog w) A (pyIter it) (λ h g=>codeAny (model prog w) A (.compLoop e 0 h a env) R g) (notedBy (model prog w) A env λ x g=>R (.error x) g) s->codeAny (model prog w) A (.compStart e 0 it a env) R s
theorem nF{ev:Loc->Mem->R W}{js:List Nat}{gs:List Comprehension}{t:T}{lN:E}{rw:Env->Addr->(Shared->Prop)->Shared->Prop}(hc:X.calm=true)(ok:dw X.N js scope X.env.scope)(hcl:clausesOf e=⟨tg,iter,ifs,0⟩::gs)(hst:pG X.prog X.w X.A e)
  (hlr:∀it Δ env,nB X.prog X.w X.A e 0 tg ifs (.ref it) (.ref Δ) env (rw env Δ)) (hmo:∀{Δ:Addr} {env:Env} {Q Q':Shared->Prop} {s:Shared},(∀s,Q s->Q' s)->rw env Δ Q s->rw env Δ Q' s)
  (hev:∀{Z:Loc} {m:Mem} {w:W} {m':Mem},ev Z m=.ok w m'->∃acc Z9 m9 o,f9 C (.gen t js lN di rest) Z m []=.ok (acc,Z9) m9/\w=.ref m9.length/\m'=m9++[o]/\∀{J:List Addr} {H:Hp} {Δ:Addr},AK bk X.K J H Δ acc->RO X.K cl J H Δ o)
  (hi:PI X tg iter (SI X cl (gE C lN))) (pg:∀L g H₀ M pn,PG (X.comp scope L g H₀ M pn) tg (SG (X.comp scope L g H₀ M pn) cl (cN C (.pt t)))) (tZ:∀L g H₀ M pn,iz (X.comp scope L g H₀ M pn) ifs (ST (X.comp scope L g H₀ M pn) cl (aX C di)))
  (pb:∀L g H₀ M pn Δ,PB (X.comp scope L g H₀ M pn) (rw (X.comp scope L g H₀ M pn).env Δ) (SB bk (X.comp scope L g H₀ M pn) cl Δ (f9 C rest)))
  (hs:∀x,foldedSetIterable iter X.env x=pure x) (I:Inv X aa Y H s) (h:SE X cl ev Y H Q) {use:Option (Value->Sem Unit)} {Q':Value->Shared->Prop}
  (fin:∀(D Cf:Addr) (s':Shared) (H':Hp),(∀h',(∀b o,b≠Cf->s'.heap.get? b=some o->h'.get? b=some o)->Inv X aa Y H' {s' with heap:=h'})->Q (.ref D) H'->(∃m,s'.heap.Ns Cf m)->H' Cf=none->Cf≠X.env.locals->X.s₀⁻¹<=Cf->(∀x c,X.env.cells.lookup x=some c->c≠Cf)->(∀p∈X.pn++aa,p.1≠Cf)->
   compPost (model X.prog X.w) X.A X.xe use Q' (.ref D) Cf (.ok .next) s') :
  wpAny (model X.prog X.w) X.A (comprehension e scope X.env p (accN bk) false (eval iter X.env) use) Q' X.xe s:=by
 let⟨J,Z,m,w,m',r,l,ew,k⟩:=h;let⟨ws,Z9,m9,ob,e8,rfl,rfl,hob⟩:=hev ew;clear ew;erw[jK] at e8;let⟨src,m1,e1,e9⟩:=R.af e8;clear e8;have hclos:closureFor scope X.env=pure (bJ X.env scope.names []):=jj λ y hy hk=>I.ok.has y.1 (ok.free y hy hk);refine wpAny_comprehension_free hcl hs hclos ok.kind ok.loc (aJ (hi aa s Y H (λ Ms H1=>∃U,Ext J H U H1/\Rel X.K cl U m1 H1/\IS X cl Ms src U H1) I ⟨J,Z,m,src,m1,r,l,e1,fun U H1 Ms x1 r1 is=>⟨U,x1,r1,is⟩⟩) λ v s1 h1=>aJ h1 λ itv B h2=>?_);let⟨it,M,tn,Ms,H2,e2,I2,Tu,st2,f2,S,x2,r2,is⟩:=h2;subst e2;have IG:H2 B⁻¹=none:=I2.fresh;refine wB ?_;have I3:Inv X aa Y (upd H2 B⁻¹ (kR bk)) {B with heap:=B.heap.push (zB bk)}:=zC I2;generalize hs3:({B with heap:=B.heap.push (zB bk)}:Shared)=s3 at I3 ⊢;have HC:∀b o,B.heap.get? b=some o->s3.heap.get? b=some o:=λ b o e=>by rw[<-hs3];exact Mv _ e
 have zD:∀b∈M,b<B⁻¹:=λ b j=>by
  let⟨o,e,_⟩:=Tu.obj _ _ st2 b j;exact Mx e
 have D9:s3⁻¹=B⁻¹+1:=by rw[<-hs3];exact Ng _ _
 have f3:∀b∈M,fT X aa (upd H2 B⁻¹ (kR bk)) b:=λ b j=>⟨by rw[ai (MD (zD b j))];exact(f2 b j).1,(f2 b j).2⟩;refine I3.enter ok f3 (λ b j=>by rw[D9];exact NG (zD b j)) λ O h₁ old F I4=>?_;have K3:tn 0 h₁:=Tu.keep _ _ _ st2 λ b j o e=>old _ _ (HC _ _ e);have stat:∀{H':Hp},(∀b∈M,H' b=none)->∀b∈M,fT (X.comp scope O s3 (upd H2 B⁻¹ (kR bk)) M aa) [] H' b:=λ {H'} hn b j=>by
  refine⟨hn b j,?_,λ z=>?_,.inl j,λ x c e=>?_,λ p hp=>?_⟩
  .show b≠s3⁻¹;exact MD (by rw[D9];exact NG (zD b j))
  .rcases MJ.mp (I3.fS b z) with q | q
   .exact(f2 b j).2.1 q
   .exact(f2 b j).2.2.1 q
  .rcases F.old x c e with e | e
   .exact(f2 b j).2.2.2.2.1 x c e
   .exact NB (Qm (by rw[D9];exact NG (zD b j)) e)
  .exact(f2 b j).2.2.2.2.2 p (~~~hp)
 have x3:Ext S H2 S (upd H2 B⁻¹ (kR bk)):=⟨⟨[],by simp,by simp⟩,λ h _ _=>by rw[ai (au h IG)];exact h⟩;have r3:Rel X.K cl S m1 (upd H2 B⁻¹ (kR bk)):=⟨r2.len,r2.nd,λ h1 h2=>by
  have q:=r2.obj h1 h2;let⟨u,e,_⟩:=q.ex;exact q.mono r2 x3 (ai (au e IG))⟩
 have l3:RL X.K S (upd H2 B⁻¹ (kR bk)) (D.fW js Z) (L2.fW js Y):=((l.mono r x2).mono r2 x3).fW;have nD:B⁻¹∉S:=r2.G5 IG;have hD:H B⁻¹=none:=by
  cases z:H B⁻¹ with
  |none=>rfl
  |some o=>
   by_cases j:B⁻¹∈J
   .let⟨γ,hγ,_⟩:=x2.pre;exact absurd (by rw[hγ];exact NO _ j) nD
   .have:=x2.keep z j 's';rw[IG] at this;cases this
 have loop:∀s₄:Shared,s₄={s3 with heap:=h₁}->
   codeAny (model X.prog X.w) X.A (.compLoop e 0 (.ref it) (.ref B⁻¹) (compEnvC scope O s3⁻¹ X.env))
    (compPost (model X.prog X.w) X.A X.xe use Q' (.ref B⁻¹) s3⁻¹) s₄:=by
  intro s₄ e₄;subst e₄;refine nE (X:=X.comp scope O s3 (upd H2 B⁻¹ (kR bk)) M aa) (cl:=cl) (C:=C) (Δ:=B⁻¹) rfl hc (hlr _ _ _) hmo Tu is (pg _ _ _ _ _) (tZ _ _ _ _ _) (pb _ _ _ _ _ _)
   I4 K3 (stat λ b j=>(f3 b j).1) ⟨[],by simp⟩ (λ h=>x3.IE r2 yd h) (λ h=>x3.fz r2 yd h) r3 l3 (AK.zero aq) nD e9 ?_
  intro s' σ' H' J' I' x' r' l' ak' nd';let⟨m6,hm6,_⟩:=id I'.loc;have JX:=r'.out nd' (hob ak');have JY:Ext J H (J'++[B⁻¹]) H':=by
   let⟨γ,hγ,fγ⟩:=x2.pre;let⟨δ,hδ,fδ⟩:=x'.pre;refine⟨⟨γ++δ++[B⁻¹],by rw[hδ,hγ];simp,λ a ha=>?_⟩,λ {a o} h j _=>?_⟩
   .rcases M7.mp ha with ha | ha
    .rcases M7.mp ha with ha | ha
     .exact fγ a ha
     .have z3:=fδ a ha;have na:a≠B⁻¹:=by
       rintro rfl;rw[aq] at z3;cases z3
      rw[ai na] at z3;cases z:H a with
      |none=>rfl
      |some o=>
       by_cases j:a∈J
       .let⟨u,eu,_⟩:=r2.ex (a:=a) (by rw[hγ];exact NO _ j);rw[z3] at eu;cases eu
       .have:=x2.keep z j 's';rw[z3] at this;cases this
    .simp at ha;rw[ha];exact hD
   .have h2:=x2.keep h j 's';have na:a≠B⁻¹:=au h hD;have nb:a∉S:=λ z=>by
     rw[hγ] at z;rcases M7.mp z with z | z
     .exact j z
     .rw[fγ a z] at h;cases h
    exact x'.keep (by rw[ai na];exact h2) nb (~~~na)
  have JZ:Q (.ref B⁻¹) H':=k _ _ _ JY JX (.ref (r'.last _));refine fin _ _ s' H' (λ h' hk=>I3.C6 f3 I' hk) JZ ⟨m6,hm6⟩ I'.free (NB (MG I3.lt (MB _))) I3.sz (λ x c e=>?_) (λ p hp=>MD (Mx (I3.pin p hp).1));let⟨v,o,q,_⟩:=I3.cell x c e;exact MD (Mx q)
 exact hst _ _ _ _ _ (loop _ rfl) (Tu.self _ 0 _ _ _ K3 (loop _ rfl))
theorem wC{k:Key}{a:List (Key×V)}(h:∀p∈a,p.1≠k):putK a k v=a++[(k,v)]:=by
 unfold putK;rw[MN];intro z;let⟨p,g,e⟩:=List.any_eq_true.mp z;exact h p g (Oh e)
theorem tF:∀{a g:List (Key×V)},(a.map (·.1)).Nodup->(∀p∈g,∀q∈a,p.1≠q.1)->cG g a=g++a:=by
 intro a
 induction a with
 |nil=>intro g _ _;simp[cG]
 |cons q r t=>
  intro g j l;rw[Nj,nodup_cons] at j;have e:cG g (q::r)=cG (putK g q.1 q.2) r:=rfl;rw[e,wC λ p h=>l p h q Nc,t j.2 λ p h x k=>?_,NN]
  .rfl
  .rcases M7.mp h with h | h
   .exact l p h x (MP _ k)
   .rw[Nz] at h;subst h;intro z;exact j.1 (Om.mpr ⟨x,k,z.symm⟩)
theorem nG{g:List (Str×V)}(h:(g.map (·.1)).Nodup):((keyed g).map (·.1)).Nodup:=by
 have e:(keyed g).map (·.1)=(g.map (·.1)).map (Sum.inr:Str->Key):=by simp[keyed,Function.comp_def]
 rw[e];generalize g.map (·.1)=l at h
 induction l with
 |nil=>exact nodup_nil
 |cons a r j=>
  rw[nodup_cons] at h;rw[Nj,nodup_cons];refine⟨λ z=>?_,j h.2⟩;let⟨b,k,e⟩:=Om.mp z;cases e;exact h.1 k
variable{scope:Scope}{pos:Pos}{js:List Nat}{tg iter:Expr}{ifs:List Expr}{t:T}{lN:E}{di:Es}{rest:G}
theorem qW{Z:Loc}(h:ao C (.comp (.gen t js lN di rest)) Z m=.ok w m'):∃g j a o,f9 C (.gen t js lN di rest) Z m []=.ok (g,j) a/\w=.ref a.length/\m'=a++[o]/\∀{J:List Addr} {H:Hp} {Δ:Addr},AK false X.K J H Δ g->RO X.K cl J H Δ o:=by
 erw[iS] at h;let⟨⟨ws,j⟩,a,l,k⟩:=R.af h;cases k;exact⟨ws,j,a,.lst ws,l,rfl,rfl,λ h=>h⟩
section
variable{ev:Loc->Mem->R W}{gs:List Comprehension}{rw:Env->Addr->(Shared->Prop)->Shared->Prop}
theorem zE(hc:X.calm=true)(ok:dw X.N js scope X.env.scope)(O:clausesOf e=⟨tg,iter,ifs,0⟩::gs)(r:pG X.prog X.w X.A e)
  (L:∀it Δ env,nB X.prog X.w X.A e 0 tg ifs (.ref it) (.ref Δ) env (rw env Δ)) (z:∀{Δ:Addr} {env:Env} {Q Q':Shared->Prop} {s:Shared},(∀s,Q s->Q' s)->rw env Δ Q s->rw env Δ Q' s)
  (M:∀{Z:Loc} {m:Mem} {w:W} {m':Mem},ev Z m=.ok w m'->∃k Z9 l o,f9 C (.gen t js lN di rest) Z m []=.ok (k,Z9) l/\w=.ref l.length/\m'=l++[o]/\∀{J:List Addr} {H:Hp} {Δ:Addr},AK bk X.K J H Δ k->RO X.K cl J H Δ o)
  (hi:PI X tg iter (SI X cl (gE C lN))) (U:∀g a H₀ j pn,PG (X.comp scope g a H₀ j pn) tg (SG (X.comp scope g a H₀ j pn) cl (cN C (.pt t)))) (S:∀g a H₀ j pn,iz (X.comp scope g a H₀ j pn) ifs (ST (X.comp scope g a H₀ j pn) cl (aX C di)))
  (pb:∀g a H₀ j pn Δ,PB (X.comp scope g a H₀ j pn) (rw (X.comp scope g a H₀ j pn).env Δ) (SB bk (X.comp scope g a H₀ j pn) cl Δ (f9 C rest)))
  (hs:∀x,foldedSetIterable iter X.env x=pure x) (J0:eval e X.env=comprehension e scope X.env pp (accN bk) false (eval iter X.env) none):PE X e (SE X cl ev):=by
 intro aa s Y H Q I h;rw[J0];refine nF hc ok O r L z M hi U S pb hs I h ?_;intro D Cf s' H' hI q B hn h1 h2 h3 h4;let⟨m,B⟩:=B;exact⟨m,B,λ h' u=>⟨.ref D,H',hI h' λ b o hb e=>u.extBut b o hb e,rfl,q⟩⟩
theorem zF{de:E}(hN:X.N.Nodup)(hy:X.N[i]?=some y)(hx:L2.Loc X.env.scope y)(hc:X.calm=true)(ok:dw X.N js scope X.env.scope)(hcl:clausesOf e=⟨tg,iter,ifs,0⟩::gs)(U:pG X.prog X.w X.A e)
  (hlr:∀it Δ env,nB X.prog X.w X.A e 0 tg ifs (.ref it) (.ref Δ) env (rw env Δ)) (hmo:∀{Δ:Addr} {env:Env} {Q Q':Shared->Prop} {s:Shared},(∀s,Q s->Q' s)->rw env Δ Q s->rw env Δ Q' s)
  (hev:∀{Z:Loc} {m:Mem} {w:W} {m':Mem},ao C de Z m=.ok w m'->∃M Z9 O o,f9 C (.gen t js lN di rest) Z m []=.ok (M,Z9) O/\w=.ref O.length/\m'=O++[o]/\∀{J:List Addr} {H:Hp} {Δ:Addr},AK bk X.K J H Δ M->RO X.K cl J H Δ o)
  (hi:PI X tg iter (SI X cl (gE C lN))) (pg:∀j g H₀ z pn,PG (X.comp scope j g H₀ z pn) tg (SG (X.comp scope j g H₀ z pn) cl (cN C (.pt t)))) (tZ:∀j g H₀ z pn,iz (X.comp scope j g H₀ z pn) ifs (ST (X.comp scope j g H₀ z pn) cl (aX C di)))
  (pb:∀j g H₀ z pn Δ,PB (X.comp scope j g H₀ z pn) (rw (X.comp scope j g H₀ z pn).env Δ) (SB bk (X.comp scope j g H₀ z pn) cl Δ (f9 C rest)))
  (hs:∀x,foldedSetIterable iter X.env x=pure x) (S:swapsWith e @(.Name y py) spos.line X.env=pure true) (hf:X.fn y=true\/X.env.scope.names.lookup y=some .local)
 (LB:evalThenUse e X.env (assign (.Name y py) X.env)=(do let _ <-comprehension e scope X.env pp (accN bk) false (eval iter X.env) @(assign (.Name y py) X.env))) :
  PS X (.Assign [.Name y py] e spos) (SS X cl (aT C (.asg (.pt (.var i)) de))):=by
 intro aa s Y H D I h;let⟨J,Z,m,f,m',r,l,L,k⟩:=h;erw[dX] at L;let⟨w,m1,e1,L⟩:=R.af L;erw[cN,aG,R.bind] at L;cases L;have h:SE X cl (ao C de) Y H (λ v H'=>D.nx (Y.set i (some v)) H'):=⟨J,Z,m,w,_,r,l,e1,fun β1 H1 v1 x1 r1 q1=>k _ _ x1 r1 _ ((l.mono r x1).set q1)⟩;rw[exec_Assign_Name_used _ _ _ _ S];refine Mu (Nh (Mu ?_));rw[LB];refine Mu (MK (nF (use:=@(assign (.Name y py) X.env)) (Q':=λ _ B=>SP X aa D .next B) hc ok hcl U hlr hmo hev hi pg tZ pb hs I h ?_) (λ _ B hq=>MA (MA hq)) λ _ _ e=>e);intro Dl Cf B H' hI q hm hn h1 h2 h3 h4;let⟨m,hm⟩:=hm;have I':Inv X aa Y H' B:=hI B.heap λ b o _ e=>e;refine wpAny_assign_Name (jt I' hN hy hx (v:=.ref Dl) (u:=.ref Dl) rfl (λ s2 I2 hsb=>?_) hf);let⟨a,sb,ha⟩:=hsb;have hne:Cf≠a:=by
  rcases ha with rfl | ha
  .exact h1
  .exact(h3 _ _ ha).symm
 refine⟨m,hm.sameBut sb hne,λ h' hs'=>⟨_,H',?_,q⟩⟩;exact I2.turned (t':=s2.toks) (it:=Cf) (λ b o hb e=>hs'.extBut b o hb e) hn h1 (.inr h2) h3 h4
end
structure CL(X:L2.Cx)(cl:Cl)(C:D.Cx)(elt tg iter:Expr)(ifs:List Expr)(gs:List Comprehension)(scope:Scope)(pos:Pos)(js:List Nat)(t:T)(lN:E)(di:Es)(rest:G):Prop where
 calm:X.calm=true
 ok:dw X.N js scope X.env.scope
 next:∀g',gs[0]?=some g'->g'.is_async=0/\∀env x,foldedSetIterable g'.iter env x=pure x
 hi:PI X tg iter (SI X cl (gE C lN))
 pg:∀cl' s₀ H₀ fp pn,PG (X.comp scope cl' s₀ H₀ fp pn) tg (SG (X.comp scope cl' s₀ H₀ fp pn) cl (cN C (.pt t)))
 tZ:∀cl' s₀ H₀ fp pn,iz (X.comp scope cl' s₀ H₀ fp pn) ifs (ST (X.comp scope cl' s₀ H₀ fp pn) cl (aX C di))
 pb:∀cl' s₀ H₀ fp pn Δ,PB (X.comp scope cl' s₀ H₀ fp pn) (λ Q s=>bK X.prog X.w X.A (.ListComp elt (⟨tg,iter,ifs,0⟩::gs) scope pos) elt 0 (.ref Δ) (X.comp scope cl' s₀ H₀ fp pn).env Q (⟨tg,iter,ifs,0⟩::gs)[0+1]? s) (SB false (X.comp scope cl' s₀ H₀ fp pn) cl Δ (f9 C rest))
 hs:∀x,foldedSetIterable iter X.env x=pure x
section
variable{gs:List Comprehension}
theorem Ea(h:CL X cl C elt tg iter ifs gs scope pos js t lN di rest)(l:eval (.ListComp elt (⟨tg,iter,ifs,0⟩::gs) scope pos) X.env=comprehension (.ListComp elt (⟨tg,iter,ifs,0⟩::gs) scope pos) scope X.env pp (newList []) false (eval iter X.env) none) :
  PE X (.ListComp elt (⟨tg,iter,ifs,0⟩::gs) scope pos) (SE X cl (ao C (.comp (.gen t js lN di rest)))):=
 zE (bk:=false) (rw:=λ env Δ Q s=>bK X.prog X.w X.A (.ListComp elt (⟨tg,iter,ifs,0⟩::gs) scope pos) elt 0 (.ref Δ) env Q (⟨tg,iter,ifs,0⟩::gs)[0+1]? s) h.calm h.ok rfl (λ _ _ _ _ _ a b=>cM rfl a b)
  (λ _ _ _=>fh rfl λ j g=>⟨(h.next j g).1,(h.next j g).2 _⟩) (λ k z=>d9 k z) (λ h=>qW h) h.hi h.pg h.tZ h.pb h.hs l
theorem zG(x:X.N.Nodup)(l:X.N[i]?=some y)(q:L2.Loc X.env.scope y)(h:CL X cl C elt tg iter ifs gs scope pos js t lN di rest)
  (j:swapsWith (.ListComp elt (⟨tg,iter,ifs,0⟩::gs) scope pos) @(.Name y py) spos.line X.env=pure true) (u:X.fn y=true\/X.env.scope.names.lookup y=some .local) :
  PS X (.Assign [.Name y py] (.ListComp elt (⟨tg,iter,ifs,0⟩::gs) scope pos) spos) (SS X cl (aT C (.asg (.pt (.var i)) (.comp (.gen t js lN di rest))))):=
 zF (bk:=false) (rw:=λ env Δ Q s=>bK X.prog X.w X.A (.ListComp elt (⟨tg,iter,ifs,0⟩::gs) scope pos) elt 0 (.ref Δ) env Q (⟨tg,iter,ifs,0⟩::gs)[0+1]? s) x l q h.calm h.ok rfl (λ _ _ _ _ _ a b=>cM rfl a b)
  (λ _ _ _=>fh rfl λ k g=>⟨(h.next k g).1,(h.next k g).2 _⟩) (λ r z=>d9 r z) (λ h=>qW h) h.hi h.pg h.tZ h.pb h.hs j u rfl
variable{kx vx:Expr}{dk dv:E}
end
theorem zH:iz X [] (ST X cl (aX C .nil)):=by
 intro aa s Y H Q I h;let⟨J,Z,m,b,m',r,l,e,k⟩:=h;erw[g6] at e;cases e;exact uL aa s Y H Q I (k _ _ Ext.refl r)
theorem zI{a:Expr}(x:PT X a (ST X cl (aR C da))):iz X [a] (ST X cl (aX C %[|da])):=by
 intro aa s Y H Q I h;refine uM x aa s Y H Q I ?_;let⟨J,Z,m,b,m',r,l,e,k⟩:=h;erw[g6] at e;let⟨c,u,z,e⟩:=R.af e;refine⟨J,Z,m,c,u,r,l,z,fun q A g j=>?_⟩;cases c with
 |true=>erw[ND] at e;cases e;exact k _ _ g j
 |false=>erw[MS,MR] at e;cases e;exact k _ _ g j
end
def bH(γ:List Addr)(h:Heap)(H:Hp):Hp:=λ b=>if b∈γ then match H b,h.get? b with
  |some (.lst vs),some o=>some (.frz o (.lst vs))
  |some (.ins c dx fs),some o=>some (.frz o (.ins c dx fs))
  |u,_=>u else H b
section
variable{γ:List Addr}{h:Heap}{H:Hp}{b:Addr}
theorem fj:bH γ h H b=H b\/∃o u,b∈γ/\H b=some u/\h.get? b=some o/\bH γ h H b=some (.frz o u)/\((∃vs,u=.lst vs)\/∃c dx k,u=.ins c dx k):=by
 unfold bH
 by_cases a:b∈γ
 .erw[MO a];split
  .ext vs o j g;exact .inr ⟨o,_,a,j,g,rfl,.inl ⟨vs,rfl⟩⟩
  .ext c dx k o j g;exact .inr ⟨o,_,a,j,g,rfl,.inr ⟨c,dx,k,rfl⟩⟩
  .exact .inl rfl
 .exact .inl (MN a)
theorem eF(e:H b=none):bH γ h H b=none:=by
 rcases fj (γ:=γ) (h:=h) (H:=H) (b:=b) with z | ⟨o,u,_,z,_⟩
 .rw[z,e]
 .rw[e] at z;cases z
theorem aV{u:HO}(e:H b=some u)(j:∀vs,u≠.lst vs)(g:∀c dx a,u≠.ins c dx a):bH γ h H b=some u:=by
 rcases fj (γ:=γ) (h:=h) (H:=H) (b:=b) with z | ⟨o,k,_,z,_,_,⟨vs,rfl⟩ | ⟨c,dx,a,rfl⟩⟩
 .rw[z,e]
 .rw[e] at z;cases z;exact absurd rfl (j _)
 .rw[e] at z;cases z;exact absurd rfl (g _ _ _)
theorem aO(e:b∉γ):bH γ h H b=H b:=by unfold bH;rw[MN e]
theorem wD{o:Obj}(e:b∈γ)(g:H b=@(.lst vs))(a:h.get? b=some o):bH γ h H b=some (.frz o (.lst vs)):=by unfold bH;rw[MO e,g,a]
theorem wF{c:Addr}{a:List (Str×V)}{o:Obj}(e:b∈γ)(j:H b=@(.ins c dx a))(g:h.get? b=some o):bH γ h H b=some (.frz o (.ins c dx a)):=by unfold bH;rw[MO e,j,g]
theorem HD{w:World}(x:cZ P w H h):cZ P w (bH γ h H) h:=λ a u e=>by
 have g:∀v,H a=some v->aC P w (D.bH γ h H) h a v:=λ v l=>(x a v l).stay (λ _ _ _ q=>q) (λ c q=>aV q (by intro _ z;cases z) (by intro _ _ _ z;cases z)) λ c r q=>aV q (by intro _ z;cases z) (by intro _ _ _ z;cases z);rcases fj (γ:=γ) (h:=h) (H:=H) (b:=a) with z | ⟨o,v,_,z,k,j,_⟩
 .exact g u (by rw[<-z];exact e)
 .rw[j] at e;cases e;exact⟨k,g v z⟩
end
theorem Bt{X:L2.Cx}(I:Inv X aa Y H s)(γ:List Addr):Inv X aa Y (bH γ s.heap H) s where
 ok:=I.ok
 os:=I.os
 bare:=I.bare
 base:={
  keep:=I.base.keep
  slot:=I.base.slot
  free:=λ b o q n g=>eF (I.base.free b o q n g)
  there:=I.base.there
  tups:=λ b xs q=>aV (I.base.tups b xs q) (by intro _ z;cases z) (by intro _ _ _ z;cases z)
  dM:=λ b o u q=>aV (I.base.dM b o u q) (by intro _ z;cases z) (by intro _ _ _ z;cases z)
  eN:=λ b ps q=>let ⟨more,e⟩:=I.base.eN b ps q;⟨more,aV e (by intro _ z;cases z) (by intro _ _ _ z;cases z)⟩}
 loc:=I.loc
 cell:=I.cell
 free:=eF I.free
 freeC:=λ x c e=>eF (I.freeC x c e)
 pin:=λ p h=>let ⟨a,b,c⟩:=I.pin p h;⟨a,eF b,c⟩
 hok:=HD I.hok
 len:=I.len
section
variable{K:ae}{cl:Cl}{J γ:List Addr}{H:Hp}{h:Heap}{m:Mem}
theorem Bu{a:Addr}(q:bI K H a vs):bI K (bH γ h H) a vs:=by
 rcases q with (q | ⟨o,q⟩) | q
 .exact .inl (.inl (aV q (by intro _ z;cases z) (by intro _ _ _ z;cases z)))
 .exact .inl (.inr ⟨o,aV q (by intro _ z;cases z) (by intro _ _ _ z;cases z)⟩)
 .exact .inr q
theorem Bv{a:Addr}(q:nq K H a vs):nq K (bH γ h H) a vs:=by
 rcases q with⟨o,q⟩ | q
 .exact .inl ⟨o,aV q (by intro _ z;cases z) (by intro _ _ _ z;cases z)⟩
 .exact .inr q
theorem RW.tG(q:RW K (J++γ) H w v):fc J.length w=true->RW K J (bH γ h H) w v:=
 RW.rec (motive_1:=λ w v _=>fc J.length w=true->RW K J (bH γ h H) w v) (motive_2:=λ w v _=>bG J.length w=true->aA K J (bH γ h H) w v) (λ _=>.non) (λ b _=>.bl b) (λ b _=>.int b) (λ b _=>.str b) (λ h _ i e=>.tup (Bu h) (i e)) (λ h _ i e=>.fz (Bv h) (i e)) (λ h z _ i e=>.obj (aV h (by intro _ z;cases z) (by intro _ _ _ z;cases z)) z (i e)) (λ q e=>.ref (by rw[MI (Oh e)] at q;exact q)) (λ _=>.nil) (λ _ _ a b e=>.cons (a (MF.mp e).1) (b (MF.mp e).2)) q
theorem aA.tG{w:List W}{v:List V}(q:aA K (J++γ) H w v)(e:bG J.length w=true):aA K J (bH γ h H) w v:=by
 induction w generalizing v with
 |nil=>cases q;exact .nil
 |cons x w g=>cases q with | cons a b=>exact .cons (a.tG (MF.mp e).1) (g b (MF.mp e).2)
theorem cV.snd:∀{a:List (Str×W)} {gs:List (Str×V)},cV K J H a gs->aA K J H (a.map (·.2)) (gs.map (·.2))/\a.map (·.1)=gs.map (·.1)
 |_,_,.nil=>⟨.nil,rfl⟩
 |_,_,.cons q t=>⟨.cons q t.snd.1,by rw[Nj,Nj,t.snd.2]⟩
theorem cV.of:∀{a:List (Str×W)} {gs:List (Str×V)},a.map (·.1)=gs.map (·.1)->aA K J H (a.map (·.2)) (gs.map (·.2))->cV K J H a gs
 | [],[],_,_=>.nil
 |(f,w)::a,(g,v)::gs,e,t=>by
  erw[Nj,List.cons.injEq] at e;let⟨rfl,e⟩:=e;cases t with
  |cons q t=>exact .cons q (cV.of e t)
 | [],_::_,e,_=>by simp at e
 |_::_,[],e,_=>by simp at e
mutual
theorem RW.jl{g:Nat->Option W}(j:∀{n w v},g n=some w->RW K (J++γ) H (.ref n) v->RW K J (bH γ h H) w v):∀{w:W} {v:V} {l:W},RW K (J++γ) H w v->D.jl g w=some l->RW K J (bH γ h H) l v
 |_,_,_,.non,e=>by erw[D.jl] at e;cases e;exact .non
 |_,_,_,.bl b,e=>by erw[D.jl] at e;cases e;exact .bl b
 |_,_,_,.int i,e=>by erw[D.jl] at e;cases e;exact .int i
 |_,_,_,.str s,e=>by erw[D.jl] at e;cases e;exact .str s
 |_,_,_,.tup q t,e=>by
  erw[D.jl,Mt] at e;let⟨k,a,rfl⟩:=e;exact .tup (Bu q) (aA.dN j t a)
 |_,_,_,.fz q t,e=>by
  erw[D.jl,Mt] at e;let⟨k,a,rfl⟩:=e;exact .fz (Bv q) (aA.dN j t a)
 |_,_,_,.obj q z t,e=>by
  erw[D.jl,Mt] at e;let⟨k,a,rfl⟩:=e;exact .obj (aV q (by intro _ z;cases z) (by intro _ _ _ z;cases z)) z (aA.dN j t a)
 |_,_,_,.ref q,e=>j (by simpa only[D.jl] using e) (.ref q)
theorem aA.dN{g:Nat->Option W}(j:∀{n w v},g n=some w->RW K (J++γ) H (.ref n) v->RW K J (bH γ h H) w v):∀{w:List W} {v:List V} {a:List W},aA K (J++γ) H w v->D.dN g w=some a->aA K J (bH γ h H) a v
 |_,_,_,.nil,e=>by erw[D.dN] at e;cases e;exact .nil
 |_,_,_,.cons q t,e=>by
  erw[D.dN] at e;split at e
  .cases e
  .ext y l;split at e
   .cases e
   .ext r k;cases e;exact .cons (RW.jl j q l) (aA.dN j t k)
end
theorem kU(j:∀a u,H a=some u->((∃vs,u=.lst vs)\/∃c dx B,u=.ins c dx B)->∃o,h.get? a=some o)(r:Rel K cl (J++γ) m H):∀(d:Nat) {n:Nat} {w:W} {v:V},AX m J.length d n=some w->RW K (J++γ) H (.ref n) v->RW K J (bH γ h H) w v
 |0,n,w,v,e,q=>by
  erw[AX] at e;split at e
  .ext g;cases e;exact q.tG (by simpa only[fc,Oj] using g)
  .cases e
 |d+1,n,w,v,e,q=>by
  erw[AX] at e;split at e
  .ext g;cases e;exact q.tG (by simpa only[fc,Oj] using g)
  .ext g;cases q with
   |ref k=>
    ext a;have A:a∈γ:=by
     rw[ML 'o'] at k;exact M3 k
    split at e
    .ext xs x;erw[Mt] at e;let⟨I,l,rfl⟩:=e;let⟨vs,z,t⟩:=r.obj x k;let⟨o,ho⟩:=j a _ z (.inl ⟨_,rfl⟩);exact .fz (.inl ⟨o,wD A z ho⟩) (t.dN (λ e q=>kU j r d e q) l)
    .ext c B x;erw[Mt] at e;let⟨I,l,rfl⟩:=e;let⟨dx,L,z,t⟩:=r.obj x k;let⟨o,ho⟩:=j a _ z (.inr ⟨_,_,_,rfl⟩);exact .obj (wF A z ho) t.snd.2 (t.snd.1.dN (λ e q=>kU j r d e q) l)
    .cases e
end
theorem Bw{X:L2.Cx}{cl:Cl}{ex:Expr}(hp:PE X ex (SE X cl (ao C d))):PE X ex (SE X cl (ao C (.frz d))):=by
 rintro aa s Y H Q I ⟨J,Z,m,w,m',r,l,e,k⟩;erw[jJ] at e;cases h0:ao C d Z m with
 |no=>rw[h0] at e;cases e
 |ok w0 m0=>
  rw[h0] at e;erw[u6] at e;split at e
  .ext hc;split at e
   .ext w1 e1;cases e;refine aJ (hp aa s Y H (λ v x=>∃g,Ext J H g x/\Rel X.K cl g m0 x/\RW X.K g x w0 v) I ⟨J,Z,m,w0,m0,r,l,h0,fun g x v1 L h T=>⟨g,L,h,T⟩⟩) λ u s1 ⟨v,x,I1,rv,g,L,h,T⟩=>?_;let⟨B,rfl,U⟩:=L.pre;have hl:=r.len;have hh:∀a u,x a=some u->((∃vs,u=.lst vs)\/∃c dx R,u=.ins c dx R)->∃o,s1.heap.get? a=some o:=λ a u q hu=>by
     rcases hu with⟨vs,rfl⟩ | ⟨c,dx,R,rfl⟩
     .let⟨_,_,_,_,e⟩:=I1.hok a _ q;exact⟨_,e⟩
     .let⟨_,_,_,e,_⟩:=I1.hok a _ q;exact⟨_,e⟩
    refine⟨v,bH B s1.heap x,Bt I1 B,rv,k J _ v ⟨⟨[],by simp,by simp⟩,λ {a o} q N _=>?_⟩ ⟨?_,?_,λ {n o a} O h2=>?_⟩ ?_⟩
    .rw[aO λ z=>by rw[U a z] at q;cases q];exact L.keep q N 's'
    .rw[Ol,hl];lia
    .exact(OG.mp h.nd).1
    .have N:n<m.length:=by
      have:=(Mw.mp O).1;rw[Ol] at this;lia
     rw[N5 N] at O;have hb:(J++B)[n]?=some a:=by rw[MI 'o'];exact h2
     have M:dB J.length o=true:=by
      rw[hl];exact MV.mp hc.2 o (M3 (by rw[N5 N];exact O))
     have A:a∉B:=λ z=>by
      have:=(OG.mp h.nd).2.2 a (M3 h2) a z;exact this rfl
     have q:=h.obj O hb;cases o with
     |lst ws=>let⟨vs,e,t⟩:=q;exact⟨vs,(aO A).trans e,t.tG (by simpa only[dB] using M)⟩
     |ins c R=>
      let⟨dx,j,e,t⟩:=q;exact⟨dx,j,(aO A).trans e,.of t.snd.2 (t.snd.1.tG (by simpa only[dB] using M))⟩
     |set ks=>let⟨S,e,t⟩:=q;exact⟨S,(aO A).trans e,t⟩
     |dic R=>
      let⟨j,e,t⟩:=q;exact⟨j,(aO A).trans e,.of t.snd.2 (t.snd.1.tG (by simpa only[dB] using M))⟩
     |exc c f ws=>
      let⟨oa,od,vs,e,xo,t,d⟩:=q;exact⟨oa,od,vs,(aO A).trans e,xo,t.tG (by simpa only[dB] using M),d.imp id λ ⟨dx,y,d1,d2,d3⟩=>⟨dx,y,d1,d2,(aO λ z=>h.G4 d3 (Nb _ z)).trans d3⟩⟩
    .rw[<-hl] at e1;exact T.jl (λ e q=>kU hh h 8 e q) e1
   .cases e
  .cases e
theorem RW.HE(q:RW K J H w v):fc J.length w=true:=
 RW.rec (motive_1:=λ w v _=>fc J.length w=true) (motive_2:=λ w v _=>bG J.length w=true) rfl (λ _=>rfl) (λ _=>rfl) (λ _=>rfl) (λ _ _ i=>i) (λ _ _ i=>i) (λ _ _ _ i=>i) (λ q=>N7 (Mw.mp q).1) rfl (λ _ _ a b=>MF.mpr ⟨a,b⟩) q
theorem Rel.frozen{X:L2.Cx}{cl:Cl}{k:Shared}{γ:List Addr}{h:Hp}{m0:Mem}(r:Rel X.K cl J m H)(U:Ext J H (J++γ) h)(L:∀a∈γ,H a=none)(l:Rel X.K cl (J++γ) m0 h)(hc:m.length<=m0.length/\sO m.length (m0.take m.length)=true)(R:Inv X aa Y h k) :
  Ext J H J (bH γ k.heap h)/\Rel X.K cl J (m0.take m.length) (bH γ k.heap h)/\(∀a u,h a=some u->((∃vs,u=.lst vs)\/∃c dx I,u=.ins c dx I)->∃o,k.heap.get? a=some o):=by
 have M:=r.len;refine⟨⟨⟨[],by simp,by simp⟩,λ {a o} q A _=>?_⟩,⟨?_,?_,λ {n o a} B N=>?_⟩,λ a u q hu=>?_⟩
 .rw[aO λ z=>by rw[L a z] at q;cases q];exact U.keep q A 's'
 .rw[Ol,M];lia
 .exact(OG.mp l.nd).1
 .have A:n<m.length:=by
   have:=(Mw.mp B).1;rw[Ol] at this;lia
  rw[N5 A] at B;have hb:(J++γ)[n]?=some a:=by rw[MI 'o'];exact N
  have x:dB J.length o=true:=by
   rw[M];exact MV.mp hc.2 o (M3 (by rw[N5 A];exact B))
  have j:a∉γ:=λ z=>by
   have:=(OG.mp l.nd).2.2 a (M3 N) a z;exact this rfl
  have q:=l.obj B hb;cases o with
  |lst ws=>let⟨vs,e,t⟩:=q;exact⟨vs,(aO j).trans e,t.tG (by simpa only[dB] using x)⟩
  |ins c I=>
   let⟨dx,g,e,t⟩:=q;exact⟨dx,g,(aO j).trans e,.of t.snd.2 (t.snd.1.tG (by simpa only[dB] using x))⟩
  |set ks=>let⟨S,e,t⟩:=q;exact⟨S,(aO j).trans e,t⟩
  |dic I=>
   let⟨g,e,t⟩:=q;exact⟨g,(aO j).trans e,.of t.snd.2 (t.snd.1.tG (by simpa only[dB] using x))⟩
  |exc c f ws=>
   let⟨oa,od,vs,e,T,t,d⟩:=q;exact⟨oa,od,vs,(aO j).trans e,T,t.tG (by simpa only[dB] using x),d.imp id λ ⟨dx,y,d1,d2,O⟩=>⟨dx,y,d1,d2,(aO λ z=>l.G4 O (Nb _ z)).trans O⟩⟩
 .rcases hu with⟨vs,rfl⟩ | ⟨c,dx,I,rfl⟩
  .let⟨_,_,_,_,e⟩:=R.hok a _ q;exact⟨_,e⟩
  .let⟨_,_,_,e,_⟩:=R.hok a _ q;exact⟨_,e⟩
theorem Eb{X:L2.Cx}{cl:Cl}(hp:PS X st (SS X cl (aT C (.asg (.pt (.var i)) d)))):PS X st (SS X cl (aT C (.asg (.pt (.var i)) (.frz d)))):=by
 rintro aa s Y H D I ⟨J,Z,m,f,m',r,l,e,k⟩;erw[dX,jJ,cN,aG] at e;let⟨w1,m1,t,e⟩:=R.af e;erw[R.bind] at e;cases e;cases h0:ao C d Z m with
 |no=>rw[h0] at t;cases t
 |ok S m0=>
  rw[h0] at t;erw[u6] at t;split at t
  .ext hc;split at t
   .ext Mq e2;cases t;refine aJ (hp aa s Y H {nx:=fun g B=>∃a,Ext J H a B/\Rel X.K cl a m0 B/\RL X.K a B (Z.set i (some S)) g,rt:=λ _ _=>False} I ⟨J,Z,m,.nx (Z.set i (some S)),m0,r,l,by erw[dX,h0,R.bind,cN,aG],fun a B N O g L=>⟨a,N,O,L⟩⟩) λ fl s1 h=>?_;cases fl with
    |next=>
     let⟨g,B,I1,a,N,O,L⟩:=h;let⟨γ,rfl,U⟩:=N.pre;let⟨z1,z2,z3⟩:=r.frozen N U O hc I1;refine⟨g,bH γ s1.heap B,Bt I1 γ,k J _ z1 z2 g ⟨by rw[Py,<-L.len,Py],λ {j w} A=>?_⟩⟩
     by_cases x:i=j
     .subst x;have M:i<Z.length:=by
       have:=(Mw.mp A).1;simpa using this
      rw[Nd M] at A;cases A;let⟨v,hv,T⟩:=L.at_ (i:=i) (w:=S) (by rw[Nd M]);rw[<-r.len] at e2;exact⟨v,hv,T.jl (λ e q=>kU z3 O 8 e q) e2⟩
     .rw[Na x] at A;let⟨v,hv,T⟩:=L.at_ (i:=j) (w:=w) (by rw[Na x];exact A);let⟨v',_,q'⟩:=l.at_ A;exact⟨v,hv,T.tG q'.HE⟩
    |brk=>let⟨_,_,_,z⟩:=h;exact False.elim z
    |cont=>let⟨_,_,_,z⟩:=h;exact False.elim z
    |ret u=>let⟨_,_,_,_,_,z⟩:=h;exact False.elim z
   .cases t
  .cases t
theorem gP{prog:Program}{w:World}{A:Around}{E:Value->Shared->Prop}{name:Str}{a:Pos}{args:List Expr}{Q:Value->Shared->Prop}
  (k:attributeBase o name env (eval o env)=eval o env)
  (t:((backTo pos (starEach args env)).all (λ x=>!x.1)&&(backToKw pos (keywordEach [] env)).all (λ x=>x.1.isSome)
   && decide (args.length+([]:List Keyword).length+(if ([]:List Keyword).isEmpty then 0 else 1)<30))=true)
  (j:(a.endLine==pos.line)=true)
  (h:wpAny (model prog w) A (eval o env) (λ z g=>∀B,wpAny (model prog w) A (getMethod z name B) (λ u l=>wpAny (model prog w) A (callWith pos u.1 u.2 (backTo pos (starEach args env)) []) Q E l) E g) E s) :
  wpAny (model prog w) A (eval (.Call (.Attribute o name a) args [] pos) env) Q E s:=by
 rw[arm_eval_Call,k];refine Mu (MK h (λ z g q=>?_) λ _ _ e=>e);refine Mu (Nh ?_);have L:methodCallForm (args.length+([]:List Keyword).length) (backTo pos (starEach args env)) (backToKw pos (keywordEach [] env))=true:=t;have r:methodCallPos true o env a pos=pure pos:=by unfold methodCallPos;simp[j]
 unfold methodCall;rw[L];refine Mu (Nl (MK (q _) (λ u M I=>?_) λ _ _ e=>e));exact Mu (wpAny_of_eq r I)
section
variable{X:L2.Cx}{cl:Cl}{C:D.Cx}{pos:Pos}
theorem wG{a j:Addr}{h:List (Str×V)}(I:Inv X aa Y H s)(e:Rd H a (.ins j dx h)):∃g,lV s.heap a dx j g/\∀f,cC (h.lookup f) (g f):=by
 let⟨d,z,l,k,g,n,r,q⟩:=(show aC X.prog X.w H s.heap a (.ins j dx h) from e.ok I.hok);exact⟨g,⟨k,n,l⟩,r⟩
theorem cV.lookup{K:ae}{J:List Addr}{H:Hp}{f:Str}:∀{j:List (Str×W)} {gs:List (Str×V)},cV K J H j gs->(∀{w},j.lookup f=some w->∃v,gs.lookup f=some v/\RW K J H w v)/\(j.lookup f=none->gs.lookup f=none)
 |_,_,.nil=>⟨λ h=>by simp at h,λ _=>rfl⟩
 |_,_,.cons (f:=g) q t=>by
  let⟨l,k⟩:=t.lookup (f:=f);cases a:f==g with
  |true=>
   refine⟨λ h=>?_,λ h=>?_⟩
   .erw[MH,a] at h ⊢;cases h;exact⟨_,rfl,q⟩
   .erw[MH,a] at h;cases h
  |false=>
   refine⟨λ h=>?_,λ h=>?_⟩
   .erw[MH,a] at h ⊢;exact l h
   .erw[MH,a] at h ⊢;exact k h
theorem wH:∀{gs:List (Str×V)} {xs:List W},aA K J H xs (gs.map (·.2))->cV K J H ((gs.map (·.1)).zip xs) gs
 | [],_,t=>by cases t;exact .nil
 |(g,v)::gs,xs,t=>by
  cases t with
  |cons q t=>exact .cons q (wH t)
theorem Rel.ins{g:List (Str×W)}(r:Rel K cl J m H)(q:RW K J H w v)(e:iE m w=some (c,g)):∃a dx gs,v=.ref a/\Rd H a (.ins (ah K c) dx gs)/\cV K J H g gs:=by
 cases q with
 |ref h=>
  erw[iE] at e;split at e
  .ext u j k;cases e;let⟨dx,gs,z,t⟩:=r.obj k h;exact⟨_,dx,gs,rfl,.inl z,t⟩
  .cases e
 |obj h l t=>
  erw[iE] at e;cases e;subst l;exact⟨_,_,_,rfl,.inr ⟨_,h⟩,wH t⟩
 |_=>erw[iE] at e;cases e
theorem HG{a:Expr}{f:Str}(hc:∀{c f},C.cs.flds.contains (c,f)=true->sd X.K (ah X.K c)/\dP X.K (ah X.K c) f)(ha:PE X a (SE X cl (ao C d)))(hb:attributeBase a f X.env (eval a X.env)=eval a X.env):PE X (.Attribute a f pos) (SE X cl (ao C (.fld d f))):=by
 rintro aa s Y H Q I ⟨J,Z,m,w,m',r,l,e,k⟩;erw[qE] at e;let⟨x,m1,e1,e⟩:=R.af e;unfold qm at e;split at e
 .ext c fs e2;split at e
  .ext M;split at e
   .ext w' e3;cases e;refine qa hb (aJ (ha aa s Y H (λ v h=>∃g,Ext J H g h/\Rel X.K cl g m' h/\RW X.K g h x v) I ⟨J,Z,m,x,m',r,l,e1,fun g h v1 A q B=>⟨g,A,q,B⟩⟩) λ u s1 ⟨v,h,N,T,g,A,q,B⟩=>?_);let⟨a',dx,gs,rfl,hr,t⟩:=q.ins B e2;obtain rfl:u=Value.ref a':=T;let⟨mA,O,U⟩:=wG N hr;let⟨z,ez,qz⟩:=t.lookup.1 e3;let⟨j,L⟩:=hc M;let⟨u,hu,S⟩:=cC.some_of (v:=z) (o:=mA f) (by rw[<-ez];exact U f);exact get_map N.bA O (j.get f) j.hd L hu (jw S) ⟨z,h,N.tok _,S,k _ _ _ A q qz⟩
   .cases e
  .cases e
 .cases e
theorem qX{f:Str}(q:RW K J H w v):∀{a:List (Str×W)} {gs:List (Str×V)},cV K J H a gs->cV K J H (D.bY f w a) (L2.bY f v gs)
 |_,_,.nil=>.cons q .nil
 |_,_,.cons (f:=g) (ws:=ws) (vs:=vs) h t=>by
  erw[D.bY,L2.bY];split
  .exact .cons q t
  .exact .cons h (qX q t)
theorem cV.length:∀{a:List (Str×W)} {gs:List (Str×V)},cV K J H a gs->a.length=gs.length
 |_,_,.nil=>rfl
 |_,_,.cons _ t=>by rw[MX,MX,t.length]
theorem cV.mono(r:Rel K cl J m H)(x:Ext J H J' H'){a:List (Str×W)}(t:cV K J H a gs):cV K J' H' a gs:=t.bf r yd x
theorem Rel.J1{a:Addr}(r:Rel K cl J m H){o:O}{A:List (Str×W)}(I:m[n]?=some o)(t:J[n]?=some a)(q:cV K J H A gs) :
  Ext J H J (upd H a (.ins (ah K c) dx gs))/\Rel K cl J (m.set n (.ins c A)) (upd H a (.ins (ah K c) dx gs)):=by
 have L:a∈J:=M3 t;have x:Ext J H J (upd H a (.ins (ah K c) dx gs)):=⟨⟨[],by simp,by simp⟩,λ {b u} h hn _=>by rw[ai (show b≠a from λ z=>hn (by rw[z];exact L))];exact h⟩;refine⟨x,by simp[r.len],r.nd,λ {k R b} j g=>?_⟩
 by_cases l:n=k
 .subst l;rw[t] at g;cases g;rw[Nd (Mw.mp I).1] at j;cases j;exact⟨dx,gs,aq,q.mono r x⟩
 .rw[Na l] at j;have B:=r.obj j g;refine B.mono r x (ai ?_);rintro rfl;let⟨T,N⟩:=Mw.mp g;let⟨S,M⟩:=Mw.mp t;exact l ((PY r.nd).mp (M.trans N.symm))
theorem Ec{a:Expr}{U:E}{f:Str}{g:Pos}(hc:∀{c f},C.cs.flds.contains (c,f)=true->sd X.K (ah X.K c)/\dP X.K (ah X.K c) f)(ho:PE X o (SE X cl (ao C U)))(ha:PE X a (SE X cl (ao C d)))
  (hs:swapsWith a @(.Attribute o f g) pos.line X.env=pure false):PS X (.Assign [.Attribute o f g] a pos) (SS X cl (aT C (.fas U f d))):=by
 refine PS.imp (CO ho ha hs) ?_;rintro D Y H ⟨J,Z,m,ff,m',r,l,e,k⟩;erw[mZ] at e;let⟨w,O,e1,e⟩:=R.af e;let⟨x,m2,e2,e⟩:=R.af e;let⟨_,m3,h,e⟩:=R.af e;cases e;refine⟨J,Z,m,w,O,r,l,e1,fun A H1 v1 I u q1=>?_⟩;refine⟨A,Z,O,x,m2,u,l.mono r I,e2,fun β2 H2 v2 B q q2=>?_⟩;unfold u9 at h;split at h
 .ext n;split at h
  .ext c fs T;split at h
   .ext j;cases h;cases q2 with
    |ref S=>
     let⟨dx,gs,z,t⟩:=q.obj T S;let⟨M,L⟩:=hc j.1;let⟨N,r3⟩:=q.J1 (c:=c) (dx:=dx) T S (qX (f:=f) (q1.mono u B) t);exact⟨_,_,dx,gs,rfl,z,M,L,by rw[<-t.length];exact j.2,k _ _ ((I.trans u B).trans q N) r3 _ (((l.mono r I).mono u B).mono q N)⟩
   .cases h
  .cases h
 .cases h
def Bx(X:L2.Cx)(cl:Cl)(C:D.Cx)(c name:Str)(i:Nat):Prop:=∃(k:Nat) (fa:Addr) (g:FuncData) (a:List Str),aS k X.A/\sd X.K (ah X.K c)/\Meth X.K (ah X.K c) name fa/\Binds X.K g a []/\
 aY X.prog X.w X.K X.mg X.base (tY X.prog X.w) k fa g a (qR X.K cl a.length (C.call i))/\∀ws m w m',C.call i ws m=.ok w m'->ws.length=a.length
theorem HH{name:Str}{L:Pos}(hM:∀{c name i},C.cs.mths.lookup (c,name)=some i->Bx X cl C c name i)(ho:PE X o (SE X cl (ao C d)))(ha:PA X es (SA X cl (aH C ds)))
  (S:attributeBase o name X.env (eval o X.env)=eval o X.env)
  (hfew:((backTo pos (starEach es X.env)).all (λ x=>!x.1)&&(backToKw pos (keywordEach [] X.env)).all (λ x=>x.1.isSome)
   && decide (es.length+([]:List Keyword).length+(if ([]:List Keyword).isEmpty then 0 else 1)<30))=true)
  (N:(L.endLine==pos.line)=true) (hs:(es=[]/\ds=.nil)\/∃a r,es=a::r/\starEach (a::r) X.env=(false,eval a X.env)::starEach r X.env/\(backTo pos (starEach r X.env)).any (·.1)=false) :
  PE X (.Call (.Attribute o name L) es [] pos) (SE X cl (ao C (.mth d name ds))):=by
 rintro aa s Y H Q I ⟨J,Z,m,w,m',r,l,e,k⟩;erw[qF] at e;let⟨x,m1,e1,e⟩:=R.af e;split at e
 .ext i e2;let⟨ws,m2,e3,e⟩:=R.af e;refine gP S hfew N (aJ (ho aa s Y H (λ v B=>∃h,Ext J H h B/\Rel X.K cl h m1 B/\RW X.K h B x v) I ⟨J,Z,m,x,m1,r,l,e1,fun h B v1 x1 M q1=>⟨h,x1,M,q1⟩⟩) λ u s1 ⟨v,B,I1,rv,h,x1,M,q1⟩ pl=>?_);unfold qp at e2;split at e2
  .ext c fs e4;split at e2
   .ext hno;let⟨A,dx,gs,rfl,hr,t⟩:=M.ins q1 e4;obtain rfl:u=Value.ref A:=rv;let⟨mA,O,ro⟩:=wG I1 hr;have hn:mA name=none:=cC.none_of (by rw[<-t.lookup.2 (~~~hno)];exact ro name);let⟨kk,fa,fd,ps,q,hcl,z,hbd,hF,tH⟩:=hM e2;refine uA I1.bA O (hcl.get name) z.at_ z.fn hn ?_;have oF:∀vs g j,Ext h B g j->Rel X.K cl g m2 j->aA X.K g j ws vs->qR X.K cl ps.length (C.call i) ((.ref A::vs)++[]) j Q E0:=λ vs g j T U q2=>by
     rw[NP];have hq:aA X.K g j (x::ws) (.ref A::vs):=.cons (q1.mono M T) q2;exact⟨by rw[<-hq.length];exact tH _ _ _ _ e,g,m2,x::ws,w,m',U,hq,e,fun β3 H3 v3 x3 r3 q3=>k _ _ _ ((x1.trans M T).trans U x3) r3 q3⟩
    rcases hs with⟨rfl,rfl⟩ | ⟨a,rr,rfl,hst,hpl⟩
    .erw[bW] at e3;cases e3;exact OV (first:=[.ref A]) I1.bA z.kp (kj (us:=[.ref A]) (vs:=[.ref A]) hF q hbd .nil qQ I1 %[|rfl] (oF [] h B Ext.refl M .nil))
    .refine Nu (first:=[.ref A]) (h₀:=X.base) I.ok.mod.kin z.kp (aJ (ha pos aa s1 Y B (λ vs j=>∃g,Ext h B g j/\Rel X.K cl g m2 j/\aA X.K g j ws vs) I1 ⟨h,Z,m1,ws,m2,M,l.mono r x1,e3,fun g j v2 T U q2=>⟨g,T,U,q2⟩⟩) λ us s2 ⟨vs,j,I2,rr2,g,T,U,q2⟩=>⟨I2.bA,?_⟩) hst hpl;exact kj (us:=.ref A::us) (vs:=.ref A::vs) hF q hbd .nil qQ I2 (.cons rfl rr2) (oF vs g j T U q2)
   .cases e2
  .cases e2
 .cases e
def HJ(X:L2.Cx)(cl:Cl)(C:D.Cx)(c:Str)(i:Nat):Prop:=∃(k:Nat) (fa:Addr) (g:FuncData) (a:List Str),aS (k+1) X.A/\Mk X.K (ah X.K c) fa/\X.mg c=some (.ref (ah X.K c))/\Binds X.K g a []/\
 aY X.prog X.w X.K X.mg X.base (tY X.prog X.w) k fa g a (qR X.K cl a.length (C.call i))/\∀ws m w m',C.call i ws m=.ok w m'->ws.length=a.length
theorem zJ{k f:Nat}{h:FuncData}{a:List Str}{x:Str}(F:aY X.prog X.w X.K X.mg X.base (tY X.prog X.w) k fa h a (qR X.K cl a.length (C.call f)))(z:aS k X.A)(M:Gl X x)(B:X.mg x=@(.ref fa))(L:PySem.W.keepIn X.K (.ref fa)=true)(N:Binds X.K h a [])
  (I:a.length=0) (g:(x==("__debug__":Str))=false):PE X (.Call (.Name x p) [] [] pos) (SE X cl (ao C (.call f .nil))):=by
 refine PE.imp (uD F z M B L N .nil qQ g) ?_;rintro Y H Q ⟨J,Z,m,w,m',r,l,e,k⟩;erw[iH,bW,R.bind] at e;exact⟨by rw[I];rfl,J,m,[],w,m',r,.nil,e,fun j S O q t u=>k _ _ _ q t u⟩
end
section
variable{X:L2.Cx}{cl:Cl}{C:D.Cx}{pos:Pos}
theorem Ed{a:Expr}{N g:Pos}(hh:X.A.handled=none)(hu:X.A.units+64<cLine)(hg:Gl X "len")(U:X.mg "len"=none)(Hr:Gl X "set")(h:X.mg "set"=none)(ha:PE X a (SE X cl (ao C d)))(u:starEach [a] X.env=[(false,eval a X.env)]) :
  PE X (.Call (.Name "len" p) [.Call (.Name "set" N) [a] [] g] [] pos) (SE X cl (ao C (.fus .sj d))):=by
 refine PE.imp (dQ jk hg U 'k' (aM (jB (sC hh) Hr h 'k' (aM ha bE u) 'k' 'k' u rfl) bE) 'k' 'k' rfl rfl) ?_;rintro Y H Q ⟨J,Z,m,w,m',r,l,e,k⟩;erw[bO] at e;let⟨x,m1,e1,e⟩:=R.af e;erw[bX] at e;split at e
 .ext xs;unfold uW at e;split at e
  .ext q e2;split at e
   .ext O;cases e;refine⟨J,Z,m,_,_,r,l,e1,fun z H1 v1 I j M=>?_⟩;cases M with
    |tup hs t=>
     refine⟨_,q,rfl,by rw[<-t.bF e2];exact hs,O,λ p S T=>?_⟩;let⟨B,L⟩:=j.tw T (.set S (L2.unlike q));exact⟨p,S,_,rfl,aq,k _ _ _ (I.trans j B) L (.int _)⟩
   .cases e
  .cases e
 cases e
end
def TopK(K:ae)(w:World)(h:Str->Option Value)(x:Str)(g:List (Str×W)):Prop:=∃a gs,h x=some (.ref a)/\TopD K w a gs/\∀J H,cV K J H g gs
section
variable{X:L2.Cx}{cl:Cl}{C:D.Cx}{pos p:Pos}{a:Expr}{d:E}{x:Str}{kvs:List (Str×W)}
theorem Ef(T:TopK X.K X.w X.mg x kvs)(M:Gl X x)(N:(x==("__debug__":Str))=false)(O:PE X a (SE X cl (ao C d))):PE X (.Compare a [.NotIn] [.Name x p] pos) (SE X cl (ao C (.fus (.knin kvs) d))):=by
 let⟨b,gs,L,t,I⟩:=T;refine PE.imp (p7 (jV fE eW) O (fq (v:=.ref b) M L rfl N) rfl) ?_;rintro Y H Q ⟨J,Z,m,w,m',r,l,e,k⟩;erw[bO] at e;let⟨y,S,u,e⟩:=R.af e;erw[bX] at e;split at e
 .ext z;cases e;refine⟨J,Z,m,_,_,r,l,u,fun g A B h j q=>?_⟩;cases q;exact .inl ⟨_,_,_,rfl,rfl,t,by rw[<-(I g A).look.1];exact k _ _ _ h j (.bl _)⟩
 .cases e;refine⟨J,Z,m,_,_,r,l,u,fun g A B h j q=>?_⟩;cases q;exact .inr ⟨_,_,_,rfl,rfl,t,k _ _ _ h j (.bl _)⟩
 .cases e
theorem Eg(T:TopK X.K X.w X.mg x kvs)(N:Gl X x)(O:(x==("__debug__":Str))=false)(S:PE X a (SE X cl (ao C d))):PT X (.Compare a [.NotIn] [.Name x p] pos) (ST X cl (aR C (.fus (.knin kvs) d))):=by
 let⟨b,gs,M,u,L⟩:=T;refine PT.imp (p8 (jV fE eW) S (fq (v:=.ref b) N M rfl O) rfl) ?_;rintro Y H Q ⟨J,Z,m,w,m',r,l,e,k⟩;erw[iO] at e;let⟨U,m2,g,e⟩:=R.af e;let⟨y,m1,A,g⟩:=R.af g;erw[bX] at g;split at g
 .ext z;cases g;erw[truthy] at e;cases e;refine⟨J,Z,m,_,_,r,l,A,fun h B I j q t=>?_⟩;cases t;exact .inl ⟨_,_,_,rfl,rfl,u,by rw[<-(L h B).look.1];exact⟨_,rfl,k _ _ j q⟩⟩
 .cases g;erw[truthy] at e;cases e;refine⟨J,Z,m,_,_,r,l,A,fun h B I j q t=>?_⟩;cases t;exact .inr ⟨_,_,_,rfl,rfl,u,⟨_,rfl,k _ _ j q⟩⟩
 .cases g
theorem Eh(T:TopK X.K X.w X.mg x kvs)(I:Gl X x)(L:(x==("__debug__":Str))=false)(M:PE X a (SE X cl (ao C d)))(u:gX a):PE X (.Subscript (.Name x p) a pos) (SE X cl (ao C (.fus (.kget kvs) d))):=by
 let⟨b,gs,B,N,A⟩:=T;refine PE.imp (AN Dj (fq (v:=.ref b) I B rfl L) M u) ?_;rintro Y H Q ⟨J,Z,m,w,m',r,l,e,k⟩;erw[bO] at e;let⟨y,m1,U,e⟩:=R.af e;erw[bX] at e;split at e
 .ext z;split at e
  .ext w' S;cases e;refine⟨J,Z,m,_,_,r,l,U,fun g H1 v1 h j t=>?_⟩;cases t;let⟨v,O,q⟩:=(A g H1).look.2 _ S;exact⟨_,_,_,_,rfl,rfl,N,O,k _ _ _ h j q⟩
  .cases e
 .cases e
end
def qY(X:L2.Cx)(cl:Cl)(C:D.Cx):List Str->Es->List (TE×TE)
 |k::ks,.cons e es=>(tC (.str k),SE X cl (ao C e))::qY X cl C ks es
 |_,_=>[]
section
variable{X:L2.Cx}{cl:Cl}{C:D.Cx}
theorem nH{Z:Loc}:∀{ks:List Str} {es:Es} {J:List Addr} {H:Hp} {m m':Mem} {ws:List W} {Q:List (V×V)->Hp->Prop},ks.length=ws.length->Rel X.K cl J m H->RL X.K J H Z Y->aH C es Z m=.ok ws m'->
  (∀J' H' vs,Ext J H J' H'->Rel X.K cl J' m' H'->aA X.K J' H' ws vs->Q ((ks.map V.str).zip vs) H')->kG (qY X cl C ks es) Y H Q
 |ks,.nil,J,H,m,m',ws,Q,a,r,l,e,k=>by
  erw[bW] at e;cases e;have:ks=[]:=List.length_eq_zero_iff.mp a;subst this;exact k _ _ [] Ext.refl r .nil
 |ks,.cons d es,J,H,m,m',ws,Q,a,r,l,e,k=>by
  erw[bW] at e;let⟨w,m1,L,e⟩:=R.af e;let⟨O,m2,I,e⟩:=R.af e;cases e;cases ks with
  |nil=>simp at a
  |cons z ks=>
   refine⟨J,Z,m,w,m1,r,l,L,fun t N u q h B=>?_⟩;refine nH (~~~a) h (l.mono r q) I fun g M vs j x A=>?_;exact k g M (u::vs) (q.trans h j) x (.cons (B.mono h j) A)
theorem qZ:∀{ks:List Str} {ws:List W} {vs:List V},ks.length=ws.length->aA K J H ws vs->cV K J H (ks.zip ws) (ks.zip vs)
 | [],_,_,h,.nil=>.nil
 | [],_,_,h,.cons _ _=>by simp at h
 |_::_,_,_,h,.nil=>by simp at h
 |k::ks,_,_,h,.cons q t=>.cons q (qZ (~~~h) t)
theorem Rel.other{p:Addr}{u u':HO}(r:Rel K cl J m H)(k:H p=some u)(hb:p∉J)(h1:∀xs,u≠.tup xs)(h2:∀O x,u≠.frz O x)(h3:∀A,u≠.xd A:=by intro _ z;cases z) :
  Rel K cl J m (upd H p u')/\∀{ws:List W} {vs:List V},aA K J H ws vs->aA K J (upd H p u') ws vs:=by
 have l:∀{a:Addr} {o:Obj} {u:HO},H a=some (.frz o u)->upd H p u' a=some (.frz o u):=λ {a o x} e=>by
  rw[ai]
  .exact e
  .rintro rfl;rw[k] at e;cases e;exact h2 _ _ rfl
 have L:∀{a:Addr} {vs:List V},bI K H a vs->bI K (upd H p u') a vs:=λ {a vs} q=>by
  rcases q with (e | ⟨o,e⟩) | q
  .refine .inl (.inl ?_);rw[ai]
   .exact e
   .rintro rfl;rw[k] at e;cases e;exact h1 _ rfl
  .exact .inl (.inr ⟨o,l e⟩)
  .exact .inr q
 have T:∀{w:W} {v:V},RW K J H w v->RW K J (upd H p u') w v:=λ q=>q.keep ⟨[],by simp⟩ L l;have j:∀{ws:List W} {vs:List V},aA K J H ws vs->aA K J (upd H p u') ws vs:=λ q=>q.keep ⟨[],by simp⟩ L l;have I:∀{ws:List (Str×W)} {vs:List (Str×V)},cV K J H ws vs->cV K J (upd H p u') ws vs:=λ q=>by
  induction q with
  |nil=>exact .nil
  |cons a b U=>exact .cons (T a) U
 refine⟨⟨r.len,r.nd,λ {n o a} g1 g2=>?_⟩,j⟩;have h:a≠p:=by
  rintro rfl;exact hb (M3 g2)
 have q:=r.obj g1 g2;cases o with
 |lst ws=>let⟨vs,e,t⟩:=q;exact⟨vs,(ai h).trans e,j t⟩
 |ins c A=>let⟨dx,g,e,t⟩:=q;exact⟨dx,g,(ai h).trans e,I t⟩
 |set ks=>let⟨S,e,t⟩:=q;exact⟨S,(ai h).trans e,t⟩
 |dic A=>let⟨g,e,t⟩:=q;exact⟨g,(ai h).trans e,I t⟩
 |exc c f ws=>
  let⟨R,N,vs,e,M,t,d⟩:=q;refine⟨R,N,vs,(ai h).trans e,M,j t,d.imp id λ ⟨dx,y,d1,d2,B⟩=>⟨dx,y,d1,d2,?_⟩⟩;rw[ai]
  .exact B
  .rintro rfl;rw[k] at B;cases B;exact h3 _ rfl
theorem jX:∀{ks:List Str} {vs:List V},ks.length=vs.length->(ks.map V.str).zip vs=(keyed (ks.zip vs)).map λ a=>(kV a.1,a.2)
 | [],_,_=>rfl
 |_::_,[],h=>by simp at h
 |k::ks,v::vs,h=>by
  have:=jX (ks:=ks) (vs:=vs) (~~~h);show (V.str k,v)::(ks.map V.str).zip vs=(V.str k,v)::(keyed (ks.zip vs)).map λ a=>(kV a.1,a.2);rw[this]
theorem Ei{g:List (Option Expr)}{j:List Expr}{ks:List Str}(h:E4 X pos g j (qY X cl C ks ds))(S:g.all (·.isSome)=true)(hl:g.length=j.length)(h0:g≠[])(Jz:g.length<=15) :
  PE X (.Dict g j pos) (SE X cl (ao C (.fus (.dict ks) (.tup ds)))):=by
 refine PE.imp (yN h S hl h0 Jz) ?_;rintro Y H Q ⟨J,Z,m,w,m',r,l,e,k⟩;erw[bO] at e;let⟨x,m1,T,e⟩:=R.af e;let⟨ws,m2,e2,T⟩:=R.af T;split at T
 .cases T;erw[bX,uX] at e;split at e
  .ext hk;let⟨k1,k2,k3⟩:=hk;cases e;intro p M;let⟨x1,r1⟩:=r.tw M (.dK []);refine nH k1 r1 (l.mono r x1) e2 fun q H2 vs U I q2=>?_;have pb:p∉J:=r.G5 M;have L:H2 p=some (.dK []):=U.keep aq pb 's';have K4:p∉q:=λ z=>by
    let⟨γ,rfl,B⟩:=U.pre;rcases M7.mp z with z | z
    .exact pb z
    .have:=B p z;rw[aq] at this;cases this
   have vl:ks.length=vs.length:=k1.trans q2.length;refine⟨L,keyed (ks.zip vs),?_,by simp[keyed];lia,?_⟩
   .exact jX vl
   .have hn:((ks.zip vs).map (·.1)).Nodup:=by rw[map_fst_zip 'o'];exact k2
    rw[tF (nG hn) 's',nil_append];let⟨r3,kS⟩:=I.other (u':=.dK (keyed (ks.zip vs))) L K4 (by intro _ z;cases z) (by intro _ _ z;cases z);have t:∀{n:Nat} {a:Addr},q[n]?=some a->(q++[p])[n]?=some a:=λ h=>by rw[MI (Mw.mp h).1];exact h
    refine k (q++[p]) _ (.ref p) ⟨?_,λ {b u} O hn _=>?_⟩ ⟨by simp[I.len],?_,λ {n o a} g1 g2=>?_⟩ (.ref (I.last p))
    .let⟨γ,rfl,B⟩:=U.pre;refine⟨γ++[p],by rw[NN],λ a A=>?_⟩;rcases M7.mp A with A | A
     .have z:=B a A
      by_cases e:a=p
      .rw[e];exact M
      .rw[ai e] at z;exact z
     .rw[Nz] at A;rw[A];exact M
    .have nb:b≠p:=au O M;rw[ai nb];exact U.keep (by rw[ai nb];exact O) hn 's'
    .rw[PD];refine⟨I.nd,by simp,λ a A b O=>?_⟩;rw[Nz] at O;subst O;rintro rfl;exact K4 A
    .by_cases N:n<m1.length
     .rw[MI N] at g1;rw[MI (by rw[I.len];exact N)] at g2;exact(r3.obj g1 g2).sub t
     .have:n=m1.length:=by
       have:=(Mw.mp g1).1;simp at this;lia
      subst this;rw[ML (MB _)] at g1;simp at g1;subst g1;rw[I.last p] at g2;cases g2;exact⟨ks.zip vs,aq,(qZ k1 (kS q2)).sub t⟩
  .cases e
 .cases T
end
set_option genInjectivity false in
structure Ci where
 N:List Str
 names:List (Str×NameKind)
 fns:List (Str×(Nat×Nat))
 gl:List (Str×W)
 cs:Cs
 fz:List Pos
def gQ(x:Str):List Str->Option Nat
 | []=>none
 |y::r=>if y=x then some 0 else (gQ x r).map (·+1)
theorem fM{x:Str}:∀{N:List Str} {i:Nat},gQ x N=some i->N[i]?=some x
 | [],_,h=>by cases h
 |y::r,i,h=>by
  unfold gQ at h;split at h
  .ext e;cases h;simp[e]
  .erw[Mt] at h;let⟨j,a,rfl⟩:=h;simpa using fM a
def kY:List (Str×B):=[("len",.len),("abs",.abs),("max",.max),("min",.min),("divmod",.divmod),("all",.all)
 ,("any",.any)
 ,("list",.list),("tuple",.tuple),("int",.int),("sorted",.sorted),("repr",.repr)
 ]
def wI:List (Str×String):=[("int","int"),("bool","bool"),("str","str"),("list","list"),("tuple","tuple"),("dict","dict")]
def gm:List Str:=["len","abs","max","min","divmod","all","any","list","tuple","int","bool","str","dict","isinstance","range","enumerate","zip","sorted","set","repr","sum","reversed"]
def q8:List (Str×(String×String)):=[("append",("append","list.append"))
 ,("index",("lindex","list.index"))
 ,("add",("add","set.add"))
 ,("count",("count","list.count"))
 ,("count",("tcount","tuple.count"))
 ,("endswith",("endswith","str.endswith"))
 ,("split",("split","str.split"))
 ]
def kZ(a:List Pos)(o:Expr)(m:Str):Option (String×String):=
 if m="count"/\a.contains o.pos=true then some ("tcount","tuple.count") else
 q8.lookup m
def By:Expr->Option (Str×Pos)
 |.Name x p=>some (x,p)
 |_=>none
def II:Expr->Option (List Expr)
 |.Tuple es _ _=>some es
 |_=>none
theorem gn{x:Str}(h:By e=some (x,p)):e=.Name x p:=by
 unfold By at h;split at h
 .cases h;rfl
 .cases h
theorem wJ(h:II e=some es):∃k p,e=.Tuple es k p:=by
 unfold II at h;split at h
 .cases h;exact⟨_,_,rfl⟩
 .cases h
def noStar:Expr->Bool
 |.Starred ..=>false
 |_=>true
def isSlice:Expr->Bool
 |.Slice ..=>true
 |_=>false
def isSet:Expr->Bool
 |.Set ..=>true
 |_=>false
def gp:Expr->Bool
 |.ListComp ..=>true
 |.SetComp ..=>true
 |.DictComp ..=>true
 |_=>false
def dG:Expr->Bool
 |.Call (.Name _ _) [] [] _=>true
 |_=>false
def zK:Expr->Bool
 |.Call ..=>true
 |.ListComp ..=>true
 |.List ..=>true
 |.BinOp ..=>true
 |.Subscript ..=>true
 |_=>false
def wz(c:Ci)(e:Expr)(d:E):E:=if zK e&&c.fz.contains e.pos then .frz d else d
def q9:Expr->Bool
 |.Name ..=>true
 |_=>false
def i6:Expr->Bool
 |.Tuple ..=>true
 |.List ..=>true
 |_=>false
def isIt:E->Bool
 |.rng _=>true
 |.rng2 _ _=>true
 |.enm _=>true
 |.zip _=>true
 |_=>false
def special(x:Str):Bool:=x=="__debug__"||x=="__classdict__"||x=="__name__"
def gR(f:Expr->Option E):List Expr->Option Es
 | []=>some .nil
 |e::es=>if noStar e then match f e with
  |none=>none
  |some d=>match gR f es with
   |none=>none
   |some ds=>some (.cons d ds) else none
def E7(f:Expr->Option E)(a:BoolOp):List Expr->Option E
 | []=>none
 | [e]=>f e
 |e::r=>match f e with
  |none=>none
  |some d=>match E7 f a r with
   |none=>none
   |some ds=>match a with
    |.And=>some (.and d ds)
    |.Or=>some (.or d ds)
def cO(f:Expr->Option E):Option Expr->Option Oe
 |none=>some .none
 |some e=>(f e).map .some
def jY(c:Ci)(x:Str):Option E:=if special x then none else match c.names.lookup x with
 |some .local=>(gQ x c.N).map .var
 |some .cell=>(gQ x c.N).map .var
 |some .free=>(gQ x c.N).map .var
 |some .globalImplicit=>(c.gl.lookup x).map .cst
 |_=>none
def cW(c:Ci)(x:Str):Option Nat:=match c.names.lookup x with
 |some .local=>gQ x c.N
 |some .cell=>gQ x c.N
 |_=>none
def IJ(f:Expr->Option T):List Expr->Option Ts
 | []=>some .nil
 |e::es=>if noStar e then match f e with
  |none=>none
  |some d=>match IJ f es with
   |none=>none
   |some ds=>some (.cons d ds) else none
def cT:Nat->Ci->Expr->Option T
 |0,_,_=>none
 |n+1,c,e=>match e with
  |.Name x _=>(cW c x).map .var
  |.Tuple es _ _=>(IJ (cT n c) es).map .tup
  |_=>none
def cI(f:Expr->Option E)(c:Ci)(tg e:Expr):Option E:=match e with
 |.Call (.Name x _) args g _=>if g.isEmpty&&c.names.lookup x==some .globalImplicit&&(c.fns.lookup x).isNone&&!special x then
   if x="range" then match args with
    | [a]=>if noStar a then (f a).map .rng else none
    |_=>none
   else if x="enumerate" then match tg,args with
    |.Tuple _ _ _,[a]=>if noStar a then (f a).map .enm else none
    |_,_=>none
   else match f e with
    |some d=>if isIt d then none else some d
    |none=>none
  else match f e with
   |some d=>if isIt d then none else some d
   |none=>none
 |e=>match f e with
  |some d=>if isIt d then none else some d
  |none=>none
def wK(f:Expr->Option E):List Expr->Option Es
 | []=>some .nil
 | [e]=>(f e).map λ d=>.cons d .nil
 |_=>none
def BA(f:Expr->Option E)(n:Nat)(c:Ci)(elt:Expr):List Comprehension->Option G
 | []=>(f elt).map .elt
 |⟨tg,it,ifs,as⟩::gs=>if as=0/\isSet it=false then match cT n c tg,cI f c tg it,wK f ifs,BA f n c elt gs with
  |some t,some d,some ds,some g=>some (.gen t [] d ds g)
  |_,_,_,_=>none else none
def nJ(N:List Str)(names:List (Str×NameKind)):List Nat:=(N.zipIdx.filter λ p=>names.lookup p.1==some .local||names.lookup p.1==some .cell).map (·.2)
def pH(N:List Str)(scope:Scope)(a:List (Str×NameKind)):Bool:=
 decide (scope.kind=.function)&&scope.names.all λ y=>(decide (y.2≠.cell)||decide (scope.names.lookup y.1=some .cell))&&(decide (y.2≠.local)||decide (scope.names.lookup y.1=some .local))&&(decide (y.2≠.free)||decide (a.lookup y.1=some .cell)||decide (a.lookup y.1=some .free))
def pI(x:Str)(args:List Expr):Option Expr:=if x="len" then match args with
  | [.Call (.Name y _) [a] [] _]=>if y="set" then some a else none
  |_=>none else none
def zL(c:Ci)(e:Expr):Option (List (Str×W)):=match e with
 |.Name x _=>if special x then none else if c.names.lookup x=some .globalImplicit then c.cs.dic.lookup x else none
 |_=>none
def jZ:List (Option Expr)->Option (List Str)
 | []=>some []
 |e::r=>match e with
  |some (.Constant (.str k) _ _)=>(jZ r).map (k::·)
  |_=>none
def HK(g:CmpOp)(a:List (Str×W))(d:Option E):Option E:=match g with
 |.NotIn=>d.map (.fus (.knin a))
 |_=>none
def cE:Nat->Ci->Expr->Option E
 |0,_,_=>none
 |n+1,c,e=>Option.map (wz c e) <| match e with
  |.Name x _=>jY c x
  |.Constant k _ _=>match k with
   |.int i=>some (.cst (.int i))
   |.bool b=>some (.cst (.bl b))
   |.none=>some (.cst .non)
   |.str x=>some (.cst (.str x))
   |_=>none
  |.BinOp a op b _=>match cE n c a,cE n c b with
   |some d,some d'=>some (.bin op d d')
   |_,_=>none
  |.UnaryOp op a _=>match op with
   |.USub=>(cE n c a).map .neg
   |.Not=>(cE n c a).map .not
   |_=>none
  |.BoolOp op vs _=>E7 (cE n c) op vs
  |.Compare a ops bs _=>match ops,bs with
   | [op],[b]=>if behindInMarks op b then none else
    match zL c b with
    |some j=>HK op j (cE n c a)
    |none=>
    match cE n c a,cE n c b with
     |some d,some d'=>some (.cmp op d d')
     |_,_=>none
   | [B,A],[b,I]=>if lastMarks [B,A] [b,I] then none else match cE n c a,cE n c b,cE n c I with
    |some d,some d',some q=>some (.chain B A d d' q)
    |_,_,_=>none
   |_,_=>none
  |.IfExp t a b _=>match cE n c t,cE n c a,cE n c b with
   |some d,some d',some q=>some (.ife d d' q)
   |_,_,_=>none
  |.Tuple es _ _=>(gR (cE n c) es).map .tup
  |.List es _=>(gR (cE n c) es).map .lst
  |.Subscript a s _=>match s with
   |.Slice lo hi st _=>match st with
    |none=>match cE n c a,cO (cE n c) lo,cO (cE n c) hi with
     |some d,some l,some h=>some (.slc d l h)
     |_,_,_=>none
    |some _=>none
   |s=>if isSlice s then none else
    match zL c a with
    |some j=>(cE n c s).map (.fus (.kget j))
    |none=>
    match cE n c a,cE n c s with
     |some d,some d'=>some (.idx d d')
     |_,_=>none
  |.Dict keys values _=>if keys.length=values.length/\keys.length<=15/\keys≠[] then match jZ keys with
    |some ks=>(gR (cE n c) values).map λ ds=>.fus (.dict ks) (.tup ds)
    |none=>none
   else none
  |.Call f args z pos=>if z.isEmpty then match f with
    |.Name x _=>if special x then none else if c.names.lookup x=some .globalImplicit then match c.fns.lookup x with
      |some (i,np)=>match args with
       | []=>if np=0 then some (.call i .nil) else none
       |a::r=>if args.length=np then (gR (cE n c) (a::r)).map (.call i) else none
      |none=>match c.cs.ini.lookup x with
       |some _=>none
       |none=>if x="set" then match args with
        | []=>some .set0
        |_=>none
       else
       match pI x args with
       |some a=>if noStar a&&c.names.lookup ("set":Str)==some .globalImplicit&&(c.fns.lookup ("set":Str)).isNone then (cE n c a).map (.fus .sj) else none
       |none=>
       match kY.lookup x with
       |some b=>match args with
        | []=>none
        |a::r=>(gR (cE n c) (a::r)).map (.blt b)
       |none=>if x="isinstance" then match args with
         | [a,.Name t _]=>if special t then none else if noStar a&&c.names.lookup t==some .globalImplicit then
          match wI.lookup t,cE n c a with
          |some L,some d=>some (.isI d L)
          |_,_=>none else none
         |_=>none
        else none
     else none
    |.Attribute o m apos=>if dG o then none else if (apos.endLine==pos.line) then match kZ c.fz o m,cE n c o with
      |some (nm,_),some d=>if args.length<20 then (gR (cE n c) args).map (.meth d nm) else none
      |none,some d=>if args.length<20 then (gR (cE n c) args).map (.mth d m) else none
      |_,_=>none
     else none
    |_=>none
   else none
  |.Attribute o f _=>if dG o||!(c.cs.flds.any λ y=>y.2==f) then none else (cE n c o).map λ d=>.fld d f
  |.ListComp elt gens scope _=>match gens with
   | []=>none
   |⟨tg,it,ifs,as⟩::gs=>
    let u:Ci:={c with names:=scope.names}
    if as=0/\isSet it=false/\pH c.N scope c.names=true then match cT n u tg,cI (cE n c) c tg it,wK (cE n u) ifs,BA (cE n u) n u elt gs with
     |some t,some d,some ds,some g=>some (.comp (.gen t (nJ c.N scope.names) d ds g))
     |_,_,_,_=>none
    else none
  |_=>none
def IK(f:Expr->Option A):List Expr->Option As
 | []=>some .nil
 |e::es=>if noStar e then match f e with
  |none=>none
  |some d=>match IK f es with
   |none=>none
   |some ds=>some (.cons d ds) else none
def cA:Nat->Ci->Expr->Option A
 |0,_,_=>none
 |n+1,c,e=>match e with
  |.Name x _=>(cW c x).map λ i=>.pt (.var i)
  |.Tuple es _ _=>(IK (cA n c) es).map .tup
  |.Subscript o i _=>if isSlice i then none else match cE n c o,cE n c i with
   |some d,some d'=>some (.sub d d')
   |_,_=>none
  |_=>none
def lO(f:Stmt->Option S):List Stmt->Option Ss
 | []=>some .nil
 |s::r=>match f s with
  |none=>none
  |some d=>match lO f r with
   |none=>none
   |some ds=>some (.cons d ds)
def pairOf(t v:Expr):Option (Str×Pos×Str×Pos×Expr×Expr):=match II t,II v with
 |some l,some r=>match l,r with
  | [x,y],[a,b]=>match By x,By y with
   |some (x,px),some (y,py)=>some (x,px,y,py,a,b)
   |_,_=>none
  |_,_=>none
 |_,_=>none
def Ej(n:Nat)(c:Ci)(tg v:Expr):Option S:=if (i6 tg&&i6 v)||q9 tg||!noStar tg then none else match cA n c tg,cE n c v with
 |some t,some d=>some (.asg t d)
 |_,_=>none
def Ek(n:Nat)(c:Ci)(tg v:Expr):Option S:=match tg with
 |.Name x _=>match cW c x,cE n c v with
  |some i,some d=>some (.asg (.pt (.var i)) d)
  |_,_=>none
 |.Attribute o f _=>match cE n c o,cE n c v with
  |some d,some g=>some (.fas d f g)
  |_,_=>none
 |tg=>
  match pairOf tg v with
  |some (x,px,y,py,a,b)=>if px.line==py.line&&c.names.lookup x==some .local&&c.names.lookup y==some .local&&x != y&&noStar a&&noStar b&&!([a,b].all (foldedForSure 8))&&!([a,b].all (constantsAlone 8)) then
    match cW c x,cW c y,cE n c a,cE n c b with
    |some i,some j,some d,some g=>some (.asg (.pt (.tup %[.var i,|.var j])) (.tup %[d,|g]))
    |_,_,_,_=>none else
    none
  |none=>
  Ej n c tg v
def cS:Nat->Ci->Stmt->Option S
 |0,_,_=>none
 |n+1,c,s=>match s with
  |.Assign ts v _=>match ts with
   | [t]=>Ek n c t v
   |_=>none
  |.AugAssign t op v _=>match t with
   |.Name x _=>if op=.Add\/op=.Sub then match cW c x,cE n c v with
    |some i,some d=>some (.aug i op d)
    |_,_=>none else none
   |_=>none
  |.Expr v _=>if gp v then none else (cE n c v).map .expr
  |.Return o _=>match o with
   |some v=>(cE n c v).map .ret
   |none=>some .retN
  |.If t a b _=>match cE n c t,lO (cS n c) a,lO (cS n c) b with
   |some d,some x,some y=>some (.ife d x y)
   |_,_,_=>none
  |.For tg it body g _=>match g with
   | []=>if isSet it then none else match cT n c tg,cI (cE n c) c tg it,lO (cS n c) body with
    |some t,some d,some x=>some (.for_ t d x)
    |_,_,_=>none
   |_=>none
  |.While t body g _=>match g with
   | []=>match cE n c t,lO (cS n c) body with
    |some d,some x=>some (.while_ d x)
    |_,_=>none
   |_=>none
  |.Pass _=>some .pass
  |.Break _=>some .brk
  |.Continue _=>some .cont
  |.Raise _ _ _=>some .never
  |_=>none
structure Ok(X:L2.Cx)(cl:Cl)(C:D.Cx)(c:Ci):Prop where
 N:X.N=c.N
 nd:c.N.Nodup
 vis:∀{x:Str} {k:NameKind},c.names.lookup x=some k->(k=.local\/k=.cell\/k=.free)->yg X.env.scope x
 loc:∀{x:Str} {k:NameKind},c.names.lookup x=some k->(k=.local\/k=.cell)->L2.Loc X.env.scope x/\(X.fn x=true\/X.env.scope.names.lookup x=some .local)
 cel:∀{x:Str},(c.names.lookup x=some .cell\/c.names.lookup x=some .free)->X.env.scope.names.lookup x=some .cell\/X.env.scope.names.lookup x=some .free
 glb:∀{x:Str},c.names.lookup x=some .globalImplicit->Gl X x
 calm:X.calm=true
 units:UN X cl
 hand:X.A.handled=none
 blt:∀x∈gm,X.mg x=none
 fn:∀{x:Str} {i np:Nat},c.fns.lookup x=some (i,np)->∃(k:Nat) (fa:Addr) (fd:FuncData) (ps:List Str),ps.length=np/\aS k X.A/\X.mg x=some (.ref fa)/\PySem.W.keepIn X.K (.ref fa)=true/\Binds X.K fd ps []/\aY X.prog X.w X.K X.mg X.base (tY X.prog X.w) k fa fd ps (qR X.K cl ps.length (C.call i))
 gl:∀{x:Str} {w:W},c.gl.lookup x=some w->∃u v,X.mg x=some u/\RelV v u/\∀J H,RW X.K J H w v
 cs:c.cs=C.cs
 fld:∀{d f:Str},C.cs.flds.contains (d,f)=true->sd X.K (ah X.K d)/\dP X.K (ah X.K d) f
 mth:∀{d f:Str} {i:Nat},C.cs.mths.lookup (d,f)=some i->Bx X cl C d f i
 ini:∀{d:Str} {i:Nat},C.cs.ini.lookup d=some i->HJ X cl C d i
 dic:∀{x:Str} {kvs:List (Str×W)},C.cs.dic.lookup x=some kvs->TopK X.K X.w X.mg x kvs
 isc:∀{x:Str},C.cs.isc.contains x=true->X.mg x=some (.ref (ah X.K x))/\DI X.K (ah X.K x)
section
variable{env:Env}
theorem az(h:noStar e=true):starEach (e::es) env=(false,eval e env)::starEach es env:=by
 cases e<;>first | rfl | cases h
theorem bP:∀{es:List Expr} {ds:Es},gR f es=some ds->(backTo pos (starEach es env)).any (·.1)=false
 | [],_,_=>rfl
 |e::es,ds,h=>by
  unfold gR at h;split at h
  .ext a;split at h
   .cases h
   .split at h
    .cases h
    .ext j g;rw[az a];show ((false||(backTo pos (starEach es env)).any (·.1)))=false;rw[bP g];rfl
  .cases h
theorem lg:∀{es:List Expr} {ds:Es},gR f es=some ds->(backTo pos (starEach es env)).all (λ x=>!x.1)=true
 | [],_,_=>rfl
 |e::es,ds,h=>by
  unfold gR at h;split at h
  .ext a;split at h
   .cases h
   .split at h
    .cases h
    .ext j g;rw[az a];show ((true&&(backTo pos (starEach es env)).all (λ x=>!x.1)))=true;rw[lg g];rfl
  .cases h
theorem ee(h:gR f (e::es)=some ds):noStar e=true/\∃d a,f e=some d/\gR f es=some a/\ds=.cons d a:=by
 unfold gR at h;split at h
 .ext g;split at h
  .cases h
  .ext d k;split at h
   .cases h
   .ext a j;cases h;exact⟨g,d,a,k,j,rfl⟩
 .cases h
theorem fN(h:noStar e=true):assignEach (e::es) env=(false,assign e env)::assignEach es env:=by
 cases e<;>first | rfl | cases h
theorem rj(h:isSlice b=false):gX b:=by
 intro o i;cases b<;>first | rfl | cases h
theorem fO{m:Str}(h:dG o=false):attributeBase o m env (eval o env)=eval o env:=by
 unfold attributeBase;split
 .cases h
 .rfl
theorem lq(h:isSet e=false)(x:Value):foldedSetIterable e env x=pure x:=by
 cases e<;>first | rfl | cases h
theorem eG{v:Expr}{t:Option Expr}{l:Nat}(h:gp v=false):swapsWith v t l env=pure false:=by
 cases v<;>first | rfl | cases h
def Es.len:Es->Nat
 |.nil=>0
 |.cons _ r=>r.len+1
theorem rm:∀{es:List Expr} {ds:Es},gR f es=some ds->ds.len=es.length
 | [],_,h=>by cases h;rfl
 |e::es,ds,h=>by
  let⟨_,d,a,_,g,rfl⟩:=ee h;show a.len+1=_;rw[rm g];rfl
theorem nK:∀{ds:Es} {Z:Loc} {m m':Mem} {ws:List W},aH C ds Z m=.ok ws m'->ws.length=ds.len
 |.nil,_,_,_,_,h=>by erw[bW] at h;cases h;rfl
 |.cons d ds,_,_,_,_,h=>by
  erw[bW] at h;let⟨w,m1,g,h⟩:=R.af h;let⟨ws,m2,a,h⟩:=R.af h;cases h;rw[MX,nK a];rfl
end
theorem lookup_mem{J:Type}{x:Str}{b:J}:∀{l:List (Str×J)},l.lookup x=some b->(x,b)∈l:=λ {l} h=>MY h
theorem j0{x:Str}{b:B}(h:kY.lookup x=some b):x∈gm/\((∃id,vO b=.builtin id/\bootBuiltins x=@(.builtin id))\/∃id,vO b=.type id/\bootBuiltins x=@(.type id)):=by
 have a:=lookup_mem h;erw[kY,Nq,Qf,MU,Nr] at a;rcases a with⟨rfl,rfl⟩ | ⟨rfl,rfl⟩ | ⟨rfl,rfl⟩ | ⟨rfl,rfl⟩ | ⟨rfl,rfl⟩ | ⟨rfl,rfl⟩ | ⟨rfl,rfl⟩ | ⟨rfl,rfl⟩ | ⟨rfl,rfl⟩ | ⟨rfl,rfl⟩ | ⟨rfl,rfl⟩
  |⟨rfl,rfl⟩
 all_goals first
  |exact⟨by decide +kernel,.inl ⟨_,rfl,by decide +kernel⟩⟩
  |exact⟨by decide +kernel,.inr ⟨_,rfl,by decide +kernel⟩⟩
theorem wL{x:Str}{b:String}(h:wI.lookup x=some b):x∈gm/\b∈bg/\bootBuiltins x=some (.type b):=by
 have a:=lookup_mem h;erw[wI,Nq,Qf,MU,Nr] at a;rcases a with⟨rfl,rfl⟩ | ⟨rfl,rfl⟩ | ⟨rfl,rfl⟩ | ⟨rfl,rfl⟩ | ⟨rfl,rfl⟩ | ⟨rfl,rfl⟩
 all_goals exact⟨by decide +kernel,by decide,by decide +kernel⟩
theorem pJ{g:List Pos}{m:Str}{y:String×String}(h:kZ g o m=some y):(m,y)∈q8:=by
 unfold kZ at h
 by_cases a:m="count"/\g.contains o.pos=true
 .rw[MO a] at h;cases h;rw[a.1];simp[q8]
 rw[MN a] at h;exact lookup_mem h
theorem wM{X:L2.Cx}{cl:Cl}(j:UN X cl){k:List Pos}{m:Str}{a:String}(h:kZ k o m=some (a,id)):PlainAttrs (Hs (sN a))/\Slot (Hs (sN a)) m id/\typeOf (.builtin id)=pure (.type "method_descriptor")/\ya X id (SM X cl a):=by
 have g:=pJ h;erw[q8,Nq,Qf,MU,Nr] at g;rcases g with⟨rfl,rfl,rfl⟩
  |⟨rfl,rfl,rfl⟩
  |⟨rfl,rfl,rfl⟩
  |⟨rfl,rfl,rfl⟩
  |⟨rfl,rfl,rfl⟩
  |⟨rfl,rfl,rfl⟩
  |⟨rfl,rfl,rfl⟩
 .exact⟨Oz,PySem.F.slot_list_append,PySem.F.type_list_append,tD⟩
 .exact⟨Oz,PySem.F.slot_list_index,PySem.F.type_list_index,tB⟩
 .exact⟨PySem.F.plainAttrs_set,PySem.F.slot_set_add,PySem.F.type_set_add,DN j⟩
 .exact⟨Oz,PySem.F.slot_list_count,PySem.F.type_list_count,vY⟩
 .exact⟨PySem.F.plainAttrs_tuple,PySem.F.slot_tuple_count,PySem.F.type_tuple_count,tE⟩
 .exact⟨PJ,PySem.F.slot_str_endswith,PySem.F.type_str_endswith,zo⟩
 .exact⟨PJ,PySem.F.slot_str_split,PySem.F.type_str_split,vZ⟩
theorem aE{x:Str}(h:special x=false):(x==("__debug__":Str))=false/\(x==("__classdict__":Str))=false/\x≠"__name__":=by
 unfold special at h;erw[Bool.or_eq_false_iff] at h;exact⟨h.1.1,h.1.2,~~~h.2⟩
section
variable{X:L2.Cx}{cl:Cl}{C:D.Cx}{c:Ci}
theorem Ok.slot(o:Ok X cl C c){x:Str}(h:gQ x c.N=some i):X.N[i]?=some x:=by rw[o.N];exact fM h
theorem zM(o:Ok X cl C c){x:Str}(h:jY c x=some d):PE X (.Name x pos) (SE X cl (ao C d))/\∀Z m,aR C d Z m=(ao C d Z m).bind λ w m=>D.truthy m w:=by
 unfold jY at h;split at h
 .cases h
 .ext q;let⟨j,k,r⟩:=aE (~~~q);split at h
  .ext a;erw[Mt] at h;let⟨i,g,rfl⟩:=h;exact⟨jR (o.slot g) (o.vis a (.inl rfl)) j k,λ _ _=>rfl⟩
  .ext a;erw[Mt] at h;let⟨i,g,rfl⟩:=h;exact⟨jR (o.slot g) (o.vis a (.inr (.inl rfl))) j k,λ _ _=>rfl⟩
  .ext a;erw[Mt] at h;let⟨i,g,rfl⟩:=h;exact⟨jR (o.slot g) (o.vis a (.inr (.inr rfl))) j k,λ _ _=>rfl⟩
  .ext a;erw[Mt] at h;let⟨w,l,rfl⟩:=h;exact⟨Bg (o.glb a) (o.gl l) j,λ _ _=>rfl⟩
  .cases h
def Tells(X:L2.Cx)(cl:Cl)(C:D.Cx)(e:Expr)(d:E):Prop:=PE X e (SE X cl (ao C d))/\PT X e (ST X cl (aR C d))
theorem aj(h:PE X e (SE X cl (ao C d)))(g:∀a,isTrue e X.env a=(do let v <-a;standAt e.pos;holding [v] (PySem.truthy v)))(j:∀Z m,aR C d Z m=(ao C d Z m).bind λ w m=>D.truthy m w):Tells X cl C e d:=⟨h,Bl h g j⟩
theorem wN(h:Tells X cl C e d):Tells X cl C e (wz c e d):=by
 unfold wz;split
 .ext a;erw[Mz] at a;refine⟨Bw h.1,Bl (Bw h.1) ?_ λ _ _=>rfl⟩;have:=a.1;cases e<;>first | (intro _;rfl) | cases this
 .exact h
theorem cj(a:∀e d,f e=some d->Tells X cl C e d):∀{es:List Expr} {ds:Es},gR f es=some ds->PA X es (SA X cl (aH C ds))
 | [],_,h=>by cases h;exact Bm
 |e::es,ds,h=>by
  let⟨g,d,l,k,j,rfl⟩:=ee h;exact pe (a e d k).1 (cj a j) (az g)
theorem HL(a:∀e d,f e=some d->Tells X cl C e d){e:Option Expr}{d:Oe}(h:cO f e=some d):PO X e (E6 X cl (vd C d)):=by
 cases e with
 |none=>cases h;exact DF
 |some e=>
  erw[cO,Mt] at h;let⟨j,g,rfl⟩:=h;exact DG (a e j g).1
theorem rq{f:Expr->Option E}(g:∀e d,f e=some d->Tells X cl C e d){a:BoolOp}{pos:Pos}:∀{es:List Expr} {d:E},E7 f a es=some d->PE X (.BoolOp a es pos) (SE X cl (ao C d))/\PW X (.BoolOp a es pos) (ST X cl (aR C d))
 | [],_,h=>by cases h
 | [e],d,h=>by
  have q:=g e d h;cases a with
  |And=>exact⟨ue q.1,yh q.2⟩
  |Or=>exact⟨ue q.1,Cb q.2⟩
 |e::A::r,d,h=>by
  unfold E7 at h;split at h
  .cases h
  .ext z x;split at h
   .cases h
   .ext B u;let⟨k,j⟩:=rq (pos:=pos) g u;let⟨t,l⟩:=g e z x;cases a with
    |And=>cases h;exact⟨Hh t k,w_and l j⟩
    |Or=>cases h;exact⟨JT t k,w_or l j⟩
theorem zN{a T:Expr}{dc:E}{A t:CmpOp}(hu:UN X cl)(ha:PE X a (SE X cl (ao C da)))(hb:PE X b (SE X cl (ao C db)))(g:PE X T (SE X cl (ao C dc)))(hm:lastMarks [A,t] [b,T]=false) :
  PT X (.Compare a [A,t] [b,T] pos) (ST X cl (aR C (.chain A t da db dc))):=by
 refine PT.imp (uw (gj (cl:=cl) hu A) (gj (cl:=cl) hu t) ha hb g hm) ?_;rintro Y H Q ⟨J,Z,m,w,m',r,l,e,k⟩;erw[eB] at e;let⟨x,m1,e1,e⟩:=R.af e;let⟨y,m2,e2,e⟩:=R.af e;let⟨z,m3,e3,e⟩:=R.af e;refine⟨J,Z,m,x,m1,r,l,e1,fun M H1 v1 S q q1=>?_⟩;refine⟨M,Z,m1,y,m2,q,l.mono r S,e2,fun L H2 v2 O j q2=>?_⟩;have l2:=(l.mono r S).mono q O;refine⟨L,m2,x,y,.bl z,m3,j,q1.mono q O,q2,by rw[e3];rfl,fun I H3 v3 N h q3=>?_⟩;cases q3;refine⟨z,rfl,?_⟩;have Hj:=(S.trans q O).trans j N;split at e
 .ext g;rw[MO g];let⟨u,m4,e4,e⟩:=R.af e;refine⟨I,Z,m3,u,m4,h,l2.mono j N,e4,fun B H4 v4 U r4 q4=>?_⟩;refine⟨B,m4,y,u,.bl w,m',r4,(q2.mono j N).mono h U,q4,by rw[e];rfl,fun β5 H5 v5 x5 r5 q5=>?_⟩;cases q5;exact⟨_,rfl,k _ _ ((Hj.trans h U).trans r4 x5) r5⟩
 .ext g;rw[MN g];cases e;exact⟨_,rfl,k _ _ Hj h⟩
theorem HM{t a:Expr}{O:E}(T:PT X t (ST X cl (aR C O)))(ha:PT X a (ST X cl (aR C da)))(hb:PT X b (ST X cl (aR C db))):PT X (.IfExp t a b pos) (ST X cl (aR C (.ife O da db))):=by
 intro aa s Y H Q I h;let⟨J,Z,m,w,m',r,l,e,k⟩:=h;erw[jI] at e;let⟨x,A,e1,e⟩:=R.af e;show wpAny _ _ (isTrue t X.env (eval t X.env) >>= λ z=>if z=true then isTrue a X.env (eval a X.env) else isTrue b X.env (eval b X.env)) _ _ s;refine Mu (aJ (T aa s Y H (λ c u=>c=x/\∃g,Ext J H g u/\Rel X.K cl g A u) I ⟨J,Z,m,x,A,r,l,e1,fun g u j q=>⟨rfl,g,j,q⟩⟩) λ c N ⟨u,S,U,g,j,q⟩=>?_);subst U;cases c with
 |true=>exact ha aa N Y u Q S ⟨g,Z,A,w,m',q,l.mono r j,e,fun B H2 L M=>k _ _ (j.trans q L) M⟩
 |false=>exact hb aa N Y u Q S ⟨g,Z,A,w,m',q,l.mono r j,e,fun B H2 L M=>k _ _ (j.trans q L) M⟩
end
section
variable{X:L2.Cx}{cl:Cl}{C:D.Cx}{c:Ci}
theorem ck(o:Ok X cl C c){x:Str}(h:cW c x=some i):X.N[i]?=some x/\L2.Loc X.env.scope x/\(X.fn x=true\/X.env.scope.names.lookup x=some .local):=by
 unfold cW at h;split at h
 .ext a;exact⟨o.slot h,o.loc a (.inl rfl)⟩
 .ext a;exact⟨o.slot h,o.loc a (.inr rfl)⟩
 .cases h
theorem BB(o:Ok X cl C c):X.N.Nodup:=by rw[o.N];exact o.nd
theorem BC{f:Expr->Option T}(g:∀e t,f e=some t->PG X e (SG X cl (cN C (.pt t)))):∀{es:List Expr} {ts:Ts},IJ f es=some ts->
  n5 X es (DQ X cl (cJ C (T.pC ts)))/\(assignEach es X.env).length=(T.pC ts).len/\(assignEach es X.env).findIdx? (·.1)=none
 | [],_,h=>by cases h;exact⟨wm,rfl,rfl⟩
 |e::es,ts,h=>by
  unfold IJ at h;split at h
  .ext q;split at h
   .cases h
   .ext d u;split at h
    .cases h
    .ext ds r;cases h;let⟨l,k,j⟩:=BC g r;have a:=fN (env:=X.env) (es:=es) q;refine⟨qU (g e d u) l (by rw[a];rfl),?_,?_⟩
     .rw[a,MX,k];rfl
     .rw[a,findIdx?_cons];simp[j]
  .cases h
theorem nL(o:Ok X cl C c):∀(n:Nat) (e:Expr) (t:T),cT n c e=some t->PG X e (SG X cl (cN C (.pt t)))
 |0,_,_,h=>by cases h
 |n+1,e,t,h=>by
  unfold cT at h;split at h
  .erw[Mt] at h;let⟨i,a,rfl⟩:=h;let⟨r,q,l⟩:=ck o a;exact Br (BB o) r q l
  .erw[Mt] at h;let⟨ts,a,rfl⟩:=h;let⟨k,j,g⟩:=BC (λ e t h=>nL o n e t h) a;exact DY (Bs o.calm k j g)
  .cases h
theorem tK{x:Str}{args:List Expr}{a:Expr}(h:pI x args=some a):∃py g,x="len"/\args=[.Call (.Name "set" py) [a] [] g]:=by
 unfold pI at h;split at h
 .ext k;split at h
  .split at h
   .ext j;cases h;subst k j;exact⟨_,_,rfl,rfl⟩
   .cases h
  .cases h
 .cases h
theorem wO(h:isIt d=false):∀Z m,gE C d Z m=(ao C d Z m).bind GV:=by
 intro Z m;cases d<;>first | (simp[isIt] at h;done) | rfl
theorem ly(a:∀e d,f e=some d->Tells X cl C e d)(h:(match f e with | some d=>if isIt d=true then none else some d | none=>none)=some d):PI X tg e (SI X cl (gE C d)):=by
 split at h
 .ext k j;split at h
  .cases h
  .ext g;cases h;exact Ht (a _ _ j).1 (wO (~~~g))
 .cases h
theorem rA(o:Ok X cl C c)(a:∀e d,f e=some d->Tells X cl C e d)(h:cI f c tg e=some d):PI X tg e (SI X cl (gE C d)):=by
 unfold cI at h;split at h
 .ext x p u z pos;split at h
  .ext t;erw[Mz,MZ,isEmpty_iff] at t;let⟨⟨⟨q,g⟩,B⟩,A⟩:=t;subst q;split at h
   .ext j;subst j;have l:=o.blt "range" 'k';split at h
    .split at h
     .ext k;erw[Mt] at h;let⟨I,r,rfl⟩:=h;exact Hu (o.glb g) l (a _ _ r).1 (az k)
     .cases h
    .cases h
   .split at h
    .ext j;subst j;have l:=o.blt "enumerate" 'k';split at h
     .split at h
      .ext k;erw[Mt] at h;let⟨I,r,rfl⟩:=h;exact Hv (o.glb g) l (a _ _ r).1 (az k)
      .cases h
     .cases h
    .
      exact ly a h
  .exact ly a h
 .exact ly a h
theorem rB(a:∀e d,f e=some d->Tells X cl C e d)(h:wK f es=some ds):iz X es (ST X cl (aX C ds)):=by
 unfold wK at h;split at h
 .cases h;exact zH
 .erw[Mt] at h;let⟨d,g,rfl⟩:=h;exact zI (a _ _ g).2
 .cases h
theorem i7{gs:List Comprehension}{g:G}(h:BA f n c elt gs=some g):∀g',gs[0]?=some g'->g'.is_async=0/\∀(env:Env) x,foldedSetIterable g'.iter env x=pure x:=by
 intro g' a;cases gs with
 |nil=>simp at a
 |cons k gs=>
  simp at a;subst a;let⟨tg,it,ifs,l⟩:=k;unfold BA at h;split at h
  .ext j;exact⟨j.1,λ env x=>lq j.2 x⟩
  .cases h
theorem wQ(o:Ok X cl C c)(k:X.xe=λ _ _=>False)(j:∀e d,f e=some d->Tells X cl C e d){Δ:Addr}:∀{gs:List Comprehension} {g:G} {d0:Nat},BA f n c elt gs=some g->(∀i,gens[d0+1+i]?=gs[i]?)->
  PB X (λ Q s=>bK X.prog X.w X.A (.ListComp elt gens scope pos) elt d0 (.ref Δ) X.env Q gens[d0+1]? s) (SB false X cl Δ (f9 C g))
 | [],g,d0,h,a=>by
  erw[BA,Mt] at h;let⟨d,l,rfl⟩:=h;exact D8 k (by simpa using a 0) (j _ _ l).1
 |⟨tg,it,ifs,as⟩::gs,g,d0,h,a=>by
  unfold BA at h;split at h
  .ext u;split at h
   .ext t d ds g' l B z q;cases h;let⟨rfl,r⟩:=u;have x:=i7 q;refine HB k o.calm (by simpa using a 0) (λ I N=>?_) (rA o j B) (nL o n _ _ l) (rB j z) (wQ o k j (d0:=d0+1) q λ i=>?_)
    .have:=a 1;rw[N] at this;let⟨M,L⟩:=x I (~~~this.symm);exact⟨M,L _⟩
    .have:=a (i+1);rw[show d0+1+1+i=d0+1+(i+1) by lia,this];simp
   .cases h
  .cases h
theorem aF{env:Env}:∀{names:List (Str×NameKind)} {x:Str} {k:NameKind},names.lookup x=some k->
  (names.map λ (n,k)=>if (k==NameKind.free&&env.scope.kind==.function&&env.kindOf n==some .cell) then (n,NameKind.cell) else (n,k)).lookup x=some k\/
  (k=.free/\(names.map λ (n,k)=>if (k==NameKind.free&&env.scope.kind==.function&&env.kindOf n==some .cell) then (n,NameKind.cell) else (n,k)).lookup x=some .cell)
 | [],_,_,h=>by simp at h
 |(n,a)::r,x,k,h=>by
  have l:=@aF env r x k;show List.lookup x ((if (a==NameKind.free&&env.scope.kind==.function&&env.kindOf n==some .cell)=true then (n,NameKind.cell) else (n,a))::(r.map λ (n,k)=>if (k==NameKind.free&&env.scope.kind==.function&&env.kindOf n==some .cell) then (n,NameKind.cell) else (n,k)))=some k\/(k=.free/\List.lookup x ((if (a==NameKind.free&&env.scope.kind==.function&&env.kindOf n==some .cell)=true then (n,NameKind.cell) else (n,a))::(r.map λ (n,k)=>if (k==NameKind.free&&env.scope.kind==.function&&env.kindOf n==some .cell) then (n,NameKind.cell) else (n,k)))=some .cell);cases g:x==n with
  |true=>
   erw[MH,g] at h;cases h
   by_cases j:(a==NameKind.free&&env.scope.kind==.function&&env.kindOf n==some .cell)=true
   .rw[MO j];have q:a=.free:=by
     erw[Mz] at j;simpa using j.1.1
    exact .inr ⟨q,by erw[MH,g]⟩
   .rw[MN j];exact .inl (by erw[MH,g])
  |false=>
   erw[MH,g] at h;have:=l h;split<;>(erw[MH,g];exact this)
theorem Ok.comp(o:Ok X cl C c)(t:pH c.N scope c.names=true):dw X.N (nJ c.N scope.names) scope X.env.scope/\∀q h H₀ B pn,Ok (X.comp scope q h H₀ B pn) cl C {c with names:=scope.names}:=by
 unfold pH at t;erw[Mz,Oj,Ph,Ot] at t;let⟨L,u⟩:=t;refine⟨⟨L,λ y l j=>?_,λ y l j=>?_,λ p A j=>?_,λ y l I=>?_⟩,λ q h H₀ B pn=>⟨o.N,o.nd,λ {x k} a r=>?_,λ {x k} a r=>?_,λ {x} a=>?_,λ {x} a=>?_,o.calm,⟨o.units.un,o.units.P,o.units.w,o.units.gd⟩,o.hand,o.blt,o.fn,o.gl,o.cs,o.fld,o.mth,o.ini,o.dic,o.isc⟩⟩
 .rcases (u y l).1.1 with z | z
  .exact absurd j z
  .exact z
 .rcases (u y l).1.2 with z | z
  .exact absurd j z
  .exact z
 .unfold nJ;rw[o.N] at A;refine Om.mpr ⟨p,OO.mpr ⟨A,by rcases j with j | j<;>simp[j]⟩,rfl⟩
 .rcases (u y l).2 with (z | z) | z
  .exact absurd I z
  .exact o.cel (.inl z)
  .exact o.cel (.inr z)
 .rcases aF (env:=X.env) a with z | ⟨g,z⟩
  .rcases r with rfl | rfl | rfl
   .exact .inl z
   .exact .inr (.inl z)
   .exact .inr (.inr z)
  .exact .inr (.inl z)
 .rcases r with rfl | rfl
  .rcases aF (env:=X.env) a with z | ⟨g,z⟩
   .exact⟨.inl z,.inr z⟩
   .cases g
  .rcases aF (env:=X.env) a with z | ⟨g,z⟩
   .exact⟨.inr z,.inl (~~~a)⟩
   .cases g
 .rcases a with a | a
  .rcases aF (env:=X.env) a with z | ⟨g,z⟩
   .exact .inl z
   .cases g
  .rcases aF (env:=X.env) a with z | ⟨g,z⟩
   .exact .inr z
   .exact .inl z
 .rcases aF (env:=X.env) a with z | ⟨g,z⟩
  .exact z
  .cases g
end
theorem rC{X:L2.Cx}{cl:Cl}{c:Ci}(o:Ok X cl C c){a:List (Str×W)}(h:zL c e=some a):∃x p,e=.Name x p/\TopK X.K X.w X.mg x a/\Gl X x/\(x==("__debug__":Str))=false:=by
 unfold zL at h;split at h
 .ext x p;split at h
  .cases h
  .ext g;split at h
   .ext j;rw[o.cs] at h;exact⟨x,p,rfl,o.dic h,o.glb j,(aE (~~~g)).1⟩
   .cases h
 .cases h
theorem nM:∀{a:List (Option Expr)} {ks:List Str},jZ a=some ks->a.all (·.isSome)=true
 | [],_,_=>rfl
 |e::r,ks,h=>by
  unfold jZ at h;split at h
  .erw[Mt] at h;let⟨g,j,rfl⟩:=h;rw[Pk,nM j];rfl
  .cases h
theorem wR{X:L2.Cx}{cl:Cl}(l:∀e d,f e=some d->PE X e (SE X cl (ao C d))):∀{g:List (Option Expr)} {a:List Expr} {ks:List Str} {ds:Es},jZ g=some ks->gR f a=some ds->g.length=a.length->E4 X pos g a (qY X cl C ks ds)
 | [],[],ks,ds,j,h,_=>by cases j;cases h;exact yM
 | [],_::_,_,_,_,_,k=>by simp at k
 |_::_,[],_,_,_,_,k=>by simp at k
 |e::r,v::vs,ks,ds,j,h,k=>by
  unfold jZ at j;split at j
  .erw[Mt] at j;let⟨q,x,rfl⟩:=j;unfold gR at h;split at h
   .split at h
    .cases h
    .ext d u;split at h
     .cases h
     .ext z t;cases h;exact uI ud (l v d u) (wR l x t (~~~k))
   .cases h
  .cases j
theorem BD{X:L2.Cx}{cl:Cl}{c:Ci}(o:Ok X cl C c){it:Expr}{gs:List Comprehension}{t:T}{q:E}{g:G}
  (l:∀h a H₀ k pn,Ok (X.comp scope h a H₀ k pn) cl C {c with names:=scope.names}) (z:dw X.N (nJ c.N scope.names) scope X.env.scope) (B:∀j,gs[0]?=some j->j.is_async=0/\∀(env:Env) x,foldedSetIterable j.iter env x=pure x)
  (A:∀e d,cE n c e=some d->Tells X cl C e d) (r:∀h a H₀ k pn e d,cE n {c with names:=scope.names} e=some d->Tells (X.comp scope h a H₀ k pn) cl C e d)
  (O:cT n {c with names:=scope.names} tg=some t) (M:cI (cE n c) c tg it=some q) (L:wK (cE n {c with names:=scope.names}) ifs=some ds) (I:BA (cE n {c with names:=scope.names}) n {c with names:=scope.names} elt gs=some g) (u:isSet it=false) :
  CL X cl C elt tg it ifs gs scope pos (nJ c.N scope.names) t q ds g:=
 ⟨o.calm,z,B,rA o A M,λ _ _ _ _ _=>nL (l _ _ _ _ _) n _ _ O,λ _ _ _ _ _=>rB (r _ _ _ _ _) L,
  λ _ _ _ _ _ R=>wQ (l _ _ _ _ _) rfl (r _ _ _ _ _) I λ i=>by simp[Nat.add_comm],λ x=>lq u x⟩
theorem dJ{cl:Cl}:∀(n:Nat) (X:L2.Cx) (c:Ci) (e:Expr) (d:E),Ok X cl C c->cE n c e=some d->Tells X cl C e d
 |0,_,_,_,_,_,h=>by cases h
 |n+1,X,c,e,d,o,h=>by
  have l:∀e d,cE n c e=some d->Tells X cl C e d:=λ e d h=>dJ n X c e d o h;unfold cE at h;erw[Mt] at h;let⟨d,h,rfl⟩:=h;refine wN ?_;split at h
  .
   let⟨q1,q2⟩:=zM o h;exact aj q1 (λ _=>rfl) q2
  .
   split at h
   .cases h;exact aj Bd (λ _=>rfl) λ _ _=>rfl
   .cases h;exact aj Hf (λ _=>rfl) λ _ _=>rfl
   .cases h;exact aj Be (λ _=>rfl) λ _ _=>rfl
   .cases h;exact aj Bf (λ _=>rfl) λ _ _=>rfl
   .cases h
  .
   split at h
   .ext I d2 j A;cases h;exact aj (Bh (l _ _ j).1 (l _ _ A).1) (λ _=>rfl) λ _ _=>rfl
   .cases h
  .
   split at h
   .erw[Mt] at h;let⟨d',j,rfl⟩:=h;exact aj (Hg (l _ _ j).1) (λ _=>rfl) λ _ _=>rfl
   .erw[Mt] at h;let⟨d',j,rfl⟩:=h;exact⟨vD (l _ _ j).1,vF (l _ _ j).2⟩
   .cases h
  .
   let⟨q1,q2⟩:=rq l h;exact⟨q1,q2.pt⟩
  .
   split at h
   .split at h
    .cases h
    .ext S;split at h
     .ext kvs T;let⟨x,p,rfl,hT,L,hd⟩:=rC o T;unfold HK at h;split at h
      .erw[Mt] at h;let⟨I,j,rfl⟩:=h;exact⟨Ef hT L hd (l _ _ j).1,Eg hT L hd (l _ _ j).1⟩
      .cases h
     split at h
     .ext I d2 j A;cases h;exact⟨Bj o.units (l _ _ j).1 (l _ _ A).1 (~~~S),Bk o.units (l _ _ j).1 (l _ _ A).1 (~~~S)⟩
     .cases h
   .split at h
    .cases h
    .ext S;split at h
     .ext I d2 d3 j A U;cases h;have S:=(MT _).mp S;exact⟨zh o.units (l _ _ j).1 (l _ _ A).1 (l _ _ U).1 (uv (gj o.units _) (gj o.units _) (l _ _ j).1 (l _ _ A).1 (l _ _ U).1 S),zN o.units (l _ _ j).1 (l _ _ A).1 (l _ _ U).1 S⟩
     .cases h
   .cases h
  .
   split at h
   .ext I d2 d3 j A U;cases h;exact⟨Hi (l _ _ j).2 (l _ _ A).1 (l _ _ U).1,HM (l _ _ j).2 (l _ _ A).2 (l _ _ U).2⟩
   .cases h
  .
   erw[Mt] at h;let⟨ds,j,rfl⟩:=h;exact aj (Bo (cj l j)) (λ _=>rfl) λ _ _=>rfl
  .erw[Mt] at h;let⟨ds,j,rfl⟩:=h;exact aj (vG (cj l j)) (λ _=>rfl) λ _ _=>rfl
  .
   split at h
   .split at h
    .split at h
     .ext I d2 d3 j A U;cases h;exact aj (Ho (l _ _ j).1 (HL l A) (HL l U)) (λ _=>rfl) λ _ _=>rfl
     .cases h
    .cases h
   .split at h
    .cases h
    .ext hs;split at h
     .ext kvs T;let⟨x,p,rfl,hT,L,hd⟩:=rC o T;erw[Mt] at h;let⟨I,j,rfl⟩:=h;exact aj (Eh hT L hd (l _ _ j).1 (rj ((MT _).mp hs))) (λ _=>rfl) λ _ _=>rfl
     split at h
     .ext I d2 j A;cases h;exact aj (Hl (l _ _ j).1 (l _ _ A).1 (rj ((MT _).mp hs))) (λ _=>rfl) λ _ _=>rfl
     .cases h
  .
   split at h
   .ext hc;split at h
    .ext ks T;erw[Mt] at h;let⟨ds,j,rfl⟩:=h;exact aj (Ei (wR (λ e d h=>(l e d h).1) T j hc.1) (nM T) hc.1 hc.2.2 hc.2.1) (λ _=>rfl) λ _ _=>rfl
    .cases h
   .cases h
  .
   ext f args kws pos;split at h
   .ext T;have T:kws=[]:=by simpa using T
    subst T;split at h
    .ext x p;split at h
     .cases h
     .ext oF;let⟨hs1,hs2,hs3⟩:=aE (~~~oF);split at h
      .ext LC;have L:=o.glb LC;split at h
       .ext i np hf;split at h
        .split at h
         .ext hnp;cases h;let⟨k,fa,fd,ps,e1,e2,e3,e4,e5,e6⟩:=o.fn hf;exact aj (zJ e6 e2 L e3 e4 e5 (by rw[e1];exact hnp) hs1) (λ _=>rfl) λ _ _=>rfl
         .cases h
        .ext a r;split at h
         .ext z;erw[Mt] at h;let⟨ds,j,rfl⟩:=h;let⟨k,fa,fd,ps,e1,e2,e3,e4,e5,e6⟩:=o.fn hf;let⟨u,I,ds1,z1,O,rfl⟩:=ee j;refine aj (s_call e6 e2 L e3 e4 e5 (cj l j) (fun Z m ws m' hw=>?_) hs1 (az u) (bP O)) (λ _=>rfl) λ _ _=>rfl;rw[nK hw,rm j,e1];exact z
         .cases h
       .split at h
        .cases h
        split at h
        .ext pK;subst pK;split at h
         .cases h;exact aj (DP o.units L (o.blt _ 'k')) (λ _=>rfl) λ _ _=>rfl
         .cases h
        split at h
        .ext a hl;split at h
         .ext bQ;erw[Mz,MZ] at bQ;erw[Mt] at h;let⟨I,j,rfl⟩:=h;let⟨py,p2,rfl,rfl⟩:=tK hl;exact aj (Ed o.hand o.units.un L (o.blt _ 'k') (o.glb bQ.1.2) (o.blt _ 'k') (l _ _ j).1 (az bQ.1.1)) (λ _=>rfl) λ _ _=>rfl
         .cases h
        split at h
        .ext b hb;split at h
         .cases h
         .ext a r;erw[Mt] at h;let⟨ds,j,rfl⟩:=h;let⟨u,I,ds1,z1,O,rfl⟩:=ee j;obtain⟨S,⟨id,y1,R⟩ | ⟨id,y1,R⟩⟩:=j0 hb
          .exact aj (vS o.units o.calm o.hand y1 L (o.blt _ S) R (cj l j) hs3 hs1 (az u) (bP O)) (λ _=>rfl) λ _ _=>rfl
          .exact aj (vU o.units o.calm o.hand y1 L (o.blt _ S) R (cj l j) hs3 hs1 (az u) (bP O)) (λ _=>rfl) λ _ _=>rfl
        .split at h
         .ext hx;subst hx;split at h
          .ext a t p2;split at h
           .cases h
           .ext J2;let⟨hq1,hq2,hq3⟩:=aE (~~~J2);split at h
            .ext bQ;erw[Mz,MZ] at bQ;split at h
             .ext tn I y1 R;cases h;let⟨z1,O,z3⟩:=wL y1;exact aj (Hq O L (o.blt _ 'k') (o.glb bQ.2) (o.blt _ z1) z3 (l _ _ R).1 hq3 hq1 (az bQ.1)) (λ _=>rfl) λ _ _=>rfl
             .cases h
            .cases h
          .cases h
         .cases h
      .cases h
    .ext ob mm apos;split at h
     .cases h
     .ext N;split at h
      .ext B;split at h
       .ext nm id I y1 R;split at h
        .ext z;erw[Mt] at h;let⟨ds,j,rfl⟩:=h;let⟨w0,w1,w2,w3⟩:=wM (X:=X) (cl:=cl) o.units y1;have q:=fO (env:=X.env) (m:=mm) (by simpa using N:dG ob=false);cases args with
         |nil=>
          cases j;exact aj (zp rfl w0 w1 w2 w3 (l _ _ R).1 q B) (λ _=>rfl) λ _ _=>rfl
         |cons a r=>
          let⟨u,d2,ds1,z1,O,rfl⟩:=ee j;refine aj (DO rfl w0 w1 w2 w3 (l _ _ R).1 (cj l j) q ?_ B (az u) (bP O)) (λ _=>rfl) λ _ _=>rfl;rw[lg j];have:(a::r).length+0+0<30:=MG z 'd';show (true&&true&&decide _)=true;exact N7 this
        .cases h
       .ext I y1 R;split at h
        .ext z;erw[Mt] at h;let⟨ds,j,rfl⟩:=h;have q:=fO (env:=X.env) (m:=mm) (by simpa using N:dG ob=false);refine aj (HH (λ hx=>o.mth hx) (l _ _ R).1 (cj l j) q ?_ B ?_) (λ _=>rfl) λ _ _=>rfl
         .rw[lg j];have:args.length+0+0<30:=MG z 'd';show (true&&true&&decide _)=true;exact N7 this
         .cases args with
          |nil=>cases j;exact .inl ⟨rfl,rfl⟩
          |cons a r=>
           let⟨u,d2,ds1,z1,O,rfl⟩:=ee j;exact .inr ⟨a,r,rfl,az u,bP O⟩
        .cases h
       .cases h
      .cases h
    .cases h
   .cases h
  .
   ext ob f p;split at h
   .cases h
   .ext N;erw[Mt] at h;let⟨I,j,rfl⟩:=h;erw[Ot,O7,MT] at N;exact aj (HG (λ hx=>o.fld hx) (l _ _ j).1 (fO N.1)) (λ _=>rfl) λ _ _=>rfl
  .
   ext elt gens scope pos;split at h
   .cases h
   .ext tg it ifs as gs;split at h
    .ext bQ;let⟨rfl,pK,hco⟩:=bQ;split at h
     .ext t I ds g j A U h4;cases h;let⟨ok,oc⟩:=o.comp hco;have E8:∀cl' M H₀ fp pn e d,cE n {c with names:=scope.names} e=some d->Tells (X.comp scope cl' M H₀ fp pn) cl C e d:=λ cl' M H₀ fp pn e d h=>dJ n _ _ e d (oc cl' M H₀ fp pn) h;refine aj (Ea (BD o oc ok (i7 h4) l E8 j A U h4 pK) (eval_ListComp _ _ _ _)) (λ _=>rfl) λ _ _=>rfl
     .cases h
    .cases h
  .cases h
section
variable{env:Env}
theorem zO{i:Expr}(h:isSlice i=false)(v:Value):assign (.Subscript o i pos) env v=(do
   let a <-holding [v] (eval o env)
   let g <-holding [v,a] (eval i env)
   standAt pos
   holding [v,a,g] (setItem a g v)
   release [v,a,g] []):=by
 cases i<;>first | rfl | cases h
theorem zP{v:Expr}{l:Nat}(h:q9 tg=false):swapsWithSole [tg] v l env=pure false:=by
 show swapsWith v (some tg) l env=pure false;cases v<;>first | rfl | (cases tg<;>first | rfl | cases h)
theorem zQ{v:Expr}{f:Str}{l:Nat}:swapsWith v @(.Attribute o f p) l env=pure false:=by
 cases v<;>rfl
theorem j3{v:Expr}(h:(i6 tg&&i6 v)=false):swappedStores [tg] v env=pure none:=by
 cases tg<;>first | rfl | (cases v<;>first | rfl | cases h)
theorem nN{x:Str}{l k:Pos}{q r:Nat}{a:Expr}(bk:env.blockKind=.function)(t:env.kindOf x=some .local)(R:env.kindOf y=some .local)(u:px.line=py.line)(g:x≠y)(B:noStar a=true)(A:noStar b=true)
  (N:[a,b].all (foldedForSure 8)=false) (M:[a,b].all (constantsAlone 8)=false):swappedStores [.Tuple [.Name x px,.Name y py] q l] (.Tuple [a,b] r k) env=pure (some [x,y]):=by
 have S:∀(f:Expr->Bool),(∀e,noStar e=true->f e=false)->[a,b].any f=false:=λ f h=>by simp[h a B,h b A]
 have j:∀(f:Expr->Option Str),f (.Name x px)=some x->f (.Name y py)=some y->[Expr.Name x px,Expr.Name y py].filterMap f=[x,y]:=λ f L I=>by simp[L,I]
 have O:[x,y].eraseDups=[x,y]:=by
  rw[eraseDups_cons];have:(y==x)=false:=by simpa using g.symm
  simp[this,eraseDups_cons]
 unfold swappedStores;erw[bk,N,M];refine(MN 's').trans ?_;rw[S _ (λ e z=>by cases e<;>first | rfl | cases z)];refine(MN 's').trans ?_;rw[j _ (by simp[t,show (Expr.Name x px).pos=px from rfl]) (by simp[R,show (Expr.Name x px).pos=px from rfl,show (Expr.Name y py).pos=py from rfl,u]),O];rfl
end
theorem tL{c:Ci}{v:Expr}(j:gp v=true)(h:cE n c v=some d):(∃elt gens scope pos,v=.ListComp elt gens scope pos)\/∃g a gens scope pos,v=.DictComp g a gens scope pos:=by
 cases n with
 |zero=>cases h
 |succ n=>
  cases v with
  |ListComp elt gens scope pos=>exact .inl ⟨_,_,_,_,rfl⟩
  |SetComp elt gens scope pos=>unfold cE at h;simp at h
  |DictComp k v gens scope pos=>exact .inr ⟨_,_,_,_,_,rfl⟩
  |_=>cases j
section
variable{X:L2.Cx}{cl:Cl}{C:D.Cx}{c:Ci}
theorem BE{f:Expr->Option A}(g:∀e t,f e=some t->PG X e (SG X cl (cN C t))):∀{es:List Expr} {ts:As},IK f es=some ts->
  n5 X es (DQ X cl (cJ C ts))/\(assignEach es X.env).length=ts.len/\(assignEach es X.env).findIdx? (·.1)=none
 | [],_,h=>by cases h;exact⟨wm,rfl,rfl⟩
 |e::es,ts,h=>by
  unfold IK at h;split at h
  .ext q;split at h
   .cases h
   .ext d u;split at h
    .cases h
    .ext ds r;cases h;let⟨l,k,j⟩:=BE g r;have a:=fN (env:=X.env) (es:=es) q;refine⟨qU (g e d u) l (by rw[a];rfl),?_,?_⟩
     .rw[a,MX,k];rfl
     .rw[a,findIdx?_cons];simp[j]
  .cases h
theorem wU(o:Ok X cl C c):∀(n:Nat) (e:Expr) (t:A),cA n c e=some t->PG X e (SG X cl (cN C t))
 |0,_,_,h=>by cases h
 |n+1,e,t,h=>by
  unfold cA at h;split at h
  .erw[Mt] at h;let⟨i,a,rfl⟩:=h;let⟨j,g,u⟩:=ck o a;exact Br (BB o) j g u
  .erw[Mt] at h;let⟨ts,a,rfl⟩:=h;let⟨q,l,k⟩:=BE (λ e t h=>wU o n e t h) a;exact Bs o.calm q l k
  .split at h
   .cases h
   .ext r;split at h
    .ext z x j g;cases h;exact Hw o.units (dJ n X c _ _ o j).1 (dJ n X c _ _ o g).1 (zO ((MT _).mp r))
    .cases h
  .cases h
theorem cF{f:Stmt->Option S}(a:∀s d,f s=some d->PS X s (SS X cl (aT C d))):∀{es:List Stmt} {ds:Ss},lO f es=some ds->dO X es (SS X cl (aD C ds))
 | [],_,h=>by cases h;exact D0
 |e::es,ds,h=>by
  unfold lO at h;split at h
  .cases h
  .ext d j;split at h
   .cases h
   .ext ds g;cases h;exact zq (a e d j) (cF a g)
theorem wV(o:Ok X cl C c){x:Str}(ht:cW c x=some i)(h:cE n c (.ListComp elt gens scope pos)=some d) :
  PS X (.Assign [.Name x p] (.ListComp elt gens scope pos) spos) (SS X cl (aT C (.asg (.pt (.var i)) d))):=by
 let⟨O,N,M⟩:=ck o ht;have e:swapsWith (.ListComp elt gens scope pos) @(.Name x p) spos.line X.env=pure (X.env.blockKind==.function&&X.env.kindOf x==some .local&&p.line==(Expr.ListComp elt gens scope pos).pos.line&&!(scope.names.any λ (n,k)=>n==x&&(k==.local||k==.cell))):=rfl;cases L:(X.env.blockKind==.function&&X.env.kindOf x==some .local&&p.line==(Expr.ListComp elt gens scope pos).pos.line&&!(scope.names.any λ (n,k)=>n==x&&(k==.local||k==.cell))) with
 |false=>
  rw[L] at e;exact kO (BB o) O N (dJ n X c _ _ o h).1 e M
 |true=>
  rw[L] at e;cases n with
  |zero=>cases h
  |succ n=>
   have ih:∀e d,cE n c e=some d->Tells X cl C e d:=λ e d h=>dJ n X c e d o h;unfold cE at h;erw[Mt] at h;let⟨d,h,rfl⟩:=h;have r:PS X (.Assign [.Name x p] (.ListComp elt gens scope pos) spos) (SS X cl (aT C (.asg (.pt (.var i)) d)))->PS X (.Assign [.Name x p] (.ListComp elt gens scope pos) spos) (SS X cl (aT C (.asg (.pt (.var i)) (wz c (.ListComp elt gens scope pos) d)))):=λ q=>by
    unfold wz;split
    .exact Eb q
    .exact q
   refine r ?_;split at h
   .cases h
   .ext tg it ifs as gs;split at h
    .ext bQ;let⟨rfl,U,z⟩:=bQ;split at h
     .ext t d1 ds g T S R B;cases h;let⟨ok,I⟩:=o.comp z;have E8:∀l a j A u e d,cE n {c with names:=scope.names} e=some d->Tells (X.comp scope l a j A u) cl C e d:=λ l a j A u e d h=>dJ n _ _ e d (I l a j A u) h;exact zG (BB o) O N (BD o I ok (i7 B) ih E8 T S R B U) e M
     .cases h
    .cases h
theorem zR{v a:Expr}{x:Str}(h:pairOf tg v=some (x,px,y,py,a,b)):∃k j q g,tg=.Tuple [.Name x px,.Name y py] k j/\v=.Tuple [a,b] q g:=by
 unfold pairOf at h;split at h
 .ext l r A z;split at h
  .split at h
   .ext u t;cases h;let⟨k,j,rfl⟩:=wJ A;let⟨q,g,rfl⟩:=wJ z;cases gn u;cases gn t;exact⟨_,_,_,_,rfl,rfl⟩
   .cases h
  .cases h
 .cases h
theorem zS(o:Ok X cl C c)(k:∀e d,cE n c e=some d->Tells X cl C e d){v:Expr}{d:S}(h:Ej n c tg v=some d):PS X (.Assign [tg] v spos) (SS X cl (aT C d)):=by
 unfold Ej at h;split at h
 .cases h
 .ext a;erw[Ot,M4,O7,Bool.not_eq_false] at a;let⟨⟨r,q⟩,l⟩:=a;split at h
  .ext t u j g;cases h;exact D3 (k _ _ g).1 (wU o n _ _ j) (zP ((MT _).mp q)) (j3 ((MT _).mp r)) (by rw[fN l];rfl)
  .cases h
theorem zT(o:Ok X cl C c)(r:X.env.scope.names=c.names)(u:X.env.scope.kind=.function){v:Expr}{d:S}(h:Ek n c tg v=some d):PS X (.Assign [tg] v spos) (SS X cl (aT C d)):=by
 have q:∀e d,cE n c e=some d->Tells X cl C e d:=λ e d h=>dJ n X c e d o h;unfold Ek at h;split at h
 .ext x p;split at h
  .ext i O l g;cases h;let⟨t,N,M⟩:=ck o l
   by_cases L:gp v=true
   .rcases tL L g with⟨_,_,_,_,rfl⟩ | ⟨_,_,_,_,_,rfl⟩
    .exact wV o l g
    .cases n with | zero=>cases g | succ n=>unfold cE at g;simp at g
   .exact kO (BB o) t N (q _ _ g).1 (eG ((MT _).mp L)) M
  .cases h
 .split at h
  .ext O d2 l g;cases h;exact Ec (λ hx=>o.fld hx) (q _ _ l).1 (q _ _ g).1 zQ
  .cases h
 .
  split at h
  .ext x px y py a b k;let⟨kt,pt,k2,rS,rfl,rfl⟩:=zR k;split at h
   .ext bQ;erw[Mz,MZ,bne_iff_ne,M4] at bQ;let⟨⟨⟨⟨⟨⟨⟨c1,c2⟩,c3⟩,U⟩,T⟩,R⟩,c7⟩,c8⟩:=bQ;split at h
    .ext i j O d2 l g y3 y4;cases h;let⟨t,N,M⟩:=ck o l;let⟨A,g2,g3⟩:=ck o g;have z:i≠j:=by
      rintro rfl;rw[t] at A;exact U (M0 A)
     have I:X.env.scope.names.lookup x=some .local:=by rw[r];exact c2
     have B:X.env.scope.names.lookup y=some .local:=by rw[r];exact c3
     have bk:X.env.blockKind=.function:=by
      unfold Env.blockKind;rw[u];split<;>rfl
     exact D4 o.calm (BB o) t A z I B (pe (q _ _ y3).1 (pe (q _ _ y4).1 Bm (az R)) (az T)) (nN bk I B c1 U T R c7 c8) rfl
    .cases h
   .
     cases h
  .
   exact zS o q h
theorem BF(o:Ok X cl C c)(k:X.env.scope.names=c.names)(l:X.env.scope.kind=.function)(B:PassesOwn (model X.prog X.w) X.A X.env X.xe)(L:∀e s,¬X.xe e s):∀(n:Nat) (s:Stmt) (d:S),cS n c s=some d->PS X s (SS X cl (aT C d))
 |0,_,_,h=>by cases h
 |n+1,s,d,h=>by
  have j:∀e d,cE n c e=some d->Tells X cl C e d:=λ e d h=>dJ n X c e d o h;have u:∀s d,cS n c s=some d->PS X s (SS X cl (aT C d)):=λ s d h=>BF o k l B L n s d h;unfold cS at h;split at h
  .split at h
   .exact zT o k l h
   .cases h
  .split at h
   .split at h
    .ext I;split at h
     .ext i r g a;cases h;let⟨q,R,O⟩:=ck o g;exact D5 I (BB o) q R (j _ _ a).1 O
     .cases h
    .cases h
   .cases h
  .split at h
   .cases h
   .ext N;erw[Mt] at h;let⟨r,q,rfl⟩:=h;exact zu (j _ _ q).1 (eG ((MT _).mp N))
  .split at h
   .erw[Mt] at h;let⟨r,q,rfl⟩:=h;exact pD (j _ _ q).1
   .cases h;exact kP
  .split at h
   .ext r x y g a z;cases h;exact wu (j _ _ g).2 (cF u a) (cF u z)
   .cases h
  .split at h
   .split at h
    .cases h
    .ext M;split at h
     .ext t r x g a z;cases h;exact wA B o.calm (rA o j a) (nL o n _ _ g) (cF u z) (λ x=>lq ((MT _).mp M) x)
     .cases h
   .cases h
  .split at h
   .split at h
    .ext r x g a;cases h;exact nA B (j _ _ g).2 (cF u a)
    .cases h
   .cases h
  .cases h;exact qV
  .cases h;exact D6
  .cases h;exact zw
  .cases h;exact fL
  .cases h
end
def wW(K:ae)(J:List Addr)(H:Hp)(Q:VK)(E:XK):F->Prop
 |.nx _=>Q .non H
 |.rt w=>∀v,RW K J H w v->Q v H
 |.rz c none _=>E (.ref (ah K c)) none H
 |.rz c (some (f,w)) _=>∀y dx,RW K J H w y->H dx=none->E (.ref (ah K c)) (some dx) (upd H dx (.xd [(f,y)]))
 |_=>False
def zU(K:ae)(cl:Cl)(np:Nat)(f:List W->Mem->R F):Sp:=λ vs H Q E=>vs.length=np/\∃J m ws fl m',Rel K cl J m H/\aA K J H ws vs/\f ws m=.ok fl m'/\∀J' H',Ext J H J' H'->Rel K cl J' m' H'->wW K J' H' Q E fl
section
variable{X:L2.Cx}{cl:Cl}{C:D.Cx}{pos:Pos}
theorem zV{x f:Str}{a:Expr}{np g:Pos}{k:Nat}{I:FuncData}{h:List Str}{bm:List Value}(M:XC X.K (ah X.K c) bm @(.ref fa))(u:PySem.W.typeIn X.K (.ref fa)=@(.type "function"))
  (Fi:aY X.prog X.w X.K X.mg X.base tX k fa I h (A9 (ah X.K c) f)) (S:aS (k+1) X.A) (hb:Binds X.K I h []) (t:h.length=2) (j:X.ex=[]) (U:Gl X x) (T:X.mg x=@(.ref (ah X.K c))) (he:PE X a (SE X cl (ao C d)))
  (z:(x==("__debug__":Str))=false) (q:starEach [a] X.env=(false,eval a X.env)::starEach [] X.env):PS X (.Raise @(.Call (.Name x np) [a] [] g) none pos) (SS X cl (aT C (.rais c (some f) d))):=by
 refine PS.imp (vo M u Fi S hb t j U T he z q) ?_;rintro D Y H ⟨J,Z,m,fl,m',r,l,e,k⟩;erw[ve] at e;let⟨w,m1,e1,e⟩:=R.af e;cases e;exact⟨J,Z,m,w,_,r,l,e1,fun L H1 y B N O dx hd=>k _ _ B N Y y dx (l.mono r B) O hd⟩
theorem wX{x:Str}{a:Expr}{np g:Pos}{S:List Value}(z:XC X.K (ah X.K c) S none)(L:X.A.handled=none)(h:X.ex=[])(M:Gl X x)(I:X.mg x=@(.ref (ah X.K c)))(N:PE X a (SE X cl (ao C d)))
  (q:(x==("__debug__":Str))=false) (j:starEach [a] X.env=(false,eval a X.env)::starEach [] X.env):PS X (.Raise @(.Call (.Name x np) [a] [] g) none pos) (SS X cl (aT C (.rais c none d))):=by
 refine PS.imp (sU z L h M I N q j) ?_;rintro D Y H ⟨J,Z,m,fl,m',r,l,e,k⟩;erw[ve] at e;let⟨w,U,O,e⟩:=R.af e;cases e;exact⟨J,Z,m,w,_,r,l,O,fun u H1 y t B T=>k _ _ t B Y (l.mono r t)⟩
theorem lz{h:Dk}{f:F}{a:List Addr}{j:Hp}(e:E5 C h Z none fl m2=.ok f m')(t:Rel X.K cl a m2 j)(l:RL X.K a j Z Y)
  (u:∀J' H',Ext a j J' H'->Rel X.K cl J' m' H'->we X Dd J' H' f) (r:∀w,qH C h Z w m2=.ok f m'->∀v,RW X.K a j w v->Q v j):wW X.K a j Q (yc X Y) fl:=by
 cases fl with
 |nx g=>exact r .non e .non .non
 |rt w=>exact λ v q=>r w e v q
 |bk g=>cases e
 |ct g=>cases e
 |rz c z g=>
  cases e;have k:=u a j Ext.refl t;rcases z with _ | ⟨f,w⟩
  .exact k Y l
  .exact λ y dx q x=>k Y y dx l q x
theorem lA{h:Dk}{f:F}{a:List Addr}{j:Hp}{l:W}{v0:V}(e:E5 C h Z (some l) fl m2=.ok f m')(u:Rel X.K cl a m2 j)(r:RL X.K a j Z Y)
  (x:∀J' H',Ext a j J' H'->Rel X.K cl J' m' H'->we X Dd J' H' f) (t:qH C h Z l m2=.ok f m'->Q v0 j):wW X.K a j (λ v H=>v=.non/\Q v0 H) (yc X Y) fl:=by
 cases fl with
 |nx g=>exact⟨rfl,t e⟩
 |rt w=>
  intro v q;cases w<;>first | (cases q;exact⟨rfl,t e⟩) | cases e
 |bk g=>cases e
 |ct g=>cases e
 |rz c A g=>
  cases e;have k:=x a j Ext.refl u;rcases A with _ | ⟨f,w⟩
  .exact k Y r
  .exact λ y dx q z=>k Y y dx r q z
theorem i8{m1:Mem}(r:Rel X.K cl J m H)(l:RL X.K J H Z Y)(B:aH C ds Z m=.ok ws m1)(A:C.flow i ws m1=.ok fl m2)(z:ws.length=np)
  (h:∀a g,Ext J H a g->Rel X.K cl a m2 g->wW X.K a g Q (yc X Y) fl):o8 X (zU X.K cl np (C.flow i)) [] (SA X cl (aH C ds)) Y H Q:=
 ⟨J,Z,m,ws,m1,r,l,B,fun j I vs u k q=>⟨by rw[NP,<-q.length];exact z,j,m1,ws,fl,m2,k,by rw[NP];exact q,A,fun a g t x=>h a g (u.trans k t) x⟩⟩
theorem i9{m1:Mem}(r:Rel X.K cl J m H)(l:RL X.K J H Z Y)(e1:aH C ds Z m=.ok ws m1)(e2:C.flow i (.ref m1.length::ws) (m1++[.ins c []])=.ok fl m2)(U:(W.ref m1.length::ws).length=np)
  (h:∀a k x,Ext J H a k->Rel X.K cl a m2 k->RW X.K a k (.ref m1.length) (.ref x)->wW X.K a k (λ v H=>v=.non/\Q (.ref x) H) (yc X Y) fl):o9 X (ah X.K c) (zU X.K cl np (C.flow i)) [] (SA X cl (aH C ds)) Y H Q:=by
 refine⟨J,Z,m,ws,m1,r,l,e1,fun g H1 O N j S x dx T z u=>?_⟩;let⟨I,t⟩:=j.tw z (.own x);have G3:upd H1 dx (.own x) x=none:=by rw[ai u.symm];exact T
 let⟨B,L⟩:=t.zc (ho:=.ins (ah X.K c) dx []) (o:=.ins c []) G3 λ _=>⟨dx,[],aq,.nil⟩;have M:aA X.K (g++[x]) _ (.ref m1.length::ws) (.ref x::O):=.cons (.ref (j.last x)) ((S.mono j I).mono t B);refine⟨?_,g++[x],m1++[.ins c []],.ref m1.length::ws,fl,m2,L,by rw[NP];exact M,e2,fun q H4 A R=>?_⟩
 .rw[NP,<-M.length];exact U
 .exact h q H4 x (((N.trans j I).trans t B).trans L A) R (.ref (A.get (j.last x)))
theorem El{a:Expr}(N:PE X a (o8 X (zU X.K cl np (C.flow i)) [] (SA X cl (aH C ds))))(L:∀ws m fl m',C.flow i ws m=.ok fl m'->ws.length=np) :
  ((swapsWith a none pos.line X.env=pure false)->PS X (.Expr a pos) (SS X cl (aT C (.xc .drop none i ds))))/\PS X (.Return (some a) pos) (SS X cl (aT C (.xc .ret none i ds)))/\
  ∀{tg:Expr} {da:A},PG X tg (SG X cl (cN C da))->swapsWithSole [tg] a pos.line X.env=pure false->swappedStores [tg] a X.env=pure none->(assignEach [tg] X.env).map (·.2)=[assign tg X.env]->PS X (.Assign [tg] a pos) (SS X cl (aT C (.xc (.asg da) none i ds))):=by
 refine⟨λ M=>?_,?_,λ {tg da} U M hw h1=>?_⟩
 .refine PS.imp (kg N M) ?_;rintro D Y H ⟨J,Z,m,f,m',r,l,e,k⟩;erw[vf] at e;let⟨ws,O,B,e⟩:=R.af e;let⟨fl,m2,j,e⟩:=R.af e;refine i8 r l B j (L _ _ _ _ j) fun t S g h=>lz e h (l.mono r g) (fun J' H' u x=>k _ _ (g.trans h u) x) λ w z v q=>?_;cases z;exact k _ _ g h Y (l.mono r g)
 .refine PS.imp (n9 N) ?_;rintro D Y H ⟨J,Z,m,f,m',r,l,e,k⟩;erw[vf] at e;let⟨ws,O,B,e⟩:=R.af e;let⟨fl,m2,j,e⟩:=R.af e;refine i8 r l B j (L _ _ _ _ j) fun t S g h=>lz e h (l.mono r g) (fun J' H' u x=>k _ _ (g.trans h u) x) λ w z v q=>?_;cases z;exact k _ _ g h v q
 .refine PS.imp (oh N U M hw h1) ?_;rintro D Y H ⟨J,Z,m,f,m',r,l,e,k⟩;erw[vf] at e;let⟨ws,O,B,e⟩:=R.af e;let⟨fl,m2,j,e⟩:=R.af e;refine i8 r l B j (L _ _ _ _ j) fun t S g h=>lz e h (l.mono r g) (fun J' H' u x=>k _ _ (g.trans h u) x) λ w z v q=>?_;let⟨Z3,m3,e3,z⟩:=R.af z;cases z;exact⟨t,Z,m2,w,Z3,_,h,l.mono r g,q,e3,fun J' H' I u x T=>k _ _ (g.trans h u) x I T⟩
theorem Em{a:Expr}(O:PE X a (o9 X (ah X.K c) (zU X.K cl np (C.flow i)) [] (SA X cl (aH C ds))))(M:∀ws m fl m',C.flow i ws m=.ok fl m'->ws.length=np) :
  ((swapsWith a none pos.line X.env=pure false)->PS X (.Expr a pos) (SS X cl (aT C (.xc .drop (some c) i ds))))/\PS X (.Return (some a) pos) (SS X cl (aT C (.xc .ret (some c) i ds)))/\
  ∀{tg:Expr} {da:A},PG X tg (SG X cl (cN C da))->swapsWithSole [tg] a pos.line X.env=pure false->swappedStores [tg] a X.env=pure none->(assignEach [tg] X.env).map (·.2)=[assign tg X.env]->PS X (.Assign [tg] a pos) (SS X cl (aT C (.xc (.asg da) (some c) i ds))):=by
 refine⟨λ N=>?_,?_,λ {tg da} hg N hw h1=>?_⟩
 .refine PS.imp (kg O N) ?_;rintro D Y H ⟨J,Z,m,f,m',r,l,e,k⟩;erw[vg] at e;let⟨ws,T,I,e⟩:=R.af e;let⟨fl,m2,j,e⟩:=R.af e;refine i9 r l I j (M _ _ _ _ j) fun t U x g h q=>lA (Q:=λ _ S=>D.nx Y S) (v0:=.ref x) e h (l.mono r g) (fun J' H' u z=>k _ _ (g.trans h u) z) λ B=>?_;cases B;exact k _ _ g h Y (l.mono r g)
 .refine PS.imp (n9 O) ?_;rintro D Y H ⟨J,Z,m,f,m',r,l,e,k⟩;erw[vg] at e;let⟨ws,T,I,e⟩:=R.af e;let⟨fl,m2,j,e⟩:=R.af e;refine i9 r l I j (M _ _ _ _ j) fun t U x g h q=>lA (Q:=D.rt) e h (l.mono r g) (fun J' H' u z=>k _ _ (g.trans h u) z) λ B=>?_;cases B;exact k _ _ g h _ q
 .refine PS.imp (oh O hg N hw h1) ?_;rintro D Y H ⟨J,Z,m,f,m',r,l,e,k⟩;erw[vg] at e;let⟨ws,T,I,e⟩:=R.af e;let⟨fl,m2,j,e⟩:=R.af e;refine i9 r l I j (M _ _ _ _ j) fun t U x g h q=>lA (Q:=λ v S=>SG X cl (cN C da) v Y S D.nx) e h (l.mono r g) (fun J' H' u z=>k _ _ (g.trans h u) z) λ B=>?_;let⟨Z3,m3,e3,B⟩:=R.af B;cases B;exact⟨t,Z,m2,_,Z3,_,h,l.mono r g,q,e3,fun J' H' L u z l'=>k _ _ (g.trans h u) z L l'⟩
end
section
variable{X:L2.Cx}{cl:Cl}{C:D.Cx}{pos:Pos}
theorem Rel.exc{a:Addr}{g:Obj}{h:Option Addr}{f:Str}(r:Rel K cl J m H)(j:H a=none)(l:o6 (ah K c) h g)(q:aA K J H ws vs)(d:XD H h f vs) :
  Ext J H (J++[a]) (upd H a (dY a g))/\Rel K cl (J++[a]) (m++[.exc c f ws]) (upd H a (dY a g)):=by
 refine r.zc (ho:=dY a g) (o:=.exc c f ws) j λ x=>?_;refine⟨g,h,vs,aq,l,q.mono r x,d.imp id λ ⟨dx,y,u,t,k⟩=>⟨dx,y,u,t,?_⟩⟩;rw[ai (au k j)];exact k
theorem RL.gone(l:RL K J H Z Y):RL K J H (Z.set i none) (Y.set i none):=by
 refine⟨~~~l.len,λ {j w} h=>?_⟩
 by_cases z:i=j
 .subst z;rw[Qn] at h;simp at h
 .rw[Na z] at h ⊢;exact l.at_ h
def rD(i:Option Nat)(Y:L2.St):L2.St:=match i with
 |none=>Y
 |some i=>Y.set i none
theorem fP{j:L2.Cx}{i:Option Nat}{a:Ends}{f:F}(g:j.K=X.K)(e:gone i fl m2=.ok f m')(k:Rel X.K cl J m' H->we X Dd J H f)(r:Rel X.K cl J m2 H)(h:∀Z Y,RL X.K J H Z Y->RL X.K J H (sP i none Z) (rD i Y))
  (z:∀Y,a.nx Y H=Dd.nx (rD i Y) H) (x:∀Y,a.bk Y H=Dd.bk (rD i Y) H) (u:∀Y,a.ct Y H=Dd.ct (rD i Y) H) (t:a.rt=Dd.rt):we j a J H fl:=by
 cases fl with
 |nx Z=>cases e;intro Y l;rw[g] at l;rw[z];exact k r _ (h _ _ l)
 |bk Z=>cases e;intro Y l;rw[g] at l;rw[x];exact k r _ (h _ _ l)
 |ct Z=>cases e;intro Y l;rw[g] at l;rw[u];exact k r _ (h _ _ l)
 |rt w=>cases e;intro v q;rw[g] at q;rw[t];exact k r _ q
 |rz c w Z=>cases e
theorem En{u:List Stmt}{B:Stmt}{cn n:Str}{np hpos:Pos}{P:Addr}{y9:List Value}{jP:Option Value}{b h:Ss}{cs:List Str}(hx:X.ex=[])(hst:X.stack=X.env::X.outer)(hfl:X.env.frame=some X.env.locals)
  (hN:X.N.Nodup) (hi:X.N[i]?=some n) (hk:X.env.kindOf n=some .local) (p:XC X.K P y9 jP) (hg:Gl X cn) (hm:X.mg cn=@(.ref P)) (hdb:(cn==("__debug__":Str))=false)
  (hcs:∀c,cs.contains c=true->∃bm j,XC X.K (ah X.K c) bm j/\(Value.ref (ah X.K c)::bm).contains (.ref P)=true)
  (hb:∀pn xe,PassesOwn (model X.prog X.w) X.A X.env xe->dO (X.jm pn xe) body (SS (X.jm pn xe) cl (aD C b)))
  (hs:∀a pn,dO (X.gO (.ref a) pn ni) (B::u) (SS (X.gO (.ref a) pn ni) cl (aD C h))) :
  PS X (.Try body [.ExceptHandler @(.Name cn np) (some n) (B::u) hpos] [] [] pos) (SS X cl (aT C (.tr b cs (some i) h))):=by
 refine PS.imp (vt (tb:=λ Mr=>SS Mr cl (aD C b)) hx hst hfl hb (JP (ts:=λ Mr=>SS Mr cl (aD C h)) hx hN hi hk p hg hm hs hdb)) ?_;rintro D Y H ⟨J,Z,m,f,m',r,l,e,k⟩;erw[G0] at e;let⟨fl,x,e1,e⟩:=R.af e;intro pn xe hE;refine⟨J,Z,m,fl,x,r,l,e1,fun T H1 M t=>?_⟩;cases fl with
 |nx L=>cases e;exact k _ _ M t
 |bk L=>cases e;exact k _ _ M t
 |ct L=>cases e;exact k _ _ M t
 |rt w=>cases e;exact k _ _ M t
 |rz c fw L=>
  simp only at e;split at e
  .ext hc;let⟨bm,j,xc,hin⟩:=hcs c hc;let⟨z,m2,S,e3⟩:=R.af e;rcases fw with _ | ⟨g,w⟩
   .have S:aD C h (L.set i @(.ref x.length)) (x++[O.exc c "" []])=.ok z m2:=S;intro I l1;refine hE I (.ref (ah X.K c)) none H1 ⟨ah X.K c,bm,j,rfl,xc,hin,λ a pn' oa xo ha=>?_⟩;let⟨U,r2⟩:=t.exc (f:="") (ws:=[]) (vs:=[]) ha xo .nil (.inl ⟨rfl,rfl⟩);refine⟨T++[a],L.set i @(.ref x.length),x++[O.exc c "" []],z,m2,r2,(RL.mono t U l1).set (.ref (t.last a)),S,fun β3 H3 x3 r3=>?_⟩;exact fP (X:=X) rfl e3 (λ r4=>k _ _ ((M.trans t U).trans r2 x3) r4) r3 (fun Z Y l=>l.gone) (λ _=>rfl) (λ _=>rfl) (λ _=>rfl) rfl
   .have S:aD C h (L.set i @(.ref x.length)) (x++[O.exc c g [w]])=.ok z m2:=S;intro I y dx l1 q hd;let⟨x0,r0⟩:=t.tw hd (.xd [(g,y)]);refine hE I (.ref (ah X.K c)) (some dx) (upd H1 dx (.xd [(g,y)])) ⟨ah X.K c,bm,j,rfl,xc,hin,λ a pn' oa xo ha=>?_⟩;let⟨U,r2⟩:=r0.exc (f:=g) (ws:=[w]) (vs:=[y]) ha xo %[|RW.mono t x0 q] (.inr ⟨dx,y,rfl,rfl,aq⟩);refine⟨T++[a],L.set i (some (.ref x.length)),x++[O.exc c g [w]],z,m2,r2,(RL.mono r0 U (RL.mono t x0 l1)).set (.ref (r0.last a)),S,fun β3 H3 x3 r3=>?_⟩;exact fP (X:=X) rfl e3 (λ r4=>k _ _ (((M.trans t x0).trans r0 U).trans r2 x3) r4) r3 (fun Z Y l=>l.gone) (λ _=>rfl) (λ _=>rfl) (λ _=>rfl) rfl
  .cases e
end
end D
namespace L2
open PySem PySem.Spec PyProof.Rows List
def J3(C:Addr)(f:Str)(e:TE):TE:=fun Y H Q=>e Y H λ y c=>∀b,c b=none->∀a d,upd c b (.xd [(f,y)]) a=none->o6 C (some b) d->Q (.ref a) (upd (upd c b (.xd [(f,y)])) a (dY a d))
def HN(C:Addr)(d:TE):TE:=fun Y H Q=>d Y H λ _ c=>∀a b,c a=none->o6 C none b->Q (.ref a) (upd c a (dY a b))
section
variable{X:Cx}{e:Expr}{f x:Str}{pos np:Pos}{tv:TE}{C:Addr}{bm:List Value}
theorem Eo{k:Nat}{p:Addr}{z:FuncData}{j:List Str}(c:XC X.K C bm @(.ref p))(n:PySem.W.typeIn X.K (.ref p)=@(.type "function"))
  (F:aY X.prog X.w X.K X.mg X.base tX k p z j (A9 C f)) (L:aS (k+1) X.A) (R:Binds X.K z j []) (m:j.length=2) (l:X.ex=[]) (O:Gl X x) (N:X.mg x=@(.ref C)) (J:PE X e tv) (o:(x==("__debug__":Str))=false)
  (v:starEach [e] X.env=(false,eval e X.env)::starEach [] X.env):PE X (.Call (.Name x np) [e] [] pos) (J3 C f tv):=by
 intro T s Y H Q I h;refine MW (bw I O N ?_ o);have S:lX tv oB Y H λ d i=>match d with | [y]=>∀b,i b=none->∀a g,upd i b (.xd [(f,y)]) a=none->o6 C (some b) g->Q (.ref a) (upd (upd i b (.xd [(f,y)])) a (dY a g)) | _=>False:=h
 refine Nu (h₀:=X.base) I.ok.mod.kin c.kp (aJ (aM J bE v pos T s Y H _ I S) λ Z s1 ⟨d,i,t,r,q⟩=>⟨t.bA,?_⟩) v rfl;obtain⟨y,rfl⟩:∃y,d=[y]:=by
  match d,q with
  | [y],_=>exact⟨y,rfl⟩
 let⟨u,rfl,G⟩:=vals1 r;refine qJ (CX:=tX) (E:=E0) c n F L R m t G λ a b s' P V D _=>?_;let⟨g,B,M,U⟩:=tracked V (t.old l) D;exact⟨.ref a,_,U,rfl,q b P a g M B⟩
theorem nO(c:XC X.K C bm none)(n:X.ex=[]){s:List (Addr×Obj)}{Y:St}{h:Hp}{l:Shared}{us:List Value}(G:us.length<=1)(j:Inv X s Y h l){Q:VK}(q:∀a k,h a=none->o6 C none k->Q (.ref a) (upd h a (dY a k))){Z:Value->Shared->Prop} :
  wpAny (model X.prog X.w) X.A (call (.ref C) us) (EP X s Y Q) Z l:=by
 let⟨nm,q',N,bs,sn,B,ab,R,dd,k0,k1,k2,k3,k5,Bn,m,E,S,mN,M,W,r,H,T⟩:=c.ex;let⟨I,g,d,t,D⟩:=l;let⟨L,J⟩:=T _ j.bA;refine wpAny_call_exc_subU (bmB:=VE) (hrest:=by rw[NS];exact MQ G 'd') W r NX J (j.bA _ _ M) L H λ O a i=>?_;let⟨z,P,g2,g3⟩:=i.there;have V:Inv X s Y h ⟨O,g,d,t,D⟩:=j.kept (t':=t) i.keeps;have F:h a=none:=by
  cases y:h a with
  |none=>rfl
  |some o=>
   let⟨ob,u⟩:=aC.Ba (j.hok _ _ y);rw[show I.get? a=none from i.new] at u;cases u
 let⟨k,v,p,U⟩:=tracked V (j.old n) ⟨.none,⟨_,_,P,rfl,rfl,rfl,rfl⟩,.inl rfl,i.new,F,λ T e=>(by cases e),λ b o q=>⟨o,i.keeps b o q⟩⟩;exact⟨.ref a,_,U,rfl,q a k p v⟩
theorem zW(c:XC X.K C bm none)(d:X.ex=[])(o:Gl X x)(n:X.mg x=@(.ref C))(m:PE X e tv)(g:(x==("__debug__":Str))=false)
  (k:starEach [e] X.env=(false,eval e X.env)::starEach [] X.env):PE X (.Call (.Name x np) [e] [] pos) (HN C tv):=by
 intro t s Y H Q I h;refine MW (bw I o n ?_ g);have p:lX tv oB Y H λ b i=>match b with | [_]=>∀a j,i a=none->o6 C none j->Q (.ref a) (upd i a (dY a j)) | _=>False:=h
 refine Nu (h₀:=X.base) I.ok.mod.kin c.kp (aJ (aM m bE k pos t s Y H _ I p) λ v w ⟨b,i,l,r,q⟩=>⟨l.bA,?_⟩) k rfl;obtain⟨y,rfl⟩:∃y,b=[y]:=by
  match b,q with
  | [y],_=>exact⟨y,rfl⟩
 let⟨u,rfl,z⟩:=vals1 r;exact nO c d (MB _) l q
theorem zX(c:XC X.K C bm none)(b:X.ex=[])(j:Gl X x)(i:X.mg x=@(.ref C))(d:(x==("__debug__":Str))=false) :
  PE X (.Call (.Name x np) [] [] pos) (λ _ H Q=>∀a g,H a=none->o6 C none g->Q (.ref a) (upd H a (dY a g))):=by
 intro k s Y H Q I h;refine MW (bw I j i ?_ d);exact OV I.bA c.kp (nO (us:=[]) c b 'd' I h)
end
end L2
namespace D
open PySem PySem.Spec PyProof.Rows L2 List
variable{H:Hp}{K:ae}{bm:List Value}{c f:Str}{cl:Cl}{d:E}{e:Expr}{es:List Expr}{i n:Nat}{m:Mem}{np p pos:Pos}{pn:List (Addr×Obj)}{s:Stmt}{v:V}{vs:List V}{w:W}{ws:List W}{xe:Value->Shared->Prop}{J γ:List Addr}
section
variable{X:L2.Cx}{cl:Cl}{C:D.Cx}{pos:Pos}
theorem Ep{body o:List Stmt}{x:Stmt}{U:Str}{Q:Pos}{P:Addr}{y9:List Value}{jP:Option Value}{b h:Ss}{cs:List Str}(hx:X.ex=[])(hst:X.stack=X.env::X.outer)(hfl:X.env.frame=some X.env.locals)
  (p:XC X.K P y9 jP) (hg:Gl X U) (hm:X.mg U=@(.ref P)) (hdb:(U==("__debug__":Str))=false)
  (hcs:∀c,cs.contains c=true->∃bm j,XC X.K (ah X.K c) bm j/\(Value.ref (ah X.K c)::bm).contains (.ref P)=true)
  (hb:∀pn xe,PassesOwn (model X.prog X.w) X.A X.env xe->dO (X.jm pn xe) body (SS (X.jm pn xe) cl (aD C b)))
  (hs:∀a pn,dO (X.gO (.ref a) pn ni) (x::o) (SS (X.gO (.ref a) pn ni) cl (aD C h))) :
  PS X (.Try body [.ExceptHandler @(.Name U np) none (x::o) Q] [] [] pos) (SS X cl (aT C (.tr b cs none h))):=by
 refine PS.imp (vt (tb:=λ Mr=>SS Mr cl (aD C b)) hx hst hfl hb (JQ (ts:=λ Mr=>SS Mr cl (aD C h)) hx p hg hm hs hdb)) ?_;rintro D Y H ⟨J,Z,m,f,m',r,l,e,k⟩;erw[G0] at e;let⟨fl,N,e1,e⟩:=R.af e;intro pn xe hE;refine⟨J,Z,m,fl,N,r,l,e1,fun I H1 F t=>?_⟩;cases fl with
 |nx B=>cases e;exact k _ _ F t
 |bk B=>cases e;exact k _ _ F t
 |ct B=>cases e;exact k _ _ F t
 |rt w=>cases e;exact k _ _ F t
 |rz c fw B=>
  simp only at e;split at e
  .ext hc;let⟨bm,j,xc,S⟩:=hcs c hc;let⟨u,T,G,e3⟩:=R.af e;rcases fw with _ | ⟨g,w⟩
   .have G:aD C h B (N++[O.exc c "" []])=.ok u T:=G;intro z l1;refine hE z (.ref (ah X.K c)) none H1 ⟨ah X.K c,bm,j,rfl,xc,S,λ a pn' oa xo ha=>?_⟩;let⟨L,M⟩:=t.exc (f:="") (ws:=[]) (vs:=[]) ha xo .nil (.inl ⟨rfl,rfl⟩);refine⟨I++[a],B,N++[O.exc c "" []],u,T,M,RL.mono t L l1,G,fun β3 H3 x3 r3=>?_⟩;exact fP (X:=X) rfl e3 (λ r4=>k _ _ ((F.trans t L).trans M x3) r4) r3 (fun Z Y l=>l) (λ _=>rfl) (λ _=>rfl) (λ _=>rfl) rfl
   .have G:aD C h B (N++[O.exc c g [w]])=.ok u T:=G;intro z y dx l1 q hd;let⟨x0,r0⟩:=t.tw hd (.xd [(g,y)]);refine hE z (.ref (ah X.K c)) (some dx) (upd H1 dx (.xd [(g,y)])) ⟨ah X.K c,bm,j,rfl,xc,S,λ a pn' oa xo ha=>?_⟩;let⟨L,M⟩:=r0.exc (f:=g) (ws:=[w]) (vs:=[y]) ha xo %[|RW.mono t x0 q] (.inr ⟨dx,y,rfl,rfl,aq⟩);refine⟨I++[a],B,N++[O.exc c g [w]],u,T,M,RL.mono r0 L (RL.mono t x0 l1),G,fun β3 H3 x3 r3=>?_⟩;exact fP (X:=X) rfl e3 (λ r4=>k _ _ (((F.trans t x0).trans r0 L).trans M x3) r4) r3 (fun Z Y l=>l) (λ _=>rfl) (λ _=>rfl) (λ _=>rfl) rfl
  .cases e
theorem Rel.J4{x:V}(r:Rel K cl J m H)(q:RW K J H (.ref n) x)(e:m[n]?=@(.exc c f ws)) :
  ∃a g b vs,x=.ref a/\H a=some (dY a g)/\o6 (ah K c) b g/\aA K J H ws vs/\XD H b f vs:=by
 cases q with
 |ref h=>
  let⟨g,b,vs,k,j,t,d⟩:=r.obj e h;exact⟨_,g,b,vs,rfl,k,j,t,d⟩
theorem BG{a:Expr}{o:List Str}(N:∀c,o.contains c=true->∃bm j,XC X.K (ah X.K c) bm j/\XG X.K (ah X.K c)/\PySem.W.findIn X.K (.ref (ah X.K c)) f=some none)
  (O:PE X a (SE X cl (ao C d))) (P:attributeBase a f X.env (eval a X.env)=eval a X.env):PE X (.Attribute a f pos) (SE X cl (ao C (.fus (.xfl f o) d))):=by
 refine PE.imp (Dz O P) ?_;rintro Y H Q ⟨J,Z,m,w,m',r,l,e,k⟩;erw[bO] at e;let⟨x,m1,U,e⟩:=R.af e;erw[bX,ql] at e;split at e
 .ext n;split at e
  .ext c g w1 T;split at e
   .ext h;cases e;refine⟨J,Z,m,_,_,r,l,U,fun q H1 v1 F b I=>?_⟩;let⟨a',L,od,vs,rfl,S,u,t,dd⟩:=b.J4 I T;let⟨v,rfl,G⟩:=cg t;let⟨bm,j,B,A,M⟩:=N c h.2;rcases dd with⟨_,z⟩ | ⟨dx,y,d1,d2,d3⟩
    .cases z
    .cases d2;subst d1;exact⟨a',ah X.K c,dx,L,bm,j,_,v,rfl,S,u,B,A,M,d3,by rw[h.1];simp[List.lookup],k _ _ _ F b G⟩
   .cases e
  .cases e
 .cases e
theorem HP{a:Expr}{x:Str}{k:Nat}{y:Addr}{G:FuncData}{j:List Str}(M:XC X.K (ah X.K c) bm @(.ref y))(t:PySem.W.typeIn X.K (.ref y)=@(.type "function"))
  (F:aY X.prog X.w X.K X.mg X.base tX k y G j (A9 (ah X.K c) f)) (hr:aS (k+1) X.A) (hb:Binds X.K G j []) (q:j.length=2) (o:X.ex=[]) (hg:Gl X x) (hm:X.mg x=@(.ref (ah X.K c))) (U:PE X a (SE X cl (ao C d))) (u:(x==("__debug__":Str))=false)
  (he:starEach [a] X.env=(false,eval a X.env)::starEach [] X.env):PE X (.Call (.Name x np) [a] [] pos) (SE X cl (ao C (.fus (.mkx c (some f)) d))):=by
 refine PE.imp (Eo M t F hr hb q o hg hm U u he) ?_;rintro Y H Q ⟨J,Z,m,w,m',r,l,e,k⟩;erw[bO] at e;let⟨B,T,e1,e⟩:=R.af e;erw[bX,mE] at e;cases e;refine⟨J,Z,m,B,T,r,l,e1,fun I H1 b O g S dx hd a oa ha L=>?_⟩;let⟨z,h⟩:=g.tw hd (.xd [(f,b)]);let⟨N,P⟩:=h.exc (f:=f) (ws:=[B]) (vs:=[b]) ha L %[|RW.mono g z S] (.inr ⟨dx,b,rfl,rfl,aq⟩);exact k _ _ _ ((O.trans g z).trans h N) P (.ref (h.last a))
theorem Er{a:Expr}{x:Str}(q:XC X.K (ah X.K c) bm none)(g:X.ex=[])(G:Gl X x)(F:X.mg x=@(.ref (ah X.K c)))(B:PE X a (SE X cl (ao C d)))(h:(x==("__debug__":Str))=false)
  (I:starEach [a] X.env=(false,eval a X.env)::starEach [] X.env):PE X (.Call (.Name x np) [a] [] pos) (SE X cl (ao C (.fus (.mkx c none) d))):=by
 refine PE.imp (zW q g G F B h I) ?_;rintro Y H Q ⟨J,Z,m,w,S,r,l,e,k⟩;erw[bO] at e;let⟨y,A,M,e⟩:=R.af e;erw[bX,mE] at e;cases e;refine⟨J,Z,m,y,A,r,l,M,fun j T N u b O a P L o=>?_⟩;let⟨t,z⟩:=b.exc (f:="") (ws:=[]) (vs:=[]) L o .nil (.inl ⟨rfl,rfl⟩);exact k _ _ _ (u.trans b t) z (.ref (b.last a))
theorem Et{x:Str}(j:XC X.K (ah X.K c) bm none)(b:X.ex=[])(u:Gl X x)(t:X.mg x=@(.ref (ah X.K c)))(g:(x==("__debug__":Str))=false):PE X (.Call (.Name x np) [] [] pos) (SE X cl (ao C (.fus (.mkx c none) (.cst .non)))):=by
 refine PE.imp (zX j b u t g) ?_;rintro Y H Q ⟨J,Z,m,w,G,r,l,e,k⟩;erw[bO] at e;let⟨A,F,z,e⟩:=R.af e;cases z;erw[bX,mE] at e;cases e;intro a B y h;let⟨o,q⟩:=r.exc (f:="") (ws:=[]) (vs:=[]) y h .nil (.inl ⟨rfl,rfl⟩);exact k _ _ _ o q (.ref (r.last a))
theorem HQ{a g:Expr}{u:Value}{h:List (Str×Bool)}(T:Gl X "isinstance")(P:X.mg "isinstance"=none)(h2:PE X g (tC v))(O:∀u',RelV v u'->u'=u)
  (S:∀c b,h.lookup c=some b->∃bm j,XC X.K (ah X.K c) bm j/\XG X.K (ah X.K c)/\PySem.W.kitOne X.K (.ref (ah X.K c)) u=some b) (U:PE X a (SE X cl (ao C d)))
  (y:starEach [a,g] X.env=(false,eval a X.env)::starEach [g] X.env) (o:starEach [g] X.env=(false,eval g X.env)::starEach [] X.env):PE X (.Call (.Name "isinstance" p) [a,g] [] pos) (SE X cl (ao C (.fus (.isx h) d))):=by
 refine PE.imp (dQ (vz) T P 'k' (aM U (aM h2 bE o) y) 'k' 'k' y (by rw[o];rfl)) ?_;rintro Y H Q ⟨J,Z,m,w,m',r,l,e,k⟩;erw[bO] at e;let⟨x,m1,e1,e⟩:=R.af e;erw[bX,qk] at e;split at e
 .split at e
  .ext c f ws em;split at e
   .ext b eb;cases e;refine⟨J,Z,m,_,_,r,l,e1,fun z H1 v1 G q I=>?_⟩;let⟨a',M,L,vs,rfl,h1,A,t,dd⟩:=q.J4 I em;let⟨bm,j,F,B,N⟩:=S c b eb;exact⟨a',ah X.K c,L,M,bm,j,v,u,b,rfl,h1,A,F,B,O,N,k _ _ _ G q (.bl b)⟩
   .cases e
  .cases e
 .cases e
theorem Eu{a:Expr}{q}{h:Pos}{us:List Value}{tab:List (Str×Bool)}(hg:Gl X "isinstance")(hm:X.mg "isinstance"=none)(h2:PA X es (λ _ H Q=>Q vs H))(T:vs.length<=sizeLine)(U:∀g,Vals vs g->g=us)
  (hk:∀c b,tab.lookup c=some b->∃bm j,XC X.K (ah X.K c) bm j/\XG X.K (ah X.K c)/\PySem.W.kitAny X.K (.ref (ah X.K c)) us=some b) (ha:PE X a (SE X cl (ao C d)))
  (he:starEach [a,.Tuple es q h] X.env=(false,eval a X.env)::starEach [.Tuple es q h] X.env):PE X (.Call (.Name "isinstance" p) [a,.Tuple es q h] [] pos) (SE X cl (ao C (.fus (.isx tab) d))):=by
 refine PE.imp (dQ (sX) hg hm 'k' (aM ha (aM (uC h2) bE) he) 'k' 'k' he rfl) ?_;rintro Y H Q ⟨J,Z,m,w,m',r,l,e,k⟩;erw[bO] at e;let⟨x,m1,e1,e⟩:=R.af e;erw[bX,qk] at e;split at e
 .split at e
  .ext c f ws em;split at e
   .ext b eb;cases e;refine⟨J,Z,m,_,_,r,l,e1,fun z H1 v1 I o N=>⟨T,λ t u=>?_⟩⟩;let⟨a',P,O,L,rfl,y,A,_,_⟩:=o.J4 N em;let⟨bm,j,F,B,S⟩:=hk c b eb;let⟨G,M⟩:=o.kM u vs;exact⟨a',ah X.K c,O,P,bm,j,t,vs,us,b,rfl,by rw[ai (au y u)];exact y,A,F,B,aq,U,S,k _ _ _ (I.trans o G) M (.bl b)⟩
   .cases e
  .cases e
 .cases e
end
structure Cz where
 fn:List (Str×(Nat×Nat)):=[]
 ini:List (Str×Nat):=[]
 cls:List (Str×Option Str):=[]
 sub:List (Str×List Str):=[]
def Cz.tab(z:Cz)(ts:List Str):List (Str×Bool):=z.cls.map λ y=>(y.1,ts.any λ t=>((z.sub.lookup t).getD []).contains y.1)
def Cz.has(z:Cz)(f:Str):List Str:=(z.cls.filter λ y=>y.2==some f).map (·.1)
def IL(c:Ci)(z:Cz):Expr->Option Str
 |.Name t _=>if !special t&&c.names.lookup t==some .globalImplicit&&(z.sub.lookup t).isSome then some t else none
 |_=>none
def zY(c:Ci)(z:Cz):List Expr->Option (List Str)
 | []=>some []
 |e::r=>match IL c z e with
  |some t=>(zY c z r).map (t::·)
  |none=>none
def wY:Expr->Option (Expr×Expr)
 |.Call (.Name x _) [a,t] [] _=>if x="isinstance" then some (a,t) else none
 |_=>none
def wZ:Expr->Option (List Expr)
 |.Tuple es _ _=>some es
 |_=>none
def anyOf:Expr->Option Expr
 |.Call (.Name x _) [a] [] _=>if x="any" then some a else none
 |_=>none
def uE:Nat->Ci->Cz->Expr->Option E
 |0,_,_,_=>none
 |n+1,c,z,e=>match e with
  |.Name x _=>jY c x
  |.Constant k _ _=>match k with
   |.int i=>some (.cst (.int i))
   |.bool b=>some (.cst (.bl b))
   |.none=>some (.cst .non)
   |.str x=>some (.cst (.str x))
   |_=>none
  |.Tuple es _ _=>(gR (uE n c z) es).map .tup
  |.List es _=>(gR (uE n c z) es).map .lst
  |.BoolOp op vs _=>E7 (uE n c z) op vs
  |.UnaryOp op a _=>match op with
   |.Not=>(uE n c z a).map .not
   |_=>none
  |.Attribute o f _=>if dG o then none else (uE n c z o).map (.fus (.xfl f (z.has f)))
  |.Call f args g pos=>match wY (.Call f args g pos) with
   |some (a,t)=>if noStar a&&noStar t&&c.names.lookup ("isinstance":Str)==some .globalImplicit then match wZ t with
    |some es=>match zY c z es,uE n c z a with
     |some ts,some d=>if es.length<=100 then some (.fus (.isx (z.tab ts)) d) else none
     |_,_=>none
    |none=>match IL c z t,uE n c z a with
     |some t,some d=>some (.fus (.isx (z.tab [t])) d)
     |_,_=>none
    else none
   |none=>none
  |_=>none
def nameOf:Expr->Option Str
 |.Name x _=>some x
 |_=>none
def uS:Nat->Ci->Cz->Stmt->Option S
 |0,_,_,_=>none
 |n+1,c,z,s=>match s with
  |.Assign ts v _=>match ts with
   | [t]=>match nameOf t with
    |some x=>if gp v then none else match cW c x,uE n c z v with
     |some i,some d=>some (.asg (.pt (.var i)) d)
     |_,_=>none
    |none=>none
   |_=>none
  |.Return o _=>match o with
   |some v=>(uE n c z v).map .ret
   |none=>some .retN
  |.If t a b _=>match uE n c z t,lO (uS n c z) a,lO (uS n c z) b with
   |some d,some x,some y=>some (.ife d x y)
   |_,_,_=>none
  |.Pass _=>some .pass
  |_=>none
def Ew:Expr->Option (Str×List Expr)
 |.Call (.Name x _) as [] _=>some (x,as)
 |_=>none
def w5(c:Ci)(z:Cz)(g:Expr->Option E)(e:Expr):Option E:=match Ew e with
 |some (x,as)=>match z.cls.lookup x with
  |some b=>if !special x&&c.names.lookup x==some .globalImplicit then match as with
   | []=>match b with
    |none=>some (.fus (.mkx x none) (.cst .non))
    |some _=>none
   | [a]=>if noStar a then (g a).map (.fus (.mkx x b)) else none
   |_=>none else none
  |none=>none
 |none=>none
def vE:Nat->Ci->Cz->Expr->Option E
 |0,_,_,_=>none
 |n+1,c,z,e=>match cE n c e with
  |some d=>some d
  |none=>match e with
   |.List es _=>(gR (vE n c z) es).map .lst
   |.BoolOp op vs _=>E7 (vE n c z) op vs
   |.UnaryOp op a _=>match op with
    |.Not=>(vE n c z a).map .not
    |_=>none
   |.BinOp a op b _=>match vE n c z a,vE n c z b with
    |some d,some d'=>some (.bin op d d')
    |_,_=>none
   |.Call f args g pos=>match anyOf (.Call f args g pos) with
    |some a=>if noStar a&&c.names.lookup ("any":Str)==some .globalImplicit then (gR (vE n c z) [a]).map (.blt .any) else none
    |none=>
     match w5 c z (vE n c z) (.Call f args g pos) with
     |some d=>some d
     |none=>
     uE (n+1) c z (.Call f args g pos)
   |.Compare a ops bs _=>match ops,bs with
    | [op],[b]=>if behindInMarks op b then none else match vE n c z a,vE n c z b with
     |some d,some d'=>some (.cmp op d d')
     |_,_=>none
    |_,_=>none
   |.Attribute o f _=>if dG o then none else (vE n c z o).map (.fus (.xfl f (z.has f)))
   |_=>none
def IM(a b:Option S):Option S:=match a with
 |some d=>some d
 |none=>b
def Ex(n:Nat)(c:Ci)(z:Cz)(t v:Expr):Option S:=match nameOf t with
 |some x=>if gp v then none else match cW c x,vE n c z v with
  |some i,some d=>some (.asg (.pt (.var i)) d)
  |_,_=>none
 |none=>none
def ja:Expr->Option (Str×Expr×List Expr)
 |.Call f es ks _=>match By f with
  |some (x,_)=>match es,ks with
   |a::r,[]=>some (x,a,r)
   |_,_=>none
  |none=>none
 |_=>none
def Ey(n:Nat)(c:Ci)(z:Cz)(e:Expr):Option (Option Str×Nat×Es):=match ja e with
 |some (x,a,r)=>if !special x&&c.names.lookup x==some .globalImplicit&&!c.fz.contains e.pos then match z.fn.lookup x with
   |some (i,np)=>if (a::r).length=np then (gR (cE n c) (a::r)).map λ d=>(none,i,d) else none
   |none=>match z.ini.lookup x with
    |some i=>(gR (cE n c) (a::r)).map λ d=>(some x,i,d)
    |none=>none
  else none
 |none=>none
def raiseOf(e f:Option Expr):Option (Str×Expr):=match e,f with
 |some c,none=>match ja c with
  |some (x,a,r)=>match r with
   | []=>some (x,a)
   |_=>none
  |none=>none
 |_,_=>none
def handOf:List ExceptHandler->Option (Str×Option Str×Stmt×List Stmt)
 | [.ExceptHandler (some e) y (s::r) _]=>match By e with
  |some (x,_)=>some (x,y,s,r)
  |none=>none
 |_=>none
def Ez:S->Bool
 |.ife _ _ _=>false
 |.for_ _ _ _=>false
 |.while_ _ _=>false
 |.rais _ _ _=>false
 |.xc _ _ _ _=>false
 |.tr _ _ _ _=>false
 |_=>true
def tM(n:Nat)(c:Ci)(s:Stmt):Option S:=match cS n c s with
 |some d=>if Ez d then some d else none
 |none=>none
def w9(n:Nat)(c:Ci)(z:Cz)(x:Str)(a:Expr):Option S:=match z.cls.lookup x with
 |some b=>if !special x&&c.names.lookup x==some .globalImplicit&&noStar a then (cE n c a).map (.rais x b) else none
 |none=>some .never
def HR(c:Ci)(z:Cz)(x:Str)(y:Option Str)(b h:Ss):Option S:=match z.cls.lookup x,z.sub.lookup x with
 |some _,some cs=>if !special x&&c.names.lookup x==some .globalImplicit then match y with
   |none=>some (.tr b cs none h)
   |some v=>if c.names.lookup v=some .local then (gQ v c.N).map λ i=>.tr b cs (some i) h else none
  else none
 |_,_=>none
def BH(n:Nat)(c:Ci)(z:Cz)(t v:Expr):Option S:=match Ey n c z v with
 |some (mk,i,ds)=>if !noStar t||i6 t then none else (cA n c t).map λ t=>.xc (.asg t) mk i ds
 |none=>none
def cX:Nat->Ci->Cz->Stmt->Option S
 |0,_,_,_=>none
 |n+1,c,z,s=>match s with
  |.Raise e f _=>match raiseOf e f with
   |some (x,a)=>w9 n c z x a
   |none=>some .never
  |.Try body hs g fin _=>match g with
   | []=>match fin with
    | []=>match handOf hs with
     |some (x,y,s,r)=>match lO (cX n c z) body,lO (uS n c z) (s::r) with
      |some b,some h=>HR c z x y b h
      |_,_=>none
     |none=>none
    |_=>none
   |_=>none
  |.If t a b _=>match vE (n+1) c z t,lO (cX n c z) a,lO (cX n c z) b with
   |some d,some x,some y=>some (.ife d x y)
   |_,_,_=>none
  |.For j it body g _=>match g with
   | []=>if isSet it then none else match cT n c j,cI (cE n c) c j it,lO (cX n c z) body with
    |some t,some d,some x=>some (.for_ t d x)
    |_,_,_=>none
   |_=>none
  |.While t body g _=>match g with
   | []=>match cE n c t,lO (cX n c z) body with
    |some d,some x=>some (.while_ d x)
    |_,_=>none
   |_=>none
  |.Expr v pos=>match Ey n c z v with
   |some (mk,i,ds)=>some (.xc .drop mk i ds)
   |none=>tM (n+1) c (.Expr v pos)
  |.Return o pos=>match o with
   |some v=>match Ey n c z v with
    |some (mk,i,ds)=>some (.xc .ret mk i ds)
    |none=>IM (tM (n+1) c (.Return (some v) pos)) ((vE n c z v).map .ret)
   |none=>some .retN
  |.Assign ts v pos=>match ts with
   | [t]=>match Ey n c z v with
    |some _=>BH n c z t v
    |none=>
     IM (tM (n+1) c (.Assign [t] v pos)) (Ex n c z t v)
   |_=>none
  |s=>tM (n+1) c s
def l7(K:ae)(t:Str):Value:=if t="ValueError" then .type "ValueError" else .ref (ah K t)
def EA(K:ae)(t:Str):V:=if t="ValueError" then .ty "ValueError" else .ref (ah K t)
theorem xh{t:Str}{u:Value}(h:RelV (EA K t) u):u=l7 K t:=by
 unfold EA at h;unfold l7;split
 .ext e;rw[MO e] at h;exact h
 .ext e;rw[MN e] at h;exact h
theorem rE{t:Str}:RelV (EA K t) (l7 K t):=by
 unfold EA l7;split<;>exact rfl
structure ZU(X:L2.Cx)(z:Cz):Prop where
 sub:∀{t:Str} {cs:List Str},z.sub.lookup t=some cs->(X.mg t=some (l7 X.K t)\/X.mg t=none/\bootBuiltins t=@(l7 X.K t))/\∀{c fo},z.cls.lookup c=some fo->PySem.W.kitOne X.K (.ref (ah X.K c)) (l7 X.K t)=@(cs.contains c)
 cls:∀{c:Str} {fo:Option Str},(c,fo)∈z.cls->∃bm j,XC X.K (ah X.K c) bm j/\XG X.K (ah X.K c)/\∀f,fo=some f->PySem.W.findIn X.K (.ref (ah X.K c)) f=some none
structure zZ(X:L2.Cx)(cl:Cl)(C:D.Cx)(z:Cz):Prop where
 fn:∀{x:Str} {i np:Nat},z.fn.lookup x=some (i,np)->∃(k:Nat) (fa:Addr) (fd:FuncData) (ps:List Str),ps.length=np/\aS k X.A/\X.mg x=some (.ref fa)/\PySem.W.keepIn X.K (.ref fa)=true/\Binds X.K fd ps []/\aY X.prog X.w X.K X.mg X.base (iZ X.prog X.w) k fa fd ps (zU X.K cl ps.length (C.flow i))/\∀ws m fl m',C.flow i ws m=.ok fl m'->ws.length=ps.length
 ini:∀{x:Str} {i:Nat},z.ini.lookup x=some i->∃(k:Nat) (fa:Addr) (fd:FuncData) (ps:List Str),aS (k+1) X.A/\Mk X.K (ah X.K x) fa/\X.mg x=some (.ref (ah X.K x))/\Binds X.K fd ps []/\aY X.prog X.w X.K X.mg X.base (iZ X.prog X.w) k fa fd ps (zU X.K cl ps.length (C.flow i))/\∀ws m fl m',C.flow i ws m=.ok fl m'->ws.length=ps.length
 cls:∀{x:Str} {fo:Option Str},z.cls.lookup x=some fo->X.mg x=some (.ref (ah X.K x))/\(fo=none->∃bm,XC X.K (ah X.K x) bm none)/\∀f,fo=some f->∃(bm:List Value) (k:Nat) (fa:Addr) (fd:FuncData) (ps:List Str),XC X.K (ah X.K x) bm @(.ref fa)/\PySem.W.typeIn X.K (.ref fa)=some (.type "function")/\aY X.prog X.w X.K X.mg X.base tX k fa fd ps (A9 (ah X.K x) f)/\aS (k+1) X.A/\Binds X.K fd ps []/\ps.length=2
 hnd:∀{x:Str} {fo:Option Str} {cs:List Str},z.cls.lookup x=some fo->z.sub.lookup x=some cs->∀c,cs.contains c=true->∃bm j,XC X.K (ah X.K c) bm j/\(Value.ref (ah X.K c)::bm).contains (.ref (ah X.K x))=true
 u:ZU X z
theorem ZU.of{X a:L2.Cx}{z:Cz}(o:ZU X z)(b:a.K=X.K)(g:a.mg=X.mg):ZU a z:=⟨by rw[b,g];exact o.sub,by rw[b];exact o.cls⟩
structure BI(X:L2.Cx)(cl:Cl)(c:Ci):Prop where
 N:X.N=c.N
 nd:c.N.Nodup
 vis:∀{x:Str} {k:NameKind},c.names.lookup x=some k->(k=.local\/k=.cell\/k=.free)->yg X.env.scope x
 loc:∀{x:Str} {k:NameKind},c.names.lookup x=some k->(k=.local\/k=.cell)->L2.Loc X.env.scope x/\(X.fn x=true\/X.env.scope.names.lookup x=some .local)
 glb:∀{x:Str},c.names.lookup x=some .globalImplicit->Gl X x
 blt:∀x∈gm,X.mg x=none
 gl:∀{x:Str} {w:W},c.gl.lookup x=some w->∃u v,X.mg x=some u/\RelV v u/\∀J H,RW X.K J H w v
section
variable{X:L2.Cx}{cl:Cl}{C:D.Cx}{c:Ci}{z:Cz}
theorem HS(o:BI X cl c){x:Str}(h:jY c x=some d):PE X (.Name x pos) (SE X cl (ao C d))/\∀Z m,aR C d Z m=(ao C d Z m).bind λ w m=>D.truthy m w:=by
 have j:∀{i},gQ x c.N=some i->X.N[i]?=some x:=λ h=>by rw[o.N];exact fM h
 unfold jY at h;split at h
 .cases h
 .ext q;let⟨g,k,r⟩:=aE (~~~q);split at h
  .ext a;erw[Mt] at h;let⟨i,b,rfl⟩:=h;exact⟨jR (j b) (o.vis a (.inl rfl)) g k,λ _ _=>rfl⟩
  .ext a;erw[Mt] at h;let⟨i,b,rfl⟩:=h;exact⟨jR (j b) (o.vis a (.inr (.inl rfl))) g k,λ _ _=>rfl⟩
  .ext a;erw[Mt] at h;let⟨i,b,rfl⟩:=h;exact⟨jR (j b) (o.vis a (.inr (.inr rfl))) g k,λ _ _=>rfl⟩
  .ext a;erw[Mt] at h;let⟨w,l,rfl⟩:=h;exact⟨Bg (o.glb a) (o.gl l) g,λ _ _=>rfl⟩
  .cases h
theorem xj(o:BI X cl c){x:Str}(h:cW c x=some i):X.N[i]?=some x/\L2.Loc X.env.scope x/\(X.fn x=true\/X.env.scope.names.lookup x=some .local):=by
 have b:∀{i},gQ x c.N=some i->X.N[i]?=some x:=λ h=>by rw[o.N];exact fM h
 unfold cW at h;split at h
 .ext a;exact⟨b h,o.loc a (.inl rfl)⟩
 .ext a;exact⟨b h,o.loc a (.inr rfl)⟩
 .cases h
theorem xm{a t:Expr}(h:wY e=some (a,t)):∃p pos,e=.Call (.Name "isinstance" p) [a,t] [] pos:=by
 unfold wY at h;split at h
 .split at h
  .ext b;cases h;subst b;exact⟨_,_,rfl⟩
  .cases h
 .cases h
theorem xq(h:wZ e=some es):∃x p,e=.Tuple es x p:=by
 unfold wZ at h;split at h
 .cases h;exact⟨_,_,rfl⟩
 .cases h
theorem j4{x:Str}(h:nameOf e=some x):∃p,e=.Name x p:=by
 unfold nameOf at h;split at h
 .cases h;exact⟨_,rfl⟩
 .cases h
theorem xr(o:BI X cl c)(u:ZU X z){t:Str}(h:IL c z e=some t):PE X e (tC (EA X.K t))/\noStar e=true/\∃b,z.sub.lookup t=some b:=by
 unfold IL at h;split at h
 .split at h
  .ext a;cases h;erw[Mz,M4,MZ] at a;let⟨g,r,l⟩:=aE a.1.1;let⟨b,e⟩:=N4.mp a.2;refine⟨?_,rfl,b,e⟩;rcases (u.sub e).1 with q | ⟨k,j⟩
   .exact fq (o.glb a.1.2) q rE g
   .exact pY (o.glb a.1.2) k j rE l g
  .cases h
 .cases h
theorem rF(o:BI X cl c)(u:ZU X z):∀{es:List Expr} {ts:List Str},zY c z es=some ts->PA X es (λ _ H Q=>Q (ts.map (EA X.K)) H)/\es.length=ts.length/\∀t∈ts,∃A,z.sub.lookup t=some A
 | [],_,h=>by cases h;exact⟨bE,rfl,λ t r=>by cases r⟩
 |e::es,ts,h=>by
  unfold zY at h;split at h
  .ext t y;erw[Mt] at h;let⟨ts,x,rfl⟩:=h;let⟨j,g,b⟩:=xr o u y;let⟨q,l,k⟩:=rF o u x;refine⟨aM j q (az g),by rw[MX,MX,l],λ s a=>?_⟩;rcases MJ.mp a with rfl | a
   .exact b
   .exact k s a
  .cases h
theorem EB{ts:List Str}{x:Str}{b:Bool}(h:(z.tab ts).lookup x=some b):(∃g,z.cls.lookup x=some g)/\b=ts.any λ t=>((z.sub.lookup t).getD []).contains x:=by
 unfold Cz.tab at h;generalize z.cls=l at h ⊢
 induction l with
 |nil=>cases h
 |cons y r a=>
  rw[Nj,MH] at h;rw[MH];cases e:x==y.1 with
  |true=>
   rw[e] at h;cases h;cases eq_of_beq e;exact⟨⟨_,rfl⟩,rfl⟩
  |false=>
   rw[e] at h;exact a h
theorem j5(u:ZU X z){x:Str}{k:Option Str}(b:z.cls.lookup x=some k):∀{ts:List Str},(∀t∈ts,∃a,z.sub.lookup t=some a)->PySem.W.kitAny X.K (.ref (ah X.K x)) (ts.map (l7 X.K))=@(ts.any λ t=>((z.sub.lookup t).getD []).contains x)
 | [],_=>rfl
 |t::ts,h=>by
  let⟨a,e⟩:=h t (.head _);have g:=j5 u b (ts:=ts) λ s j=>h s (.tail _ j);rw[Nj,ON,PySem.W.kitAny,(u.sub e).2 b,e,Option.getD_some];cases a.contains x with
  |true=>rfl
  |false=>rw[Bool.false_or];exact g
theorem rG:∀{ts:List Str} {us:List Value},Vals (ts.map (EA K)) us->us=ts.map (l7 K)
 | [],_,h=>by cases h;rfl
 |t::ts,_,h=>by
  cases h with
  |cons a b=>rw[Nj,xh a,rG b]
theorem xu{x:Str}(h:(z.has f).contains x=true):∃y∈z.cls,y=(x,some f):=by
 unfold Cz.has at h;let⟨y,j,g⟩:=Om.mp (Og.mp h);let⟨b,a⟩:=OO.mp j;exact⟨y,b,by cases y;cases g;cases eq_of_beq a;rfl⟩
end
section
variable{X:L2.Cx}{cl:Cl}{C:D.Cx}{c:Ci}{z:Cz}
theorem xw(o:BI X cl c)(u:ZU X z):∀(n:Nat) (e:Expr) (d:E),uE n c z e=some d->Tells X cl C e d
 |0,_,_,h=>by cases h
 |n+1,e,d,h=>by
  have l:∀e d,uE n c z e=some d->Tells X cl C e d:=λ e d h=>xw o u n e d h;unfold uE at h;split at h
  .let⟨k,g⟩:=HS (C:=C) o h;exact aj k (λ _=>rfl) g
  .split at h
   .cases h;exact aj Bd (λ _=>rfl) λ _ _=>rfl
   .cases h;exact aj Hf (λ _=>rfl) λ _ _=>rfl
   .cases h;exact aj Be (λ _=>rfl) λ _ _=>rfl
   .cases h;exact aj Bf (λ _=>rfl) λ _ _=>rfl
   .cases h
  .erw[Mt] at h;let⟨d',r,rfl⟩:=h;exact aj (Bo (cj l r)) (λ _=>rfl) λ _ _=>rfl
  .erw[Mt] at h;let⟨d',r,rfl⟩:=h;exact aj (vG (cj l r)) (λ _=>rfl) λ _ _=>rfl
  .let⟨k,g⟩:=rq l h;exact⟨k,g.pt⟩
  .split at h
   .erw[Mt] at h;let⟨d',r,rfl⟩:=h;exact⟨vD (l _ _ r).1,vF (l _ _ r).2⟩
   .cases h
  .split at h
   .cases h
   .ext O;erw[Mt] at h;let⟨d',r,rfl⟩:=h;refine aj (BG (λ x B=>?_) (l _ _ r).1 (fO ((MT _).mp O))) (λ _=>rfl) λ _ _=>rfl;let⟨y,hy,rfl⟩:=xu B;let⟨bm,j,k,g,A⟩:=u.cls hy;exact⟨bm,j,k,g,A _ rfl⟩
  .split at h
   .ext a t hq;let⟨p,pos,e⟩:=xm hq;cases e;split at h
    .ext T;erw[Mz,MZ] at T;let⟨⟨U,c2⟩,c3⟩:=T;have S:=o.glb c3;have Q:=o.blt "isinstance" 'k';have R:∀x b ts,(z.tab ts).lookup x=some b->(∀t∈ts,∃cs,z.sub.lookup t=some cs)->∃bm j,XC X.K (ah X.K x) bm j/\XG X.K (ah X.K x)/\PySem.W.kitAny X.K (.ref (ah X.K x)) (ts.map (l7 X.K))=some b:=λ x b ts N O=>by
      let⟨⟨fo,q⟩,rfl⟩:=EB N;let⟨bm,j,k,g,_⟩:=u.cls (MY q);exact⟨bm,j,k,g,j5 u q O⟩
     split at h
     .ext es he;let⟨kx,tp,rfl⟩:=xq he;split at h
      .ext ts d1 G F;split at h
       rotate_left
       .cases h
       ext hl;cases h;let⟨L,P,I⟩:=rF o u G;exact aj (Eu S Q L (by rw[Nk,<-P];exact MQ hl 'k') (λ Y M=>rG M) (λ x b B=>R x b ts B I) (l _ _ F).1 (az U)) (λ _=>rfl) λ _ _=>rfl
      .cases h
     .split at h
      .ext Z d1 G F;cases h;let⟨L,P,I⟩:=xr o u G;refine aj (HQ S Q L (λ u' M=>xh M) (λ x b B=>?_) (l _ _ F).1 (az U) (az c2)) (λ _=>rfl) λ _ _=>rfl;let⟨bm,j,k,g,A⟩:=R x b [Z] B (λ t N=>by cases Pa.mp N;exact I);refine⟨bm,j,k,g,?_⟩;rw[Nj,PySem.W.kitAny] at A;split at A
       .ext e;rw[e];exact A
       .ext e;rw[e];exact A
       .cases A
      .cases h
    .cases h
   .cases h
  .cases h
theorem BJ(o:BI X cl c)(u:ZU X z):∀(n:Nat) (s:Stmt) (d:S),uS n c z s=some d->PS X s (SS X cl (aT C d))
 |0,_,_,h=>by cases h
 |n+1,s,d,h=>by
  have g:∀e d,uE n c z e=some d->Tells X cl C e d:=xw o u n;have k:∀s d,uS n c z s=some d->PS X s (SS X cl (aT C d)):=BJ o u n;unfold uS at h;split at h
  .split at h
   .split at h
    .ext x r;let⟨p,rfl⟩:=j4 r;split at h
     .cases h
     .ext t;split at h
      .ext i l b a;cases h;let⟨j,B,A⟩:=xj o b;exact kO (by rw[o.N];exact o.nd) j B (g _ _ a).1 (eG ((MT _).mp t)) A
      .cases h
    .cases h
   .cases h
  .split at h
   .erw[Mt] at h;let⟨l,j,rfl⟩:=h;exact pD (g _ _ j).1
   .cases h;exact kP
  .split at h
   .ext l x y b a q;cases h;exact wu (g _ _ b).2 (cF k a) (cF k q)
   .cases h
  .cases h;exact qV
  .cases h
end
section
variable{X:L2.Cx}{cl:Cl}
theorem PA.bS{t:TA}(h:PA X.bS es t):PA X es t:=λ pos b s Y H Q I a=>
 MK (h pos b s Y H Q (I.eO _) a) (λ _ _ ⟨vs,j,g,r,q⟩=>⟨vs,j,g.bD,r,q⟩) λ _ _ z=>False.elim z
theorem PG.bS{t:TG}(h:PG X.bS e t):PG X e t:=λ g s Y H v u Q I r b=>
 MK (h g s Y H v u Q (I.eO _) r b) (λ _ _ ⟨a,k,j,q⟩=>⟨a,k,j.bD,q⟩) λ _ _ z=>False.elim z
theorem PS.bS{st:Stmt}{t:TS}(h:PS X.bS st t):PS X st t:=λ b s Y H D I a=>
 MK (h b s Y H D (I.eO _) a) (λ _ _ q=>q.bD) λ _ _ z=>False.elim z
theorem PI.bS{a:Expr}{t:TI}(h:PI X.bS a e t):PI X a e t:=λ y s Y H R I j=>
 MK (h y s Y H R (I.eO _) j) (λ _ _ q=>MK q (λ _ _ ⟨g,k,b,A,C,x,B,u,r,o,l⟩=>⟨g,k,b,A,C,x,B.bD,u,r,o,l⟩) λ _ _ z=>False.elim z) λ _ _ z=>False.elim z
theorem xy{a:Loc->Mem->R W}(h:PE X.bS e (SE X.bS cl a)):PE X e (SE X cl a):=PE.imp h.bS λ _ _ _ ⟨J,Z,m,w,b,r,l,e,k⟩=>⟨J,Z,m,w,b,r,l,e,k⟩
theorem BK{a:Loc->Mem->R Bool}(h:PT X.bS e (ST X.bS cl a)):PT X e (ST X cl a):=PT.imp h.bS λ _ _ _ ⟨J,Z,m,w,b,r,l,e,k⟩=>⟨J,Z,m,w,b,r,l,e,k⟩
theorem BL{e:List Expr}{a:Loc->Mem->R (List W)}(h:PA X.bS e (SA X.bS cl a)):PA X e (SA X cl a):=PA.imp (PA.bS h) λ _ _ _ ⟨J,Z,m,w,b,r,l,e,k⟩=>⟨J,Z,m,w,b,r,l,e,k⟩
theorem BN{b:W->Loc->Mem->R Loc}(h:PG X.bS e (SG X.bS cl b)):PG X e (SG X cl b):=PG.imp (PG.bS h) λ _ _ _ _ ⟨J,Z,m,w,a,g,r,l,q,e,k⟩=>⟨J,Z,m,w,a,g,r,l,q,e,k⟩
theorem HU{a:Expr}{b:Loc->Mem->R Src}(h:PI X.bS a e (SI X.bS cl b)):PI X a e (SI X cl b):=PI.imp (PI.bS h) λ _ _ _ ⟨J,Z,m,w,g,r,l,e,k⟩=>⟨J,Z,m,w,g,r,l,e,k⟩
theorem z8{C:D.Cx}{d:S}(h:Ez d=true){Z g:Loc}{j:Mem}{x:Str}{k:Option (Str×W)}(e:aT C d Z m=.ok (.rz x k g) j):False:=by
 cases d with
 |asg t d=>erw[dX] at e;let⟨_,_,_,e⟩:=R.af e;let⟨_,_,_,e⟩:=R.af e;cases e
 |aug i op d=>
  erw[jL] at e;split at e
  .let⟨_,_,_,e⟩:=R.af e;let⟨_,_,_,e⟩:=R.af e;cases e
  .cases e
 |expr d=>erw[iT] at e;let⟨_,_,_,e⟩:=R.af e;cases e
 |ret d=>erw[jM] at e;let⟨_,_,_,e⟩:=R.af e;cases e
 |retN=>erw[iU] at e;cases e
 |pass=>erw[iW] at e;cases e
 |brk=>erw[mY] at e;cases e
 |cont=>erw[iX] at e;cases e
 |never=>erw[fH] at e;cases e
 |fas a f b=>erw[mZ] at e;let⟨_,_,_,e⟩:=R.af e;let⟨_,_,_,e⟩:=R.af e;let⟨_,_,_,e⟩:=R.af e;cases e
 |_=>cases h
theorem HV{C:D.Cx}{d:S}(o:Ez d=true)(h:PS X.bS s (SS X.bS cl (aT C d))):PS X s (SS X cl (aT C d)):=PS.imp (PS.bS h) λ D Y H ⟨J,Z,m,f,j,r,l,e,k⟩=>by
 refine⟨J,Z,m,f,j,r,l,e,fun t u b g=>?_⟩;have q:=k t u b g;cases f with
 |rz x y a=>exact(z8 o e).elim
 |_=>exact q
end
section
variable{X:L2.Cx}{cl:Cl}{C:D.Cx}{c:Ci}{z:Cz}
theorem Ok.jm(o:Ok X.bS cl C c):Ok (X.jm pn xe).bS cl C c:=
 ⟨o.N,o.nd,λ a b=>o.vis a b,λ a b=>o.loc a b,λ a=>o.cel a,λ a=>o.glb a,o.calm,⟨o.units.un,o.units.P,o.units.w,o.units.gd⟩,o.hand,o.blt,λ a=>o.fn a,λ a=>o.gl a,o.cs,λ a=>o.fld a,λ a=>o.mth a,λ a=>o.ini a,λ a=>o.dic a,λ a=>o.isc a⟩
theorem zZ.jm(o:zZ X cl C z):zZ (X.jm pn xe) cl C z:=⟨o.fn,o.ini,o.cls,o.hnd,o.u.of rfl rfl⟩
theorem Ok.gO(o:Ok X.bS cl C c){e:Value}:BI (X.gO e pn xe) cl c:=
 ⟨o.N,o.nd,λ a b=>o.vis a b,λ a b=>o.loc a b,λ a=>o.glb a,o.blt,λ a=>o.gl a⟩
theorem gq{a:Expr}{x:Str}{r:List Expr}(h:ja e=some (x,a,r)):∃p pos,e=.Call (.Name x p) (a::r) [] pos:=by
 unfold ja at h;split at h
 .split at h
  .ext b;split at h
   .cases h;cases gn b;exact⟨_,_,rfl⟩
   .cases h
  .cases h
 .cases h
theorem pL{e f:Option Expr}{x:Str}{a:Expr}(h:raiseOf e f=some (x,a)):∃np b,e=some (.Call (.Name x np) [a] [] b)/\f=none:=by
 unfold raiseOf at h;split at h
 .split at h
  .ext g;split at h
   .cases h;let⟨p,q,rfl⟩:=gq g;exact⟨_,_,rfl,rfl⟩
   .cases h
  .cases h
 .cases h
theorem tN{a:List ExceptHandler}{x:Str}{y:Option Str}{r:List Stmt}(h:handOf a=some (x,y,s,r)):∃np b,a=[.ExceptHandler @(.Name x np) y (s::r) b]:=by
 unfold handOf at h;split at h
 .split at h
  .ext g;cases h;cases gn g;exact⟨_,_,rfl⟩
  .cases h
 .cases h
theorem tO{env:Env}{t f:Expr}{ks:List Keyword}{l:Nat}:swapsWithSole [t] (.Call f es ks p) l env=pure false:=by
 show swapsWith (.Call f es ks p) (some t) l env=pure false;exact eG rfl
theorem xA{a:Expr}(h:anyOf e=some a):∃p pos,e=.Call (.Name "any" p) [a] [] pos:=by
 unfold anyOf at h;split at h
 .split at h
  .ext b;cases h;subst b;exact⟨_,_,rfl⟩
  .cases h
 .cases h
theorem Ok.u(o:Ok X.bS cl C c):BI X cl c:=⟨o.N,o.nd,λ a b=>o.vis a b,λ a b=>o.loc a b,λ a=>o.glb a,o.blt,λ a=>o.gl a⟩
theorem z9{x:Str}{a:List Expr}(h:Ew e=some (x,a)):∃p pos,e=.Call (.Name x p) a [] pos:=by
 unfold Ew at h;split at h
 .cases h;exact⟨_,_,rfl⟩
 .cases h
theorem xB(o:Ok X.bS cl C c)(L:zZ X cl C z)(q:X.ex=[]){g:Expr->Option E}(F:∀e d,g e=some d->Tells X cl C e d){f:Expr}{args:List Expr}{b:List Keyword}(h:w5 c z g (.Call f args b pos)=some d):Tells X cl C (.Call f args b pos) d:=by
 unfold w5 at h;split at h
 .ext x as N;let⟨p,pos,e⟩:=z9 N;cases e;split at h
  .ext Q O;split at h
   .ext y;erw[Mz,M4,MZ] at y;let⟨A,U,T⟩:=aE y.1;have t:Gl X x:=o.glb y.2;let⟨l,B,I⟩:=L.cls O;split at h
    .split at h
     .cases h;let⟨bm,a⟩:=B rfl;exact aj (Et a q t l A) (λ _=>rfl) λ _ _=>rfl
     .cases h
    .split at h
     .ext j;erw[Mt] at h;let⟨d1,G,rfl⟩:=h;cases Q with
      |none=>
       let⟨bm,a⟩:=B rfl;exact aj (Er a q t l (F _ _ G).1 A (az j)) (λ _=>rfl) λ _ _=>rfl
      |some f=>
       let⟨bm,k,Z,Y,S,a,u,R,M,P,r⟩:=I f rfl;exact aj (HP a u R M P r q t l (F _ _ G).1 A (az j)) (λ _=>rfl) λ _ _=>rfl
     .cases h
    .cases h
   .cases h
  .cases h
 .cases h
theorem rH(o:Ok X.bS cl C c)(t:zZ X cl C z)(A:X.ex=[]):∀(n:Nat) (e:Expr) (d:E),vE n c z e=some d->Tells X cl C e d
 |0,_,_,h=>by cases h
 |n+1,e,d,h=>by
  have g:∀e d,vE n c z e=some d->Tells X cl C e d:=λ e d h=>rH o t A n e d h;unfold vE at h;split at h
  .ext I b;cases h;let⟨l,k⟩:=dJ n X.bS c _ _ o b;exact⟨xy l,BK k⟩
  .split at h
   .erw[Mt] at h;let⟨d',b,rfl⟩:=h;exact aj (vG (cj g b)) (λ _=>rfl) λ _ _=>rfl
   .let⟨l,k⟩:=rq g h;exact⟨l,k.pt⟩
   .split at h
    .erw[Mt] at h;let⟨d',b,rfl⟩:=h;exact⟨vD (g _ _ b).1,vF (g _ _ b).2⟩
    .cases h
   .split at h
    .ext I S b B;cases h;exact aj (Bh (g _ _ b).1 (g _ _ B).1) (λ _=>rfl) λ _ _=>rfl
    .cases h
   .split at h
    .ext a R;let⟨p,pos,e⟩:=xA R;cases e;split at h
     .ext r;erw[Mz,MZ] at r;erw[Mt] at h;let⟨d',b,rfl⟩:=h;obtain⟨q,⟨N,G,F⟩ | ⟨N,G,F⟩⟩:=j0 (show kY.lookup ("any":Str)=some .any by decide +kernel)
      .exact aj (vS ⟨o.units.un,o.units.P,o.units.w,o.units.gd⟩ o.calm o.hand G (o.glb r.2) (o.blt _ q) F (cj g b) 'k' 'k' (az r.1) rfl) (λ _=>rfl) λ _ _=>rfl
      .exact aj (vU ⟨o.units.un,o.units.P,o.units.w,o.units.gd⟩ o.calm o.hand G (o.glb r.2) (o.blt _ q) F (cj g b) 'k' 'k' (az r.1) rfl) (λ _=>rfl) λ _ _=>rfl
     .cases h
    .split at h
     .ext I b;cases h;exact xB o t A g b
     .
      exact xw o.u t.u _ _ _ h
   .split at h
    .split at h
     .cases h
     .ext q;split at h
      .ext I S b B;cases h;have L:UN X cl:=⟨o.units.un,o.units.P,o.units.w,o.units.gd⟩;exact⟨Bj L (g _ _ b).1 (g _ _ B).1 (~~~q),Bk L (g _ _ b).1 (g _ _ B).1 (~~~q)⟩
      .cases h
    .cases h
   .split at h
    .cases h
    .ext Q;erw[Mt] at h;let⟨d',b,rfl⟩:=h;refine aj (BG (λ x A=>?_) (g _ _ b).1 (fO ((MT _).mp Q))) (λ _=>rfl) λ _ _=>rfl;let⟨y,O,rfl⟩:=xu A;let⟨bm,j,l,k,M⟩:=t.u.cls O;exact⟨bm,j,l,k,M _ rfl⟩
   .cases h
theorem xC{a b:Option S}{d:S}(h:IM a b=some d):a=some d\/b=some d:=by
 unfold IM at h;split at h
 .exact .inl h
 .exact .inr h
theorem Aa(o:Ok X.bS cl C c)(g:zZ X cl C z)(j:X.ex=[]){t v:Expr}{d:S}(h:Ex n c z t v=some d):PS X (.Assign [t] v pos) (SS X cl (aT C d)):=by
 unfold Ex at h;split at h
 .ext x k;let⟨p,rfl⟩:=j4 k;split at h
  .cases h
  .ext l;split at h
   .ext i A b a;cases h;let⟨y,r,q⟩:=xj o.u b;exact kO (by rw[o.u.N];exact o.nd) y r (rH o g j n _ _ a).1 (eG ((MT _).mp l)) q
   .cases h
 .cases h
theorem xD(o:Ok X.bS cl C c)(O:zZ X cl C z)(Q:X.ex=[]){l:Option Str}{t:Es}(h:Ey n c z e=some (l,i,t)) :
  PS X (.Expr e pos) (SS X cl (aT C (.xc .drop l i t)))/\PS X (.Return (some e) pos) (SS X cl (aT C (.xc .ret l i t)))/\
  ∀{g:Expr} {T:A},PG X g (SG X cl (cN C T))->swapsWithSole [g] e pos.line X.env=pure false->swappedStores [g] e X.env=pure none->(assignEach [g] X.env).map (·.2)=[assign g X.env]->PS X (.Assign [g] e pos) (SS X cl (aT C (.xc (.asg T) l i t))):=by
 have P:∀e d,cE n c e=some d->Tells X.bS cl C e d:=λ e d h=>dJ n X.bS c e d o h;unfold Ey at h;split at h
 .ext x a r Z;let⟨p,b,rfl⟩:=gq Z;split at h
  .ext B;erw[Mz,M4,MZ] at B;let⟨S,h2,h3⟩:=aE B.1.1;have R:Gl X x:=o.glb B.1.2;split at h
   .ext Y np hf;split at h
    .ext tH;erw[Mt] at h;let⟨d,j,e⟩:=h;cases e;let⟨k,fa,fd,U,e1,N,M,L,I,G,F⟩:=O.fn hf;let⟨y,d1,d2,_,u,_⟩:=ee j;have q:=El (pos:=pos) (vA (pos:=b) (p:=p) Q G N R M L I .nil (BL (cj P j)) S (az y) (bP u)) F;exact⟨q.1 rfl,q.2.1,q.2.2⟩
    .cases h
   .split at h
    .ext Y hi;erw[Mt] at h;let⟨d,j,e⟩:=h;cases e;let⟨k,fa,fd,U,N,M,L,I,G,F⟩:=O.ini hi;let⟨y,d1,d2,_,u,_⟩:=ee j;have q:=Em (pos:=pos) (vB (pos:=b) (p:=p) Q M G N R L I .nil (BL (cj P j)) S (az y) (bP u)) F;exact⟨q.1 rfl,q.2.1,q.2.2⟩
    .cases h
  .cases h
 .cases h
theorem g7(o:Ok X.bS cl C c)(a:X.env.scope.names=c.names)(b:X.env.scope.kind=.function){d:S}(h:tM n c s=some d):PS X s (SS X cl (aT C d)):=by
 unfold tM at h;split at h
 .ext k j;split at h
  .ext g;cases h;exact HV g (BF o a b PassesOwn.never (λ _ _ z=>z) n s d j)
  .cases h
 .cases h
theorem xE:∀(n:Nat) (X:L2.Cx) (s:Stmt) (d:S),Ok X.bS cl C c->zZ X cl C z->X.env.scope.names=c.names->X.env.scope.kind=.function->X.ex=[]->X.stack=X.env::X.outer->X.env.frame=some X.env.locals->PassesOwn (model X.prog X.w) X.A X.env X.xe->cX n c z s=some d->PS X s (SS X cl (aT C d))
 |0,_,_,_,_,_,_,_,_,_,_,_,h=>by cases h
 |n+1,X,s,d,o,q,g,B,F,L,M,hp,h=>by
  have ih:∀e d,cE n c e=some d->Tells X.bS cl C e d:=λ e d h=>dJ n X.bS c e d o h;have t6:∀s d,cX n c z s=some d->PS X s (SS X cl (aT C d)):=λ s d h=>xE n X s d o q g B F L M hp h;unfold cX at h;split at h
  .split at h
   .ext x a O;let⟨np,cpos,rfl,rfl⟩:=pL O;unfold w9 at h;split at h
    .ext fo R;split at h
     .ext l;erw[Mz,M4,MZ] at l;let⟨P,h2,h3⟩:=aE l.1.1;erw[Mt] at h;let⟨d1,hd,rfl⟩:=h;let⟨Y,q2,q3⟩:=q.cls R;cases fo with
      |none=>
       let⟨bm,Q⟩:=q2 rfl;exact wX Q o.hand F (o.glb l.1.2) Y (xy (ih _ _ hd).1) P (az l.2)
      |some f=>
       let⟨bm,k,fa,fd,ps,Q,hfn,Fi,I,hb,hps⟩:=q3 f rfl;exact zV Q hfn Fi I hb hps F (o.glb l.1.2) Y (xy (ih _ _ hd).1) P (az l.2)
     .cases h
    .cases h;exact fL
   .cases h;exact fL
  .split at h
   .split at h
    .split at h
     .ext x y s0 r0 O;let⟨np,hpos,rfl⟩:=tN O;split at h
      .ext b hh hb hu;unfold HR at h;split at h
       .ext fo cs R Z;split at h
        .ext l;erw[Mz,M4,MZ] at l;let⟨P,h2,h3⟩:=aE l.1;let⟨Y,q2,q3⟩:=q.cls R;let⟨bm,j,Q,_⟩:=q.u.cls (MY R);have G:∀pn xe,PassesOwn (model X.prog X.w) X.A X.env xe->dO (X.jm pn xe) _ (SS (X.jm pn xe) cl (aD C b)):=λ pn xe hpo=>cF (λ s d h=>xE n (X.jm pn xe) s d o.jm q.jm g B F L M hpo h) hb;have HW:∀a pn,dO (X.gO (.ref a) pn ni) (s0::r0) (SS (X.gO (.ref a) pn ni) cl (aD C hh)):=λ a pn=>cF (BJ (o.gO) (q.u.of rfl rfl) n) hu;split at h
         .cases h;exact Ep F L M Q (o.glb l.2) Y P (q.hnd R Z) G HW
         .ext v;split at h
          .ext hv;erw[Mt] at h;let⟨i,hi,rfl⟩:=h;exact En F L M (show X.N.Nodup from BB (X:=X.bS) o) (o.slot hi) (by show X.env.scope.names.lookup v=_;rw[g];exact hv) Q (o.glb l.2) Y P (q.hnd R Z) G HW
          .cases h
        .cases h
       .cases h
      .cases h
     .cases h
    .cases h
   .cases h
  .split at h
   .ext d1 x y U T y3;cases h;exact wu (rH o q F (n+1) _ _ U).2 (cF t6 T) (cF t6 y3)
   .cases h
  .split at h
   .split at h
    .cases h
    .ext hs;split at h
     .ext t d1 x U T y3;cases h;exact wA hp o.calm (HU (rA o ih T)) (BN (nL o n _ _ U)) (cF t6 y3) (λ x=>lq ((MT _).mp hs) x)
     .cases h
   .cases h
  .split at h
   .split at h
    .ext d1 x U T;cases h;exact nA hp (BK (ih _ _ U).2) (cF t6 T)
    .cases h
   .cases h
  .split at h
   .ext mk i ds I;cases h;exact(xD o q F I).1
   .exact g7 o g B h
  .split at h
   .split at h
    .ext mk i ds I;cases h;exact(xD o q F I).2.1
    .rcases xC h with h | h
     .exact g7 o g B h
     .erw[Mt] at h;let⟨d1,P,rfl⟩:=h;exact pD (rH o q F n _ _ P).1
   .cases h;exact kP
  .split at h
   .split at h
    .ext t _ _ _;unfold BH at h;split at h
     .ext mk i ds I;split at h
      .cases h
      .ext l;erw[Ot,M4,O7,Bool.not_eq_false] at l;erw[Mt] at h;let⟨t1,ht,rfl⟩:=h;obtain⟨x,a,r,O⟩:∃x a r,ja _=some (x,a,r):=by
        unfold Ey at I;split at I
        .ext x a r O;exact⟨x,a,r,O⟩
        .cases I
       let⟨p,cpos,rfl⟩:=gq O;refine(xD o q F I).2.2 (BN (wU o n _ _ ht)) ?_ (j3 (by rw[(MT _).mp l.2];rfl)) (by rw[fN l.1];rfl);exact tO
     .cases h
    .
      rcases xC h with h | h
      .exact g7 o g B h
      .exact Aa o q F h
   .cases h
  .exact g7 o g B h
end
mutual
def aI:W->Bool
 |.tup xs=>ay xs
 |.fz xs=>ay xs
 |.obj _ _ vs=>ay vs
 |.ref _=>false
 |.non=>true
 |.bl _=>true
 |.int _=>true
 |.str _=>true
def ay:List W->Bool
 | []=>true
 |x::r=>aI x&&ay r
end
mutual
def tP(k:Nat):W->W
 |.tup xs=>.tup (gU k xs)
 |.fz xs=>.fz (gU k xs)
 |.obj c ks vs=>.obj c ks (gU k vs)
 |.ref n=>.ref (k+n)
 |.non=>.non
 |.bl b=>.bl b
 |.int i=>.int i
 |.str x=>.str x
def gU(k:Nat):List W->List W
 | []=>[]
 |x::r=>tP k x::gU k r
end
def Ab(k:Nat):List (Str×W)->List (Str×W)
 | []=>[]
 |(f,x)::r=>(f,tP k x)::Ab k r
def EC(k:Nat):O->O
 |.lst xs=>.lst (gU k xs)
 |.ins c fs=>.ins c (Ab k fs)
 |.set ks=>.set ks
 |.dic fs=>.dic (Ab k fs)
 |.exc c f ws=>.exc c f (gU k ws)
def aP(f:List W->Mem->R W)(ws:List W)(m:Mem):R W:=
 if ay ws then match f ws [] with
  |.ok w a=>if aI w then .ok w m else .ok (tP m.length w) (m++a.map (EC m.length))
  |.no=>.no
 else f ws m
set_option genInjectivity false in
structure Pg where
 fns:List Fn
 cs:Cs
 fuel:Nat
 z:Cz:={}
def eT(p:Pg):Nat->Nat->List W->Mem->R F
 |0,_,_,_=>.no
 |n+1,f,ws,m=>match p.fns[f]? with
  |none=>.no
  |some d=>if ws.length=d.np then aD ⟨λ f=>aP (λ ws m=>(eT p n f ws m).bind outF),p.fuel,p.cs,λ f=>eT p n f⟩ d.body (cK d.nl ws) m else .no
def runN(p:Pg)(n f:Nat)(ws:List W)(m:Mem):R W:=(eT p n f ws m).bind outF
theorem runN_succ(p:Pg)(n f:Nat)(ws:List W)(m:Mem):runN p (n+1) f ws m=match p.fns[f]? with
  |none=>.no
  |some d=>if ws.length=d.np then (aD ⟨λ f=>aP (runN p n f),p.fuel,p.cs,λ f=>eT p n f⟩ d.body (cK d.nl ws) m).bind outF else .no:=by
 unfold runN;rw[eT];cases p.fns[f]? with
 |none=>rfl
 |some d=>
  dsimp only;split
  .rfl
  .rfl
theorem RW.pure{g:List Addr}(q:RW K J H w v):aI w=true->RW K g H w v:=
 RW.rec (motive_1:=λ w v _=>aI w=true->RW K g H w v) (motive_2:=λ w v _=>ay w=true->aA K g H w v) (λ _=>.non) (λ b _=>.bl b) (λ b _=>.int b) (λ b _=>.str b) (λ h _ i e=>.tup h (i e)) (λ h _ i e=>.fz h (i e)) (λ h z _ i e=>.obj h z (i e)) (λ q e=>nomatch (show false=true from e)) (λ _=>.nil) (λ _ _ a b e=>.cons (a (MF.mp e).1) (b (MF.mp e).2)) q
theorem aA.pure{h:List Addr}{w:List W}{v:List V}(q:aA K J H w v)(e:ay w=true):aA K h H w v:=by
 induction w generalizing v with
 |nil=>cases q;exact .nil
 |cons x w g=>cases q with | cons a b=>exact .cons (a.pure (MF.mp e).1) (g b (MF.mp e).2)
theorem RW.shift(q:RW K γ H w v):RW K (J++γ) H (tP J.length w) v:=
 RW.rec (motive_1:=λ w v _=>RW K (J++γ) H (tP J.length w) v) (motive_2:=λ w v _=>aA K (J++γ) H (gU J.length w) v) .non .bl .int .str (λ h _ i=>.tup h i) (λ h _ i=>.fz h i) (λ h e _ i=>.obj h e i) (λ q=>.ref (by rw[ML (by omega),Oa];exact q)) .nil (λ _ _ a b=>.cons a b) q
theorem aA.shift{w:List W}{v:List V}(q:aA K γ H w v):aA K (J++γ) H (gU J.length w) v:=by
 induction w generalizing v with
 |nil=>cases q;exact .nil
 |cons x w g=>cases q with | cons a b=>exact .cons a.shift (g b)
theorem cV.shift{w:List (Str×W)}{v:List (Str×V)}(q:cV K γ H w v):cV K (J++γ) H (Ab J.length w) v:=by
 induction q with
 |nil=>exact .nil
 |cons a b g=>exact .cons a.shift g
theorem RO.shift{a:Addr}{o:O}(q:RO K cl γ H a o):RO K cl (J++γ) H a (EC J.length o):=by
 cases o with
 |lst ws=>let⟨vs,e,t⟩:=q;exact⟨vs,e,t.shift⟩
 |ins c fs=>let⟨k,b,e,t⟩:=q;exact⟨k,b,e,t.shift⟩
 |dic fs=>let⟨b,e,t⟩:=q;exact⟨b,e,t.shift⟩
 |exc c f ws=>let⟨j,h,vs,e,g,t,d⟩:=q;exact⟨j,h,vs,e,g,t.shift,d⟩
 |set l=>exact q
theorem tQ{np:Nat}{f:List W->Mem->R W}{Q:VK}{E:XK}(h:qR K cl np (aP f) vs H Q E):qR K cl np f vs H Q E:=by
 let⟨G,J,m,ws,w,N,r,t,e,k⟩:=h;unfold aP at e;split at e
 .ext P;split at e
  .ext L M U;refine⟨G,[],[],ws,L,M,⟨rfl,nodup_nil,λ {n o a} h=>by simp at h⟩,t.pure P,U,fun I z v x A q=>?_⟩;have B:∀{a:Addr} {o:HO},H a=some o->z a=some o:=λ h=>x.keep h 's' 's';have C:Ext J H J z:=⟨⟨[],by simp,by simp⟩,λ h _ _=>B h⟩;have D:Rel K cl J m z:=⟨r.len,r.nd,λ j l=>by
    have q:=r.obj j l;let⟨u,e,_⟩:=q.ex;exact q.mono r C ((B e).trans e.symm)⟩
   split at e
   .ext O;cases e;exact k J z v C D (q.pure O)
   .cases e;let⟨γ,y,g⟩:=x.pre;rw[nil_append] at y;subst y;rw[<-r.len] at k;refine k (J++I) z v ⟨⟨I,rfl,g⟩,λ h _ _=>B h⟩ ⟨by simp[r.len,A.len],?_,λ {n o a} j l=>?_⟩ q.shift
    .rw[PD];refine⟨r.nd,A.nd,λ a T b S=>?_⟩;rintro rfl;let⟨u,e,_⟩:=r.ex T;rw[g a S] at e;cases e
    .by_cases F:n<J.length
     .rw[MI (by rw[<-r.len];exact F)] at j;rw[MI F] at l;exact(D.obj j l).sub λ {n a} h=>by rw[MI (Mw.mp h).1];exact h
     .rw[ML (by rw[<-r.len];lia),Oc] at j;rw[ML 'o'] at l;erw[Mt] at j;let⟨X,j,rfl⟩:=j;rw[<-r.len] at j;exact(A.obj j l).shift
  .cases e
 .exact⟨G,J,m,ws,w,N,r,t,e,k⟩
theorem tR{f:List W->Mem->R W}{j:Mem}(h:aP f ws m=.ok w j):∃m1 b g a,f a m1=.ok b g/\ws=a:=by
 unfold aP at h;split at h
 .split at h
  .exact⟨_,_,_,_,by assumption,rfl⟩
  .cases h
 .exact⟨_,_,_,_,h,rfl⟩
section
variable{P:Program}{w:World}{K:ae}{mg:Str->Option Value}{base:Heap}{fns:List (Str×(Nat×Nat))}{gl:List (Str×W)}{fz:List Pos}{p:Pg}
def J5:Option S->Option S
 |some d=>some d
 |none=>some .never
theorem ED{o:Option S}{d:S}(h:J5 o=some d):o=some d\/d=.never:=by
 cases o with
 |none=>cases h;exact .inr rfl
 |some x=>exact .inl h
abbrev cB(p:Pg)(c:Ci):Stmt->Option S:=λ s=>J5 (cX 60 c p.z s)
def FD(K:ae)(p:Pg)(fns:List (Str×(Nat×Nat)))(gl:List (Str×W))(fz:List Pos)(i:Nat)(x:Str)(f:Addr)(j:FuncData)(h:List Str):Prop:=
 ∃(b:Str) (g:Stmt) (N:List Str) (a:Ss),AR K x b g f j/\dm N h (av g)/\lO (cB p ⟨N,(av g).names,fns,gl,p.cs,fz⟩) (bx g)=some a/\p.fns[i]?=some ⟨h.length,N.length,a⟩/\Binds K j h []
structure FA(K:ae)(w:World)(mg:Str->Option Value)(p:Pg)(fns:List (Str×(Nat×Nat)))(gl:List (Str×W))(fz:List Pos):Prop where
 blt:∀x∈gm,mg x=none
 glo:∀{x:Str} {w:W},gl.lookup x=some w->∃u v,mg x=some u/\RelV v u/\∀J H,RW K J H w v
 fn:∀{x:Str} {i np:Nat},fns.lookup x=some (i,np)->∃f fd ps,ps.length=np/\FD K p fns gl fz i x f fd ps/\mg x=@(.ref f)
 mth:∀{c x:Str} {i:Nat},p.cs.mths.lookup (c,x)=some i->∃f fd ps,FD K p fns gl fz i x f fd ps/\sd K (ah K c)/\Meth K (ah K c) x f
 ini:∀{c:Str} {i:Nat},p.cs.ini.lookup c=some i->∃f fd ps,FD K p fns gl fz i "__init__" f fd ps/\Mk K (ah K c) f/\mg c=@(.ref (ah K c))
 fld:∀{c x:Str},p.cs.flds.contains (c,x)=true->sd K (ah K c)/\dP K (ah K c) x
 dic:∀{x:Str} {kvs:List (Str×W)},p.cs.dic.lookup x=some kvs->TopK K w mg x kvs
 isc:∀{x:Str},p.cs.isc.contains x=true->mg x=some (.ref (ah K x))/\DI K (ah K x)
structure FZ(K:ae)(mg:Str->Option Value)(p:Pg)(fns:List (Str×(Nat×Nat))):Prop where
 fn:∀{x:Str} {v:Nat×Nat},p.z.fn.lookup x=some v->fns.lookup x=some v
 ini:∀{x:Str} {i:Nat},p.z.ini.lookup x=some i->p.cs.ini.lookup x=some i
 cls:∀{x:Str} {fo:Option Str},p.z.cls.lookup x=some fo->mg x=some (.ref (ah K x))/\(fo=none->∃bm,XC K (ah K x) bm none)/\∀f,fo=some f->∃(bm:List Value) (fa:Addr) (fd:FuncData) (ps:List Str),XC K (ah K x) bm @(.ref fa)/\PySem.W.typeIn K (.ref fa)=some (.type "function")/\(∀P w base,aY P w K mg base tX 1 fa fd ps (A9 (ah K x) f))/\Binds K fd ps []/\ps.length=2
 hnd:∀{x:Str} {fo:Option Str} {cs:List Str},p.z.cls.lookup x=some fo->p.z.sub.lookup x=some cs->∀c,cs.contains c=true->∃bm j,XC K (ah K c) bm j/\(Value.ref (ah K c)::bm).contains (.ref (ah K x))=true
 sub:∀{t:Str} {cs:List Str},p.z.sub.lookup t=some cs->(mg t=some (l7 K t)\/mg t=none/\bootBuiltins t=@(l7 K t))/\∀{c fo},p.z.cls.lookup c=some fo->PySem.W.kitOne K (.ref (ah K c)) (l7 K t)=@(cs.contains c)
 exc:∀{c:Str} {fo:Option Str},(c,fo)∈p.z.cls->∃bm j,XC K (ah K c) bm j/\XG K (ah K c)/\∀f,fo=some f->PySem.W.findIn K (.ref (ah K c)) f=some none
theorem RL.start{N:List Str}(t:aA K J H ws vs):RL K J H (cK N.length ws) (L2.start N vs):=by
 refine⟨?_,λ {i w} h=>?_⟩
 .unfold cK L2.start;simp[t.length]
 .unfold cK at h
  by_cases a:i<ws.length
  .rw[MI (~~~a),Oc] at h;erw[Mt] at h;let⟨j,g,b⟩:=h;cases b;let⟨v,e,q⟩:=t.get g;refine⟨v,?_,q⟩;unfold L2.start;rw[MI (by rw[Nk,<-t.length];exact a),Oc,e];rfl
  .rw[ML (~~~a),getElem?_replicate] at h;split at h<;>cases h
theorem rJ{np:Nat}{Q:VK}{E:XK}(h:qR K cl np (runN p n i) vs H Q E):zU K cl np (eT p n i) vs H Q E:=by
 let⟨j,J,m,ws,w,o,r,t,e,k⟩:=h;let⟨x,A,l,a⟩:=R.af (show (eT p n i ws m).bind outF=.ok w o from e);cases x with
 |nx Z=>cases a;exact⟨j,J,m,ws,_,_,r,t,l,fun y z b g=>k _ _ _ b g .non⟩
 |rt u=>cases a;exact⟨j,J,m,ws,_,_,r,t,l,fun y z b g v q=>k _ _ _ b g q⟩
 |rz c B Z=>cases a
 |bk Z=>cases a
 |ct Z=>cases a
theorem pM(C:FA K w mg p fns gl fz)(X:FZ K mg p fns):∀(n:Nat) {i:Nat} {x:Str} {f:Addr} {g:FuncData} {b:List Str},FD K p fns gl fz i x f g b->aY P w K mg base (iZ P w) (2*n+1) f g b (zU K ⟨P,w⟩ b.length (eT p n i))
 |0,i,x,f,g,b,h=>⟨λ vs H Q E q=>q.1,λ A outer s H args us vs Q E I he KD hv hs=>by
   let⟨_,_,_,_,_,_,_,_,e,_⟩:=hs;cases e⟩
 |n+1,i,x,f,g,b,h=>by
  let⟨qual,st,N,body,F,S,hb,hi,hB⟩:=h;refine F.Lr (k:=2*n+2) S (λ vs H Q E h=>h.1) (λ cdv A outer s H vs Q E I h=>?_);let⟨hl,J,m,ws,fl,m',r,t,e,k⟩:=h;have J6:∀{M:Nat} {x':Str} {f':Addr} {u:FuncData} {a:List Str},FD K p fns gl fz M x' f' u a->∀ws m fl m',eT p n M ws m=.ok fl m'->ws.length=a.length:=λ T ws m fl m' U=>by
   let⟨_,_,_,_,_,_,_,hi',_⟩:=T;cases n with
   |zero=>cases (show (R.no:R D.F)=.ok _ _ from U)
   |succ n=>
    erw[eT,hi'] at U;split at U
    .assumption
    .cases U
  have tH:∀{M:Nat} {x':Str} {f':Addr} {u:FuncData} {a:List Str},FD K p fns gl fz M x' f' u a->∀ws m w m',aP (runN p n M) ws m=.ok w m'->ws.length=a.length:=λ T ws m w m' U=>by
   let⟨m1,w1,m2,Bc,U,hlw⟩:=tR U;let⟨fl,m3,e1,_⟩:=R.af (show (eT p n _ Bc m1).bind outF=.ok w1 m2 from U);rw[hlw];exact J6 T _ _ _ _ e1
  have go:∀{M:Nat} {x':Str} {f':Addr} {u:FuncData} {a:List Str},FD K p fns gl fz M x' f' u a->aY P w K mg base (iZ P w) (2*n+1) f' u a (zU K ⟨P,w⟩ a.length (eT p n M))/\aY P w K mg base (tY P w) (2*n+1) f' u a (qR K ⟨P,w⟩ a.length (aP (runN p n M))):=λ T=>
   ⟨pM C X n T,(pM C X n T).imp λ _ _ _ _ q=>rJ (tQ q)⟩
  have o:Ok (fB (iZ P w) P w K mg base N qual (av st) f cdv A outer s H E).bS ⟨P,w⟩ ⟨λ f=>aP (runN p n f),p.fuel,p.cs,λ f=>eT p n f⟩ ⟨N,(av st).names,fns,gl,p.cs,fz⟩:=by
   refine⟨rfl,S.nd,λ {x k} L hv=>?_,λ {x k} L hv=>?_,λ {x} L=>L,λ {x} L=>L,rfl,⟨I.units,rfl,rfl,I.gd⟩,I.hd,C.blt,λ {x i np} G=>?_,C.glo,rfl,C.fld,λ {c x i} G=>?_,λ {c i} G=>?_,C.dic,C.isc⟩
   .rcases hv with rfl | rfl | rfl
    .exact .inl L
    .exact .inr (.inl L)
    .exact .inr (.inr L)
   .rcases hv with rfl | rfl
    .exact⟨.inl L,.inl rfl⟩
    .exact⟨.inr L,.inl rfl⟩
   .let⟨B,g,b,h1,j,O⟩:=C.fn G;have hkp:PySem.W.keepIn K (.ref B)=true:=let ⟨_,_,_,_,F,_,_,_,_⟩:=j;F.kp;have l:Binds K g b []:=let ⟨_,_,_,_,_,_,_,_,z⟩:=j;z;exact⟨2*n+1,B,g,b,h1,I.mono 'o',O,hkp,l,(go j).2⟩
   .let⟨B,g,b,j,O,h4⟩:=C.mth G;have l:Binds K g b []:=let ⟨_,_,_,_,_,_,_,_,z⟩:=j;z;exact⟨2*n+1,B,g,b,I.mono 'o',O,h4,l,(go j).2,tH j⟩
   .let⟨B,g,b,j,O,h4⟩:=C.ini G;have l:Binds K g b []:=let ⟨_,_,_,_,_,_,_,_,z⟩:=j;z;exact⟨2*n+1,B,g,b,I,O,h4,l,(go j).2,tH j⟩
  have oz:zZ (fB (iZ P w) P w K mg base N qual (av st) f cdv A outer s H E) ⟨P,w⟩ ⟨λ f=>aP (runN p n f),p.fuel,p.cs,λ f=>eT p n f⟩ p.z:=by
   refine⟨λ {x i np} G=>?_,λ {x i} G=>?_,λ {x fo} G=>?_,X.hnd,X.sub,X.exc⟩
   .let⟨B,g,b,h1,j,O⟩:=C.fn (X.fn G);have hkp:PySem.W.keepIn K (.ref B)=true:=let ⟨_,_,_,_,F,_,_,_,_⟩:=j;F.kp;have l:Binds K g b []:=let ⟨_,_,_,_,_,_,_,_,z⟩:=j;z;exact⟨2*n+1,B,g,b,h1,I.mono 'o',O,hkp,l,(go j).1,J6 j⟩
   .let⟨B,g,b,j,O,h4⟩:=C.ini (X.ini G);have l:Binds K g b []:=let ⟨_,_,_,_,_,_,_,_,z⟩:=j;z;exact⟨2*n+1,B,g,b,I,O,h4,l,(go j).1,J6 j⟩
   .let⟨q1,q2,q3⟩:=X.cls G;refine⟨q1,q2,λ f hf=>?_⟩;let⟨bm,B,g,b,y1,y2,y3,y4,y5⟩:=q3 f hf;exact⟨bm,1,B,g,b,y1,y2,y3 P w base,I.mono 'o',y4,y5⟩
  refine⟨_,cF (λ s d h=>by
   rcases ED (show J5 (cX 60 _ p.z s)=some d from h) with h1 | rfl
   .exact xE 60 _ s d o oz rfl S.kind rfl rfl rfl yZ h1
   .exact fL) hb,?_⟩
  erw[eT,hi] at e;split at e
  .refine⟨J,cK N.length ws,m,fl,m',r,RL.start t,e,fun β1 H1 x1 r1=>?_⟩;have q:=k β1 H1 x1 r1;cases fl with
   |nx Z=>exact fun Y _=>q
   |rt w=>exact q
   |rz c fw Z=>
    rcases fw with _ | ⟨f,w⟩
    .exact fun Y _=>qK q
    .exact fun Y y dx _ qq T=>qK (q y dx qq T)
   |bk Z=>exact q.elim
   |ct Z=>exact q.elim
  .cases e
theorem sound(j:FA K w mg p fns gl fz)(g:FZ K mg p fns)(n:Nat){x:Str}{f:Addr}{b:FuncData}{a:List Str}(h:FD K p fns gl fz i x f b a):aY P w K mg base (tY P w) (2*n+1) f b a (qR K ⟨P,w⟩ a.length (runN p n i)):=
 (pM j g n h).imp λ _ _ _ _ q=>rJ q
end
theorem xF{l:PySem.W.OpenLaw}{q:Program}{b:List Str}{M:(Str->Option Value)->Heap->Prop}{A:World->Heap->Prop}{d:DefRec}{K:Params->ae}{p:Pg}{x:Str}
  (C:l.most=some 63) (r:d.params.defaults=[]) (G:∀(w:World) (h:Heap),A w h->(K w.params).In h)
  (F:∀(w:World) (g:Str->Option Value) (y:Addr) (h:Heap),(K w.params).In h->h.Ns mainGlobals g->g d.name=some (.ref y)->
   ∃t:FuncData,(∀(s:Shared) (u:Value),BindsTo s t ⟨[u],[]⟩ [(x,u)])/\
    ∀base:Heap,(K w.params).In base->base.Ns mainGlobals g->aY l.prog w (K w.params) g base (tY l.prog w) 81 y t [x] (qR (K w.params) ⟨l.prog,w⟩ 1 (runN p 40 i)))
  (N:∀ns:List Int,ns.length<=63->∃j,runN p 40 i [.fz (ns.map .int)] []=.ok (.bl true) j) :
  PySem.W.WalkO q b M A l.row.toRowW d [] (λ f vs=>PySem.call f vs):=by
 refine L2.yO (n:=63) (k:=81) (x:=x) (CX:=λ w=>tY l.prog w) (sp:=λ w=>qR (K w.params) ⟨l.prog,w⟩ 1 (runN p 40 i)) C 'd' r ⟨rfl,by decide,by decide,rfl⟩ G F (λ w H a ns D L I=>?_) λ _ _ _ _ _ z=>Lw z;let⟨j,e⟩:=N ns D;have B:nq (K w.params) H a (ns.map V.int):=by
  rcases I with (h | ⟨o,h⟩) | h
  .rcases L a with z | ⟨o,xs,z⟩
   .rw[h] at z;cases z
   .rw[h] at z;cases z
  .exact .inl ⟨o,h⟩
  .exact .inr h
 refine⟨rfl,[],[],[.fz (ns.map .int)],.bl true,j,⟨rfl,nodup_nil,λ {n o a} h=>by simp at h⟩,.cons (.fz B (aA.ints ns)) .nil,e,fun O P v _ _ q=>?_⟩;cases q;rfl
end D
namespace D
open PySem List
variable{C:Cx}{b:Ss}{e it:E}{f:List W->Mem->R W}{i n:Nat}{m m0 m1:Mem}{o:O}{p:Pg}{s:Src}{w:W}{ws xs:List W}{α:Type}{Z:Loc}
theorem nP{J:Type}[BEq α][LawfulBEq α]{x:α}{b:J}{l:List (α×J)}(h:l.lookup x=some b):(x,b)∈l:=by
 induction l with
 |nil=>simp at h
 |cons p l a=>
  let⟨y,c⟩:=p;rw[MH] at h;split at h
  .ext d;cases h;rw[eq_of_beq d];exact Nc
  .exact MP _ (a h)
abbrev Cn(p:Pg)(n:Nat):D.Cx:=⟨λ f=>aP (D.runN p n f),p.fuel,p.cs,λ f=>D.eT p n f⟩
section
variable{get:Mem->Nat->Nx}{t:T}{test:Loc->Mem->R Bool}{body:Loc->Mem->List W->R (List W×Loc)}{xG:Loc->Mem->R F}{k i:Nat}{Z Z1 Z2:Loc}{m m1 m2:Mem}{acc pN:List W}{x w:W}
theorem tS(h:get m i=.fin):bC get t test body k i Z m acc=.ok (acc,Z) m:=by unfold bC;rw[h]
theorem xH(h:get m i=.it x)(d:aG t x Z=some Z1)(a:test Z1 m=.ok true m1)(c:body Z1 m1 acc=.ok (pN,Z2) m2):bC get t test body (k+1) i Z m acc=bC get t test body k (i+1) Z2 m2 pN:=by
 rw[bC,h];erw[d,a,R.bind,ND,c]
theorem pO(h:get m i=.it x)(c:aG t x Z=some Z1)(a:test Z1 m=.ok false m1):bC get t test body (k+1) i Z m acc=bC get t test body k (i+1) Z1 m1 acc:=by
 rw[bC,h];erw[c,a,R.bind,MS,MR]
theorem xJ(h:get m i=.fin):dS get t xG k i Z m=.ok (.nx Z) m:=by unfold dS;rw[h]
theorem Ac(h:get m i=.it x)(c:aG t x Z=some Z1)(a:xG Z1 m=.ok (.nx Z2) m2):dS get t xG (k+1) i Z m=dS get t xG k (i+1) Z2 m2:=by
 rw[dS,h];erw[c,R.bind,a]
theorem Ad(h:get m i=.it x)(c:aG t x Z=some Z1)(a:xG Z1 m=.ok (.ct Z2) m2):dS get t xG (k+1) i Z m=dS get t xG k (i+1) Z2 m2:=by
 rw[dS,h];erw[c,R.bind,a]
theorem nQ(I:Nat->Loc->Mem->Prop)(g:∀i Z m,i<n->I i Z m->∃x Z1 Z2 m2,get m i=.it x/\aG t x Z=some Z1/\(xG Z1 m=.ok (.nx Z2) m2\/xG Z1 m=.ok (.ct Z2) m2)/\I (i+1) Z2 m2)(j:∀Z m,I n Z m->get m n=.fin) :
  ∀(k i:Nat) (Z:Loc) (m:Mem),i+k=n->I i Z m->∃a d,dS get t xG k i Z m=.ok (.nx a) d/\I n a d
 |0,i,Z,m,hi,h=>by
  have e:i=n:=by lia
  subst e;exact⟨Z,m,xJ (j Z m h),h⟩
 |k+1,i,Z,m,hi,h=>by
  let⟨x,Z1,Z2,m2,q,l,c,u⟩:=g i Z m 'o' h;let⟨a,d,e,r⟩:=nQ I g j k (i+1) Z2 m2 'o' u;refine⟨a,d,?_,r⟩;rcases c with c | c
  .rw[Ac q l c,e]
  .rw[Ad q l c,e]
theorem eK(I:Nat->Loc->Mem->List W->Prop)
  (g:∀i Z m acc,i<n->I i Z m acc->∃x Z1,get m i=.it x/\aG t x Z=some Z1/\((∃m1 pN Z2 m2,test Z1 m=.ok true m1/\body Z1 m1 acc=.ok (pN,Z2) m2/\I (i+1) Z2 m2 pN)\/∃m1,test Z1 m=.ok false m1/\I (i+1) Z1 m1 acc))
  (j:∀Z m acc,I n Z m acc->get m n=.fin) :
  ∀(k i:Nat) (Z:Loc) (m:Mem) (acc:List W),i+k=n->I i Z m acc->∃c a d,bC get t test body k i Z m acc=.ok (c,a) d/\I n a d c
 |0,i,Z,m,acc,hi,h=>by
  have e:i=n:=by lia
  subst e;exact⟨acc,Z,m,tS (j Z m acc h),h⟩
 |k+1,i,Z,m,acc,hi,h=>by
  obtain⟨x,Z1,y,v,⟨m1,pN,Z2,m2,r,z,q⟩ | ⟨m1,r,q⟩⟩:=g i Z m acc 'o' h
  .let⟨u,a,d,e,l⟩:=eK I g j k (i+1) Z2 m2 pN 'o' q;exact⟨u,a,d,by rw[xH y v r z,e],l⟩
  .let⟨u,a,d,e,l⟩:=eK I g j k (i+1) Z1 m1 acc 'o' q;exact⟨u,a,d,by rw[pO y v r,e],l⟩
end
theorem bq{s:S}{r:Ss}{Z1:Loc}(h:aT C s Z m=.ok (.nx Z1) m1):aD C (.cons s r) Z m=aD C r Z1 m1:=by erw[dD,h,R.bind]
theorem pP{s:S}{r:Ss}(h:aT C s Z m=.ok (.rt w) m1):aD C (.cons s r) Z m=.ok (.rt w) m1:=by erw[dD,h,R.bind]
theorem pQ{f:Nat}{d:Fn}(c:p.fns[f]?=some d)(a:ws.length=d.np)(h:aD (Cn p n) d.body (cK d.nl ws) m=.ok (.rt w) m1):D.runN p (n+1) f ws m=.ok w m1:=by
 rw[D.runN_succ,c];erw[a,ND,h,R.bind,outF]
theorem EE(h:ao C e Z m=.ok w m1):aT C (.asg (.pt (.var i)) e) Z m=.ok (.nx (Z.set i (some w))) m1:=by erw[dX,h,R.bind,cN,aG]
theorem dH{Z1:Loc}(h:ao C e Z m=.ok w m1)(a:Z.set i (some w)=Z1):aT C (.asg (.pt (.var i)) e) Z m=.ok (.nx Z1) m1:=by rw[EE h,a]
theorem pS(h:ao C e Z m=.ok w m1):aT C (.ret e) Z m=.ok (.rt w) m1:=by erw[jM,h,R.bind]
theorem J8{t:E}{a:Ss}(h:aR C t Z m=.ok true m1):aT C (.ife t a b) Z m=aD C a Z m1:=by erw[jN,h,R.bind,ND]
theorem xK{t:E}{a:Ss}(h:aR C t Z m=.ok false m1):aT C (.ife t a b) Z m=aD C b Z m1:=by erw[jN,h,R.bind,MS,MR]
theorem EF{t:T}{a:Mem}{f:F}(h:gE C it Z m=.ok s m1)(c:dS s.get t (fun Z m=>aD C b Z m) (s.len m1) 0 Z m1=.ok f a):aT C (.for_ t it b) Z m=.ok f a:=by erw[iV,h,R.bind,c]
theorem Ae{t:T}(l:gE C it Z m=.ok s m1)(j:s.len m1=n)(I:Nat->Loc->Mem->Prop)(u:I 0 Z m1)
  (h:∀i Z m,i<n->I i Z m->∃x Z1 g d,s.get m i=.it x/\aG t x Z=some Z1/\(aD C b Z1 m=.ok (.nx g) d\/aD C b Z1 m=.ok (.ct g) d)/\I (i+1) g d) (k:∀Z m,I n Z m->s.get m n=.fin) :
  ∃a c,aT C (.for_ t it b) Z m=.ok (.nx a) c/\I n a c:=by
 let⟨a,c,r,q⟩:=nQ (get:=s.get) (t:=t) (xG:=fun Z m=>aD C b Z m) I h k n 0 Z m1 'o' u;exact⟨a,c,EF l (by rw[j];exact r),q⟩
theorem rK{t:T}{js:List Nat}{ifs:Es}{g:G}{a:Loc}{c:Mem}(h:gE C it Z m=.ok s m1)(j:bC s.get t (fun Z m=>aX C ifs Z m) (fun Z m d=>f9 C g Z m d) (s.len m1) 0 (fW js Z) m1 []=.ok (ws,a) c):ao C (.comp (.gen t js it ifs g)) Z m=.ok (.ref c.length) (c++[.lst ws]):=by
 erw[iS,jK,h,R.bind,j,new]
theorem EG(a:ao C e Z m=.ok (.int n) m1)(h:n<=1000000):gE C (.rng e) Z m=.ok (.rng 0 n) m1:=by
 erw[AY,a,R.bind];rw[MO 'o',OF]
theorem pT{lo:Int}(h:i<n):Src.get (.rng lo n) m i=.it (.int (lo+i)):=by erw[Src.get,h,ND]
theorem nR{lo:Int}(h:¬i<n):Src.get (.rng lo n) m i=.fin:=by erw[Src.get,h,MR]
theorem cu(h:i<xs.length):Src.get (.tup xs) m i=.it xs[i]:=by erw[Src.get,M6 h]
theorem bR(h:¬i<xs.length):Src.get (.tup xs) m i=.fin:=by erw[Src.get,getElem?_eq_none (Pn h)]
theorem pU(h:s.get m i=.it w):Src.get (.enm s) m i=.it (.tup [.int i,w]):=by erw[Src.get,h]
theorem nU(h:s.get m i=.fin):Src.get (.enm s) m i=.fin:=by erw[Src.get,h]
theorem rL(h:m[n]?=@(.lst xs))(i:Nat):Src.get (.lst n) m i=Src.get (.tup xs) m i:=by erw[Src.get,getL,h]
theorem xM:∀ns:List Int,ay (ns.map W.int)=true
 | []=>rfl
 |n::r=>by simp[ay,aI,xM r]
theorem fk:∀{xs:List W},ay xs=true↔∀x∈xs,aI x=true
 | []=>by simp[ay]
 |x::r=>by simp[ay,fk (xs:=r)]
theorem HX{f:α->W}(h:∀a,aI (f a)=true)(xs:List α):ay (xs.map f)=true:=fk.mpr λ x c=>by
 let⟨a,_,rfl⟩:=Om.mp c;exact h a
mutual
theorem xN(g:Nat->Option W):∀{w:W},aI w=true->jl g w=some w
 |.non,_=>rfl
 |.bl _,_=>rfl
 |.int _,_=>rfl
 |.str _,_=>rfl
 |.tup xs,h=>by erw[jl,cY g (by simpa only[aI] using h:ay xs=true)];rfl
 |.fz xs,h=>by erw[jl,cY g (by simpa only[aI] using h:ay xs=true)];rfl
 |.obj c ks vs,h=>by erw[jl,cY g (by simpa only[aI] using h:ay vs=true)];rfl
 |.ref _,h=>by simp[aI] at h
theorem cY(g:Nat->Option W):∀{w:List W},ay w=true->dN g w=some w
 | [],_=>rfl
 |x::r,h=>by
  erw[ay,Mz] at h;erw[dN,xN g h.1,cY g h.2]
end
theorem jb(k:Nat):aI w=true->fc k w=true:=
 W.rec (motive_1:=λ w=>aI w=true->fc k w=true) (motive_2:=λ w=>ay w=true->bG k w=true) (λ _=>rfl) (λ _ _=>rfl) (λ _ _=>rfl) (λ _ _=>rfl) (λ _ i e=>i e) (λ _ i e=>i e) (λ _ _ _ i e=>i e) (λ _ e=>nomatch (show false=true from e)) (λ _=>rfl) (λ _ _ a b e=>MF.mpr ⟨a (MF.mp e).1,b (MF.mp e).2⟩) w
theorem E9(k:Nat){w:List W}(e:ay w=true):bG k w=true:=by
 induction w with
 |nil=>rfl
 |cons x r a=>exact MF.mpr ⟨jb k (MF.mp e).1,a (MF.mp e).2⟩
theorem xO{k l:Nat}(c:k<=l):fc k w=true->fc l w=true:=
 W.rec (motive_1:=λ w=>fc k w=true->fc l w=true) (motive_2:=λ w=>bG k w=true->bG l w=true) (λ _=>rfl) (λ _ _=>rfl) (λ _ _=>rfl) (λ _ _=>rfl) (λ _ i e=>i e) (λ _ i e=>i e) (λ _ _ _ i e=>i e) (λ _ e=>N7 (MG (Oh e) c)) (λ _=>rfl) (λ _ _ a b e=>MF.mpr ⟨a (MF.mp e).1,b (MF.mp e).2⟩) w
theorem eL{k l:Nat}(c:k<=l){w:List W}(e:bG k w=true):bG l w=true:=by
 induction w with
 |nil=>rfl
 |cons x r a=>exact MF.mpr ⟨xO c (MF.mp e).1,a (MF.mp e).2⟩
theorem j6{k l:Nat}(a:k<=l)(h:dB k o=true):dB l o=true:=by
 cases o with
 |lst xs=>exact eL a h
 |ins c fs=>exact eL a h
 |dic fs=>exact eL a h
 |exc c f ws=>exact eL a h
 |set d=>rfl
def Cm(m:Mem):Prop:=sO m.length m=true
theorem nV{k:Nat}:sO k m=true↔∀o∈m,dB k o=true:=by simp[sO,Ph]
theorem Cm.set{p:Nat}(h:Cm m)(ho:dB m.length o=true):Cm (m.set p o):=by
 unfold Cm at h ⊢;rw[Py,nV] at *;intro x a;rcases mem_or_eq_of_mem_set a with a | rfl
 .exact h x a
 .exact ho
theorem Cm.app{l:Mem}(h:Cm m)(c:∀o∈l,dB (m.length+l.length) o=true):Cm (m++l):=by
 unfold Cm at h ⊢;rw[nV] at *;intro x a;rw[Nm];rcases M7.mp a with a | a
 .exact j6 'o' (h x a)
 .exact c x a
theorem Cm.push(h:Cm m)(ho:dB m.length o=true):Cm (m++[o]):=h.app λ x a=>by
 rw[Nz] at a;subst a;exact j6 's' ho
theorem EH{l:Mem}{c:W}(h:ao C e Z m=.ok w (m0++l))(a:m0.length=m.length)(j:Cm m0)(g:jl (AX (m0++l) m0.length 8) w=some c):ao C (.frz e) Z m=.ok c m0:=by
 have d:(m0++l).take m.length=m0:=by rw[<-a,take_left'];rfl
 have k:m.length<=(m0++l).length/\sO m.length ((m0++l).take m.length)=true:=⟨by rw[Nm];lia,by rw[d,<-a];exact j⟩;erw[jJ,h,u6];rw[MO k,<-a,g];erw[a,d]
theorem Af{l:Mem}{j:Nat}(h:ao C e Z m=.ok (.ref j) (m0++l))(g:m0.length=m.length)(d:Cm m0)(k:m0.length<=j)(a:(m0++l)[j]?=@(.lst xs))(c:ay xs=true):ao C (.frz e) Z m=.ok (.fz xs) m0:=by
 refine EH h g d ?_;erw[jl,AX,a,cY _ c,PN];rw[MN 'o']
theorem rM(h:ao C e Z m=.ok (.ref m0.length) (m0++[.lst xs]))(d:m0.length=m.length)(c:Cm m0)(a:ay xs=true):ao C (.frz e) Z m=.ok (.fz xs) m0:=
 Af h d c (MB _) 's' a
theorem gr(h:ay ws=false):aP f ws m=f ws m:=by simp[aP,h]
theorem fm(h:ay ws=true)(e:f ws []=.ok w m1)(a:aI w=true):aP f ws m=.ok w m:=by simp[aP,h,e,a]
theorem gu(h:ay ws=true)(e:f ws []=.ok w m1)(a:aI w=false):aP f ws m=.ok (tP m.length w) (m++m1.map (EC m.length)):=by simp[aP,h,e,a]
theorem set_same{p:Nat}(h:m[p]?=some o):m.set p o=m:=by
 apply ext_getElem?;intro j
 by_cases e:p=j
 .subst e;rw[Nd (Mw.mp h).1,h]
 .rw[Na e]
theorem Ag(l:List α):l.filter (λ _=>true)=l:=List.filter_eq_self.mpr λ _ _=>rfl
theorem Ah{get:Mem->Nat->Nx}{t:T}{ifs:Es}{B:W->Loc}{p:W->Bool}{g:W->W}(q:∀j (h:j<xs.length),get m j=.it xs[j])(L:get m xs.length=.fin)
  (J:∀x∈xs,aG t x Z=@(B x)) (A:∀x∈xs,∀y∈xs,aG t y (B x)=@(B y)) (D:∀x∈xs,aX C ifs (B x) m=.ok (p x) m) (F:∀x∈xs,p x=true->ao C e (B x) m=.ok (g x) m) (N:xs.length<=lim) :
  ∃c,bC get t (fun Z m=>aX C ifs Z m) (fun Z m a=>f9 C (.elt e) Z m a) xs.length 0 Z m []=.ok ((xs.filter p).map g,c) m:=by
 let⟨a,c,M,K,P,I,H⟩:=eK (get:=get) (t:=t) (test:=fun Z m=>aX C ifs Z m) (body:=fun Z m a=>f9 C (.elt e) Z m a) (n:=xs.length)
  (λ j z m1 a=>(∀x∈xs,aG t x z=@(B x))/\m1=m/\a=((xs.take j).filter p).map g) (λ j z m1 a v=>by
   rintro⟨G,rfl,rfl⟩;have d:=Qa v;have k:xs.take (j+1)=xs.take j++[xs[j]]:=by rw[take_add_one,M6 v];rfl
   refine⟨xs[j],B xs[j],q j v,G _ d,?_⟩;have r:=D _ d;cases l:p xs[j] with
   |true=>
    rw[l] at r;refine .inl ⟨m1,((xs.take (j+1)).filter p).map g,B xs[j],m1,r,?_,A _ d,rfl,rfl⟩;have u:(((xs.take j).filter p).map g).length<lim:=by
     rw[Nk];have:=length_filter_le p (xs.take j);rw[Ol] at this;lia
    erw[jK,F _ d l,R.bind];rw[MO u,k,filter_append,map_append];simp[l]
   |false=>
    rw[l] at r;refine .inr ⟨m1,r,A _ d,rfl,?_⟩;rw[k,filter_append];simp[l]) (fun z m1 a h=>by rw[h.2.1];exact L) xs.length 0 Z m [] 'o' ⟨J,rfl,by simp⟩
 subst I H;exact⟨c,by rw[K,take_length]⟩
theorem EI(h:getL m w=some xs):bM m w=some xs:=by
 cases w with
 |tup a=>cases h
 |_=>exact h
theorem Ai{xs:List α}(h:i<xs.length):L2.oK xs (i:Int)=some xs[i]:=by
 have c:(0:Int)<=i:=by lia
 have a:(i:Int)<xs.length:=by lia
 erw[L2.oK,L2.uH,c,a,ND,Option.bind_some,OF,M6 h]
theorem xP(h:bM m w=some xs)(a:i<xs.length):dR w (.int i) m=.ok xs[i] m:=by
 cases w with
 |str z=>simp[bM,getL] at h
 |_=>erw[dR,h,Ai a]
theorem bL(f:Nat)(es:Es):ao (Cn p n) (.call f es) Z m=(aH (Cn p n) es Z m).bind λ ws m=>aP (D.runN p n f) ws m:=rfl
theorem Ka(o:E)(f:Str)(es:Es):ao (Cn p n) (.mth o f es) Z m=(ao (Cn p n) o Z m).bind λ x m=>match qp p.cs x f m with
  |some i=>(aH (Cn p n) es Z m).bind λ ws m=>aP (D.runN p n i) (x::ws) m
  |none=>.no:=rfl
theorem Kc(a:E)(f:Str):ao (Cn p n) (.fld a f) Z m=(ao (Cn p n) a Z m).bind λ x m=>qm p.cs x f m:=rfl
end D
namespace D
open PySem PySem.Spec PyProof.Rows L2 List
variable{C:Addr}{h:Heap}{i:Nat}{mg:Str->Option Value}{o:Option (Option Value)}{α:Type}
abbrev Tb:Type:=Str×Stmt
def Tb.x(t:Tb):Str:=match t.2 with
 |.FunctionDef n _ _ _ _ _ _ _ _ _=>n
 |_=>""
def Tb.ps(t:Tb):List Str:=(er t.2).args.map (·.arg)
def Tb.nm(t:Tb):List (Str×NameKind):=(av t.2).names
def Tb.N(t:Tb):List Str:=
 let a:=t.ps++(t.nm.filter λ p=>(p.2==.local||p.2==.cell)&&!t.ps.contains p.1).map (·.1)
 a++((av t.2).more.filterMap λ p=>if p.1=("fast":Str) then (match p.2 with
  |.str x=>some x
  |_=>none) else none).filter λ x=>!a.contains x
def HY:ScopeKind->Bool
 |.function=>true
 |_=>false
def Tb.sc(t:Tb):Bool:=HY (av t.2).kind&&!(av t.2).isCoroutine&&!(av t.2).isGenerator&&decide t.N.Nodup&&t.N.take t.ps.length==t.ps&&t.ps.all (λ x=>t.nm.lookup x==some .local||t.nm.lookup x==some .cell)&&t.nm.all λ y=>y.2 != .free
section
variable(K:ae)(p:Pg)(fns:List (Str×(Nat×Nat)))(gl:List (Str×W))(fz:List Pos)(T:List Tb)
def Tb.a(t:Tb):Addr:=match (if t.1=("":Str) then PySem.W.nsIn K mainGlobals t.x else PySem.W.findIn K (.ref (ah K t.1)) t.x) with
 |some (some (.ref f))=>f
 |_=>0
def Tb.get(t:Tb)(f:FuncData->α)(d:α):α:=match K.lookup (t.a K) with
 |some o=>match o.data with
  |.func g=>f g
  |_=>d
 |none=>d
def Tb.fd(t:Tb):FuncData:=PySem.W.fnOf t.x (t.get K (·.qualname) "") (er t.2) (bx t.2) (av t.2) .none .none .none (t.get K (·.pyModule) .none) none (t.get K (·.code) .none) .none
def xQ(o:Option (Option Value))(f:Addr):Bool:=match o with
 |some (some (.ref g))=>g==f
 |_=>false
def EJ(o:Option (Option Value)):Bool:=match o with
 |some none=>true
 |_=>false
def isA(o:Option (Option Value)):Bool:=match o with
 |some (some (.builtin b))=>b=="object.__setattr__"
 |_=>false
def K5(o:Option (Option Value))(w:W):Bool:=match o with
 |some (some (.int i _))=>(match w with
  |.int j=>i==j
  |_=>false)
 |some (some (.str i _))=>(match w with
  |.str j=>i==j
  |_=>false)
 |_=>false
def HZ(C:Addr):Bool:=PySem.W.plainGet K C Str.empty&&PySem.W.hasDictIn K C&&PySem.W.plainOver K C&&isA (PySem.W.findIn K (.ref C) "__setattr__")
def Fb(o:Option (Option Value))(s:String):Bool:=match o with
 |some (some (.builtin x))=>x==s
 |_=>false
def EK(C:Addr):Bool:=HZ K C&&Fb (PySem.W.findIn K (.ref C) "__class__") "object.__class__"&&Fb (PySem.W.specialIn K (.builtin "object.__class__") "__get__") "getset_descriptor.__get__"&&PySem.W.takesIn K (.builtin "object.__class__")==some true&&PySem.W.mroIn K C (.type "object")==some true
def EL:Value->Tok
 |.int _ t=>t
 |.str _ t=>t
 |_=>0
def LD(w:W)(t:Tok):Value:=match w with
 |.int i=>.int i t
 |.str x=>.str x t
 |_=>.none
def vV:W->V
 |.int i=>.int i
 |.str x=>.str x
 |_=>.non
def Ke:W->Bool
 |.int _=>true
 |.str _=>true
 |_=>false
def Kf(x:Str):Array DictEntry×Nat:=match K.lookup (ah K x) with
 |some o=>match o.data with
  |.dict a n=>(a,n)
  |_=>(#[],0)
 |none=>(#[],0)
def nW(P:Params):List (Str×W)->List DictEntry->List DictEntry
 |kv::r,e::es=>⟨PyData.keyHash P kv.1,.str kv.1 (EL e.key),LD kv.2 (EL e.val)⟩::nW P r es
 |_,_=>[]
def H8(P:Params)(y:Str×List (Str×W)):Obj:=⟨.type "dict",none,.dict (nW P y.2 (Kf K y.1).1.toList).toArray (Kf K y.1).2,#[]⟩
def H9(i:Nat)(x:Str)(q:Tb->Bool):Bool:=match T[i]? with
 |some t=>t.x==x&&q t
 |none=>false
def EM(C:Addr):Bool:=match K.lookup C with
 |some o=>match o.data with
  |.cls cd=>o.cls==.type "type"&&cd.mro.head?==some (.ref C)&&decide (o.slots.toList.length=6)&&o.slots.toList[4]?==some @(.builtin "ValueError.__new__")&&!cd.hasDel&&cd.hasDict&&PySem.W.tailIn K VE cd.mro.tail&&PySem.W.nsOkIn K cd.ns&&PySem.W.keepIn K (.ref C)&&isA (PySem.W.findIn K (.ref C) "__setattr__")
  |_=>false
 |none=>false
def rN(C:Addr):Option (Option Value):=match PySem.W.clsIn K C with
 |some cd=>PySem.W.nsIn K cd.ns "__init__"
 |none=>none
def Aj(C:Addr):List Value:=match PySem.W.clsIn K C with
 |some cd=>cd.mro.tail
 |none=>[]
def EN:Expr->Option (Expr×Str)
 |.Attribute e g _=>some (e,g)
 |_=>none
theorem Ak{e a:Expr}{g:Str}(h:EN e=some (a,g)):∃p,e=.Attribute a g p:=by
 unfold EN at h;split at h
 .cases h;exact⟨_,rfl⟩
 .cases h
def EO:List Stmt->Option (Expr×Expr)
 | [.Assign [t] v _]=>some (t,v)
 |_=>none
theorem Al{l:List Stmt}{t v:Expr}(h:EO l=some (t,v)):∃p,l=[.Assign [t] v p]:=by
 unfold EO at h;split at h
 .cases h;exact⟨_,rfl⟩
 .cases h
def xR(t:Tb)(f:Str):Bool:=match EO (bx t.2) with
 |some (a,v)=>match EN a with
  |some (o,g)=>match By o,By v with
   |some (s,_),some (v,_)=>t.ps==[s,v]&&t.N==[s,v]&&g==f&&!special s&&!special v
   |_,_=>false
  |none=>false
 |none=>false
def K6(y:Str×Option Str):Bool:=EM K (ah K y.1)&&xQ (PySem.W.nsIn K mainGlobals y.1) (ah K y.1)&&Fb (PySem.W.findIn K (.ref (ah K y.1)) "__getattribute__") "BaseException.__getattribute__"&&EJ (PySem.W.findIn K (.ref (ah K y.1)) "__getattr__")&&Fb (PySem.W.findIn K (.ref (ah K y.1)) "__class__") "object.__class__"&&match y.2 with
 |none=>rN K (ah K y.1)==some none
 |some f=>T.any λ t=>xQ (rN K (ah K y.1)) (t.a K)&&PySem.W.typeIn K (.ref (t.a K))==some (.type "function")&&EJ (PySem.W.findIn K (.ref (ah K y.1)) f)&&xR t f
def Ia:Bool:=p.z.fn.all (λ y=>fns.lookup y.1==some y.2)&&p.z.ini.all (λ y=>p.cs.ini.lookup y.1==some y.2)&&p.z.cls.all (K6 K T) &&
 (p.z.cls.all λ y=>((p.z.sub.lookup y.1).getD []).all λ c=>(p.z.cls.lookup c).isSome&&(Value.ref (ah K c)::Aj K (ah K c)).contains (.ref (ah K y.1))) &&
 p.z.sub.all λ y=>(if y.1="ValueError" then EJ (PySem.W.nsIn K mainGlobals y.1) else xQ (PySem.W.nsIn K mainGlobals y.1) (ah K y.1))&&p.z.cls.all λ d=>PySem.W.kitOne K (.ref (ah K d.1)) (l7 K y.1)==@(y.2.contains d.1)
def Fc:Bool:=
 Ia K p fns T &&
 (gm.all λ x=>EJ (PySem.W.nsIn K mainGlobals x))&&(gl.all λ y=>K5 (PySem.W.nsIn K mainGlobals y.1) y.2
 ) &&
 (fns.all λ y=>H9 T y.2.1 y.1 λ t=>t.ps.length==y.2.2&&xQ (PySem.W.nsIn K mainGlobals y.1) (t.a K)) &&
 (p.cs.mths.all λ y=>HZ K (ah K y.1.1)&&H9 T y.2 y.1.2 λ t=>xQ (PySem.W.findIn K (.ref (ah K y.1.1)) y.1.2) (t.a K)&&PySem.W.isFn K (.ref (t.a K))) &&
 (p.cs.ini.all λ y=>PySem.W.makesIn K (ah K y.1)&&PySem.W.keepIn K (.ref (ah K y.1))&&xQ (PySem.W.nsIn K mainGlobals y.1) (ah K y.1)&&H9 T y.2 "__init__" λ t=>xQ (PySem.W.findIn K (.ref (ah K y.1)) "__init__") (t.a K)&&PySem.W.isFn K (.ref (t.a K))) &&
 (p.cs.flds.all λ y=>HZ K (ah K y.1)&&EJ (PySem.W.findIn K (.ref (ah K y.1)) y.2)) &&
 (p.cs.dic.all λ y=>xQ (PySem.W.nsIn K mainGlobals y.1) (ah K y.1)&&y.2.all (λ b=>Ke b.2)&&y.2.length==(Kf K y.1).1.toList.length&&!(ah K y.1==sysModules)) &&
 (p.cs.isc.all λ x=>xQ (PySem.W.nsIn K mainGlobals x) (ah K x)&&EK K (ah K x)) &&
 T.all λ t=>PySem.W.keepIn K (.ref (t.a K))&&PySem.W.codeIn K (t.fd K).code (t.fd K).qualname
structure Stat:Prop where
 c:T.map (λ t=>(lO (cB p ⟨t.N,t.nm,fns,gl,p.cs,fz⟩) (bx t.2)).map (Fn.mk t.ps.length t.N.length))=p.fns.map some
 s:T.all Tb.sc=true
 b:T.map (λ t q pm cd (f:Nat->Value)=>bindArgs (PySem.W.fnOf t.x q (er t.2) (bx t.2) (av t.2) .none .none .none pm none cd .none) ⟨(List.range t.ps.length).map f,[]⟩)=T.map λ t q pm cd f=>pure (t.ps.zip ((List.range t.ps.length).map f))
end
variable{K:ae}{p:Pg}{fns:List (Str×(Nat×Nat))}{gl:List (Str×W)}{fz:List Pos}{T:List Tb}
theorem pV{J:Type}{f g:α->J}{l:List α}(h:l.map f=l.map g){x:α}(a:l[i]?=some x):f x=g x:=by
 have e:=OA (λ l=>l[i]?) h;simpa[a] using e
theorem cy{f:Addr}(h:xQ o f=true):o=some @(.ref f):=by
 unfold xQ at h;split at h
 .rw[eq_of_beq h]
 .cases h
theorem jc(h:EJ o=true):o=some none:=by
 unfold EJ at h;split at h
 .rfl
 .cases h
theorem xS(h:isA o=true):o=some @(.builtin "object.__setattr__"):=by
 unfold isA at h;split at h
 .rw[eq_of_beq h]
 .cases h
theorem pW(h:HZ K C=true):sd K C:=by
 erw[HZ,Mz] at h;exact⟨h.1.1.1,h.1.1.2,h.1.2,xS h.2⟩
theorem lB{s:String}(h:Fb o s=true):o=some @(.builtin s):=by
 unfold Fb at h;split at h
 .rw[eq_of_beq h]
 .cases h
theorem Am(h:EK K C=true):DI K C:=by
 erw[EK,Mz] at h;exact⟨pW h.1.1.1.1,lB h.1.1.1.2,lB h.1.1.2,eq_of_beq h.1.2,eq_of_beq h.2⟩
theorem lC{x:Str}{q:Tb->Bool}(h:H9 T i x q=true):∃t,T[i]?=some t/\t.x=x/\q t=true:=by
 unfold H9 at h;split at h
 .ext t e;rw[Mz] at h;exact⟨t,e,eq_of_beq h.1,h.2⟩
 .cases h
theorem xT(us:List Value):(List.range us.length).map (λ i=>us.getD i .none)=us:=by
 apply ext_getElem
 .simp
 .intro i b a;simp[List.getD,a]
theorem BP(S:Stat p fns gl fz T){t:Tb}(a:T[i]?=some t){us:List Value}(c:us.length=t.ps.length):bindArgs (t.fd K) ⟨us,[]⟩=pure (t.ps.zip us):=by
 have z:=congrFun (congrFun (congrFun (congrFun (pV S.b a) (t.get K (·.qualname) "")) (t.get K (·.pyModule) .none)) (t.get K (·.code) .none)) (λ i=>us.getD i .none);rw[<-c,xT] at z;exact z
theorem BQ(S:Stat p fns gl fz T)(j:T.map (λ t=>(K.lookup (t.a K)).map Obj.data)=T.map λ t=>some (.func (t.fd K)))(g:T.all (λ t=>PySem.W.keepIn K (.ref (t.a K))&&PySem.W.codeIn K (t.fd K).code (t.fd K).qualname)=true)
 {t:Tb} (b:T[i]?=some t):(∃q,AR K t.x q t.2 (t.a K) (t.fd K))/\dm t.N t.ps (av t.2)/\Binds K (t.fd K) t.ps []:=by
 have c:=M3 b;have k:=MV.mp g t c;rw[Mz] at k;have e:=pV j b;rw[Mt] at e;let⟨o,m,l⟩:=e;let⟨u,r,v,d⟩:=o;cases l;have F:=C3 (st:=t.2) m k.2 k.1;have s:=MV.mp S.s t c;erw[Tb.sc,Mz,M4,Oj,Ph,Ot,MZ,bne_iff_ne] at s;refine⟨⟨_,F⟩,⟨?_,s.1.1.1.1.1.2,s.1.1.1.1.2,s.1.1.1.2,s.1.1.2,s.1.2,s.2⟩,Binds.all λ n f=>?_⟩
 .have z:=s.1.1.1.1.1.1;unfold HY at z;split at z
  .assumption
  .cases z
 .exact BP S b f
theorem rO(S:Stat p fns gl fz T)(m:T.map (λ t=>(K.lookup (t.a K)).map Obj.data)=T.map λ t=>some (.func (t.fd K)))(k:T.all (λ t=>PySem.W.keepIn K (.ref (t.a K))&&PySem.W.codeIn K (t.fd K).code (t.fd K).qualname)=true)
 {t:Tb} (e:T[i]?=some t):FD K p fns gl fz i t.x (t.a K) (t.fd K) t.ps:=by
 let⟨⟨q,F⟩,j,s⟩:=BQ S m k e;have c:(lO (cB p ⟨t.N,t.nm,fns,gl,p.cs,fz⟩) (bx t.2)).map (Fn.mk t.ps.length t.N.length)=p.fns[i]?:=by
  have z:=OA (λ l=>l[i]?) S.c;erw[Oc,e,PN] at z;cases f:p.fns[i]? with
  |none=>rw[f] at z;cases z
  |some d=>rw[f] at z;exact M0 z
 have g:i<p.fns.length:=by
  have z:=OA List.length S.c;erw[Nk] at z;have:=(Mw.mp e).1;lia
 rw[M6 g,Mt] at c;let⟨b,r,n⟩:=c;exact⟨q,t.2,t.N,b,F,j,r,by rw[M6 g,<-n],s⟩
theorem nX{P:Params}:∀(a:List (Str×W)) (es:List DictEntry),PySem.W.KeysLit P (nW P a es)
 | [],_=>by unfold nW;rw[OH];trivial
 |_::_,[]=>by unfold nW;rw[OH];trivial
 |kv::r,e::es=>by
  unfold nW;rw[OH];exact⟨⟨_,_,rfl,rfl⟩,nX r es⟩
theorem nY{P:Params}{x:Str}:∀(a:List (Str×W)) (es:List DictEntry),a.length=es.length->a.all (λ b=>Ke b.2)=true->cC ((a.map λ b=>(b.1,vV b.2)).lookup x) (((nW P a es).find? λ e=>Value.isStrOf x e.key).map (·.val))
 | [],[],_,_=>trivial
 | [],_::_,h,_=>by simp at h
 |_::_,[],h,_=>by simp at h
 |(k,w)::r,e::es,h,hc=>by
  rw[Pk,Mz] at hc;have d:=nY (P:=P) (x:=x) r es (~~~h) hc.2;unfold nW;rw[Nj,MH,Ou];have j:Value.isStrOf x (Value.str k (EL e.key))=(k==x):=rfl;erw[j]
  by_cases c:k=x
  .subst c;erw[BEq.rfl,PN];cases w<;>first | exact⟨_,rfl⟩ | cases hc.1
  .have g:(x==k)=false:=by simpa using λ e=>c e.symm
   have f:(k==x)=false:=by simpa using c
   rw[g,f];exact d
theorem BR{J:List Addr}{H:Hp}:∀(a:List (Str×W)),a.all (λ b=>Ke b.2)=true->cV K J H a (a.map λ b=>(b.1,vV b.2))
 | [],_=>.nil
 |(k,w)::r,hc=>by
  rw[Pk,Mz] at hc;refine .cons ?_ (BR r hc.2);cases w<;>first | exact .int _ | exact .str _ | cases hc.1
theorem Ib{w:World}(n:p.cs.dic.map (λ y=>K.lookup (ah K y.1))=p.cs.dic.map λ y=>some (H8 K w.params y))(X:K.In h)(G:h.Ns mainGlobals mg)(S:Stat p fns gl fz T)(m:T.map (λ t=>(K.lookup (t.a K)).map Obj.data)=T.map λ t=>some (.func (t.fd K)))(v:Fc K p fns gl T=true):FA K w mg p fns gl fz:=by
 erw[Fc,Mz] at v;let⟨⟨⟨⟨⟨⟨⟨⟨l,L⟩,I⟩,F⟩,E⟩,D⟩,B⟩,A⟩,k⟩:=v;replace l:=l.2;have k:T.all (λ t=>PySem.W.keepIn K (.ref (t.a K))&&PySem.W.codeIn K (t.fd K).code (t.fd K).qualname)=true:=k;rw[Ph] at l L I F E D B A;have P:∀{i:Nat} {t:Tb},T[i]?=some t->PySem.W.keepIn K (.ref (t.a K))=true:=λ Q=>(MF.mp (MV.mp k _ (M3 Q))).1;refine⟨λ x b=>PySem.W.mg_none_of X G (jc (l x b)),λ {x w} b=>?_,λ {x i np} b=>?_,λ {c x i} b=>?_,λ {c i} b=>?_,λ {c x} b=>?_,λ {x f} b=>?_,λ {x} b=>?_⟩
 .have z:=L _ (lookup_mem b);unfold K5 at z;split at z
  .ext i t e;split at z
   .ext j q;cases q;cases eq_of_beq z;exact⟨_,.int _,NT X G e,⟨_,rfl⟩,λ _ _=>.int _⟩
   .cases z
  .ext i t e;split at z
   .ext j q;cases q;cases eq_of_beq z;exact⟨_,.str _,NT X G e,⟨_,rfl⟩,λ _ _=>.str _⟩
   .cases z
  .cases z
 .let⟨t,g,rfl,d⟩:=lC (I _ (lookup_mem b));rw[Mz] at d;exact⟨t.a K,_,t.ps,eq_of_beq d.1,rO S m k g,NT X G (cy d.2)⟩
 .have z:=F _ (nP b);rw[Mz] at z;let⟨t,g,rfl,d⟩:=lC z.2;rw[Mz] at d;exact⟨t.a K,_,t.ps,rO S m k g,pW z.1,cy d.1,d.2,P g⟩
 .have z:=E _ (lookup_mem b);erw[Mz] at z;let⟨t,g,U,d⟩:=lC z.2;rw[Mz] at d;exact⟨t.a K,_,t.ps,U▸rO S m k g,⟨z.1.1.1,cy d.1,d.2,z.1.1.2⟩,NT X G (cy z.1.2)⟩
 .have z:=D _ (Og.mp b);rw[Mz] at z;exact⟨pW z.1,jc z.2⟩
 .have u:=lookup_mem b;have z:=B _ u;erw[Mz,MZ,M4] at z;let⟨⟨⟨O,r⟩,N⟩,M⟩:=z;let⟨i,R⟩:=PM u;have e:=pV n R;refine⟨ah K x,f.map λ s=>(s.1,vV s.2),NT X G (cy O),⟨⟨_,_,e,?_,λ y=>?_⟩,M⟩,fun J H=>BR f r⟩
  .exact nX _ _
  .unfold findBy;rw[find?_toArray];exact nY f _ N r
 .have z:=A _ (Og.mp b);rw[Mz] at z;exact⟨NT X G (cy z.1),Am z.2⟩
theorem An{l:List α}{a:α}(h:l.head?=some a):l=a::l.tail:=by
 cases l with
 |nil=>cases h
 |cons b r=>cases h;rfl
theorem rP{i:Option Value}(h:EM K C=true)(a:rN K C=some i):XC K C (Aj K C) i:=by
 unfold EM at h;split at h
 .ext o B;let⟨oc,Z,da,⟨w⟩⟩:=o;dsimp only at h;split at h
  .ext cd;let⟨A,F,g,z,y,hd,v,b,G,d,Y⟩:=cd;erw[Mz,MZ,Oj,M4] at h;let⟨⟨⟨⟨⟨⟨⟨⟨⟨U,S⟩,R⟩,E⟩,Q⟩,P⟩,O⟩,f⟩,N⟩,M⟩:=h;subst U Q P;have L:PySem.W.clsIn K C=some ⟨A,F,g,z,y,true,v,b,G,d,false⟩:=by unfold PySem.W.clsIn;rw[B]
   unfold rN at a;unfold Aj;rw[L] at a ⊢;dsimp only at a ⊢;obtain⟨s,m,l,k,j,rfl⟩:∃s m l k j,w=[s,m,l,k,@(.builtin "ValueError.__new__"),j]:=by
    rcases w with _ | ⟨a0,_ | ⟨a1,_ | ⟨a2,_ | ⟨a3,_ | ⟨a4,_ | ⟨a5,_ | ⟨a6,r⟩⟩⟩⟩⟩⟩⟩<;>simp at R;erw[getElem?_cons_succ,getElem?_cons_zero,Option.some.injEq] at E;exact⟨a0,a1,a2,a3,a5,by rw[E]⟩
   unfold PySem.W.nsOkIn at f;split at f
   .ext c' d' u I H D;have J:StrKeys u:=λ e c=>by
     have q:=Array.all_eq_true_iff_forall_mem.mp f e c;split at q
     .ext n t V;exact⟨n,t,V⟩
     .cases q
    refine⟨⟨A,y,z,F,v,b,G,d,Z,s,m,l,k,j,"ValueError","ValueError.__new__",_,_,λ x=>nsFind u x,?_,NX,by decide +kernel,?_,λ h X=>⟨⟨_,u,I,X _ _ D,rfl,J,λ _=>rfl⟩,PySem.W.tail_of_in X O⟩⟩,xS M,N⟩
    .rw[B,An S];rfl
    .unfold PySem.W.nsIn at a;rw[D] at a;dsimp only at a;unfold nsFind findBy;dsimp only;rw[<-Array.find?_toList];split at a
     .ext e c;rw[c];exact M0 a
     .ext c;split at a
      .cases a
      .rw[c];exact M0 a
   .cases f
  .cases h
 .cases h
theorem Ic(X:K.In h)(G:h.Ns mainGlobals mg)(S:Stat p fns gl fz T)(B:T.map (λ t=>(K.lookup (t.a K)).map Obj.data)=T.map λ t=>some (.func (t.fd K)))(l:Fc K p fns gl T=true):FZ K mg p fns:=by
 erw[Fc,Mz] at l;let⟨⟨⟨⟨⟨⟨⟨⟨D,c2⟩,c3⟩,c4⟩,c5⟩,c6⟩,c8⟩,c9⟩,O⟩:=l;replace D:=D.1;have O:T.all (λ t=>PySem.W.keepIn K (.ref (t.a K))&&PySem.W.codeIn K (t.fd K).code (t.fd K).qualname)=true:=O;erw[Ia,Mz] at D;let⟨⟨⟨⟨V,U⟩,R⟩,Q⟩,E⟩:=D;rw[Ph] at V U R Q E;have N:∀{y:Str×Option Str},y∈p.z.cls->∃i,XC K (ah K y.1) (Aj K (ah K y.1)) i/\XG K (ah K y.1)/\PySem.W.nsIn K mainGlobals y.1=some @(.ref (ah K y.1))/\(y.2=none->i=none)/\∀f,y.2=some f->∃t,t∈T/\i=some (.ref (t.a K))/\PySem.W.typeIn K (.ref (t.a K))=some (.type "function")/\PySem.W.findIn K (.ref (ah K y.1)) f=some none/\xR t f=true:=λ {y} hy=>by
  have q:=R _ hy;unfold K6 at q;erw[Mz] at q;let⟨⟨⟨⟨⟨A,u⟩,r⟩,J⟩,I⟩,b⟩:=q;have m:XG K (ah K y.1):=⟨lB r,jc J,lB I⟩;split at b
  .ext e;exact⟨none,rP A (eq_of_beq b),m,cy u,λ _=>rfl,λ f B=>by rw[e] at B;cases B⟩
  .ext f e;let⟨t,L,n⟩:=List.any_eq_true.mp b;erw[Mz,MZ] at n;refine⟨some (.ref (t.a K)),rP A (cy n.1.1.1),m,cy u,λ z=>(by rw[e] at z;cases z),λ g hg=>?_⟩;rw[e] at hg;cases hg;exact⟨t,L,rfl,n.1.1.2,jc n.1.2,n.2⟩
 refine⟨λ {x v} d=>?_,λ {x i} d=>?_,λ {x M} d=>?_,λ {x M cs} d hs c l=>?_,λ {t cs} hs=>⟨?_,λ {c M} l=>?_⟩,λ {c M} hm=>?_⟩
 .exact eq_of_beq (V _ (lookup_mem d))
 .exact eq_of_beq (U _ (lookup_mem d))
 .let⟨i,k,m,A,u,r⟩:=N (lookup_mem d);refine⟨NT X G A,λ e=>⟨_,u e▸k⟩,λ f e=>?_⟩;let⟨t,L,rfl,J,I,b⟩:=r f e;let⟨j,hj⟩:=PM L;let⟨⟨qn,F⟩,H,bd⟩:=BQ S B O hj;unfold xR at b;split at b
  rotate_left
  .cases b
  ext u0 u1 w1;split at b
  rotate_left
  .cases b
  ext u2 g w2;split at b
  .ext s p1 v p3 w3 w4;let⟨p4,e1⟩:=Al w1;let⟨p2,rfl⟩:=Ak w2;cases gn w3;cases gn w4;erw[Mz,MZ,M4] at b;let⟨⟨⟨⟨Y,y2⟩,y3⟩,y4⟩,y5⟩:=b;subst y3;rw[Y,y2] at H;let⟨a1,a2,_⟩:=aE y4;let⟨b1,b2,_⟩:=aE y5;have Z:∀x∈[s,v],yg (av t.2) x:=λ x d=>(H.par x d).elim .inl λ z=>.inr (.inl z);refine⟨_,t.a K,t.fd K,[s,v],k,J,λ P w base=>?_,by rw[<-Y];exact bd,rfl⟩;exact zb F H e1 k I (Z s (.head _)) (Z v (.tail _ (.head _))) a1 a2 b1 b2 λ env=>eG rfl
  .cases b
 .have q:=Q _ (lookup_mem d);dsimp only at q;rw[hs,Option.getD_some] at q;have q:=MV.mp q c (Og.mp l);rw[Mz] at q;let⟨fo',e⟩:=N4.mp q.1;let⟨i,k,_⟩:=N (lookup_mem e);exact⟨_,i,k,q.2⟩
 .have q:=(MF.mp (E _ (lookup_mem hs))).1;dsimp only at q;unfold l7;split at q
  .ext e;rw[MO e,e];exact .inr ⟨PySem.W.mg_none_of X G (jc (e▸q)),by decide +kernel⟩
  .ext e;rw[MN e];exact .inl (NT X G (cy q))
 .exact eq_of_beq (MV.mp (MF.mp (E _ (lookup_mem hs))).2 _ (lookup_mem l))
 .let⟨i,k,m,_,u,r⟩:=N hm;exact⟨_,i,k,m,λ f e=>let ⟨_,_,_,_,q,_⟩:=r f e;q⟩
theorem Ie{l:PySem.W.OpenLaw}{w:World}{k:Addr}{x:Str}{t:Tb}(X:K.In h)(G:h.Ns mainGlobals mg)(A:mg "law"=@(.ref k))(S:Stat p fns gl fz T)(n:fns.lookup ("law":Str)=some (i,1))(d:T[i]?=some t)(c:t.ps=[x])
  (e:T.map (λ t=>(K.lookup (t.a K)).map Obj.data)=T.map λ t=>some (.func (t.fd K))) (g:Fc K p fns gl T=true) (f:p.cs.dic.map (λ y=>K.lookup (ah K y.1))=p.cs.dic.map λ y=>some (H8 K w.params y)) :
  ∃j:FuncData,(∀(s:Shared) (v:Value),BindsTo s j ⟨[v],[]⟩ [(x,v)])/\∀base:Heap,K.In base->base.Ns mainGlobals mg->aY l.prog w K mg base (tY l.prog w) 81 k j [x] (qR K ⟨l.prog,w⟩ 1 (runN p 40 i)):=by
 have b:=g;erw[Fc,Mz] at b;let⟨⟨⟨⟨⟨⟨⟨⟨M,L⟩,u⟩,J⟩,I⟩,H⟩,F⟩,E⟩,r⟩:=b;let⟨B,q,D,m⟩:=lC (MV.mp u _ (lookup_mem n));cases d.symm.trans q;rw[Mz] at m;cases A.symm.trans (NT X G (cy m.2));have z:=rO S e r d;rw[c] at z;refine⟨t.fd K,λ s v=>.of_eq ?_,λ base _ _=>sound (Ib f X G S e g)
  (Ic X G S e g)
  40 z⟩
 have z:=BP (K:=K) S d (us:=[v]) (by rw[c];rfl);rw[c] at z;exact z
end D
namespace D
open PySem List
variable{m:Mem}{n:Nat}{xs:List W}
abbrev Ao(A B:Int):O:=.lst [.int A,.int B]
def Ig(m:Mem)(p:Nat):Prop:=∃A B,m[p]?=@(Ao A B)
def PS(p:Nat)(m a:Mem):Prop:=∃A B,a=m.set p (Ao A B)
section
variable{m m' K7:Mem}{p q:Nat}
theorem Ig.refl(h:Ig m p):PS p m m:=let ⟨A,B,e⟩:=h;⟨A,B,(set_same e).symm⟩
theorem PS.trans(h:PS p m m')(h':PS p m' K7):PS p m K7:=by
 let⟨A,B,rfl⟩:=h;let⟨b,a,rfl⟩:=h';exact⟨b,a,by rw[set_set]⟩
theorem PS.len(h:PS p m m'):m'.length=m.length:=by let⟨A,B,rfl⟩:=h;simp
end
def Draws(f:List W->Mem->R W):Prop:=∀{m:Mem} {p:Nat} {a:Int},Ig m p->0<a->a<1073741824->∃d b,f [.ref p,.int a] m=.ok (.int d) b/\PS p m b/\0<=d/\d<a
theorem Aq{z:Str}(h:z.cps.all (· < 0x110000)=true):toD (n+1) m (.str z)=some (.str z):=by erw[toD,h,ND]
theorem ER:toD (n+1) m (.fz xs)=(cH (toD n m) xs).map .list:=Eq.trans rfl rfl
theorem lD:toD (n+1) m (.tup xs)=(cH (toD n m) xs).map .tuple:=Eq.trans rfl rfl
theorem Ar{a:Nat}(h:m[a]?=@(.lst xs)):toD (n+1) m (.ref a)=(cH (toD n m) xs).map .list:=by
 erw[toD,getL,h]
theorem j7{k:Nat}:∀ns:List Int,cH (toD (k+1) m) (ns.map .int)=@(ns.map PyData.int)
 | []=>rfl
 |a::r=>by erw[Nj,cH,j7 r];rfl
theorem lE{x y:W}{d:PyData}(a:toD 60 m x=some d)(b:toD 60 m y=some d):sJ m x y=.ok true m:=by
 erw[sJ,a,b,PySem.SeqAt.eqv_refl d (bz _ a).1]
end D
namespace My
open PySem L2 D List
def Kg:List (Str×W):=[("wire",(.int 2)),("made",(.int 2)),("broken",(.int 2)),("swap",(.int 3)),("coil",(.int 2)),("lamp",(.int 2))]
def b0:Ss:=%[.xc .drop .none 6 %[@1,@2,@3,@4,@5,|@6],.fas @0 "key_list" (.frz (.blt .list %[|@1])),.fas @0 "relay_list" (.frz (.blt .list %[|@2])),.fas @0 "lamp_list" (.frz (.blt .list %[|@3])),.fas @0 "many_nodes" @4,.fas @0 "piece_list" (.frz (.blt .list %[|@5])),|.fas @0 "time_list" (.frz (.blt .list %[|@6]))]
def b1:Ss:=%[|.ret (.frz (.blt .list %[|.fld @0 "relay_list"]))]
def b2:Ss:=%[|.ret (.frz (.blt .list %[|.fld @0 "lamp_list"]))]
def b3:Ss:=%[|.ret (.fld @0 "many_nodes")]
def b4:Ss:=%[|.ret (.frz (.blt .list %[|.fld @0 "piece_list"]))]
def b5:Ss:=%[|.ret (.frz (.blt .list %[|.fld @0 "time_list"]))]
def b6:Ss:=%[.xc .drop .none 7 %[@0,@1,|@2],.xc .drop .none 10 %[@0,@1,|@2],.xc .drop .none 11 %[@3,|.blt .len %[|@4]],.xc .drop .none 12 %[@0,@1,@2,@3,|@4],.xc .drop .none 17 %[@"coil",@1,|@4],.xc .drop .none 17 %[@"lamp",@2,|@4],|.xc .drop .none 18 %[@1,|@5]]
def b7:Ss:=%[.asg (.pt @3) (.call 8 %[|.bin .Add (.bin .Add @0 @1) @2]),|.ife (.cmp .IsNot @3 (.cst .non)) %[|.rais "NoNet" (.some "fault") (.tup %[@"words",|@3])] .nil]
def Kh:Ss:=%[.ife (.or (.not (.call 9 %[|@3])) (.cmp .In @3 @1)) %[|.ret @2] .nil,|.expr (.meth @1 "add" %[|@3])]
def b8:Ss:=%[.asg (.pt @1) .set0,.for_ (.tup %[@2,|@3]) (.enm @0) Kh,|.ret (.cst .non)]
def b9:Ss:=%[|.ret (.and (.chain .LtE .LtE @(1) (.blt .len %[|@0]) @(8)) (.blt .all %[|.frz (.comp (.gen @1 [1] @0 .nil (.elt (.chain .LtE .LtE @"a" @1 @"z"))))]))]
def Ih:Ss:=%[|.ife (.cmp .Gt (.blt .len %[|@5]) @6) %[|.rais "NoNet" (.some "fault") (.tup %[@"many",|@4])] .nil]
def LG:Ss:=%[.asg (.pt @3) (.tup %[.tup %[@0,|@(2)],.tup %[@1,|@(4)],|.tup %[@2,|@(2)]]),|.for_ (.tup %[@4,|.tup %[@5,|@6]]) (.enm @3) Ih]
def LH:Ss:=%[.ife (.not (.chain .LtE .LtE @(2) @0 @(640))) %[|.rais "NoNet" (.some "fault") (.tup %[@"nodes",|@0])] .nil,|.ife (.cmp .Gt @1 @(800)) %[|.rais "NoNet" (.some "fault") (.tup %[@"pieces",|@1])] .nil]
def Ii:Ss:=%[|.ife (.not (.call 13 %[@8,@6,|@3])) %[|.rais "NoNet" (.some "fault") (.tup %[@"piece",|@7])] .nil]
def LI:Ss:=%[.asg (.pt @5) (.bin .Add @0 @1),.asg (.pt @6) (.fus (.dict ["made","broken","swap","coil","lamp"]) (.tup %[@5,@5,@5,@1,|@2])),|.for_ (.tup %[@7,|@8]) (.enm @4) Ii]
def LJ:Ss:=%[.ife (.or (.not @0) (.fus (.knin Kg) (.idx @0 @(0)))) %[|.ret (.cst (.bl false))] .nil,.asg (.pt @3) (.idx @0 @(0)),.ife (.and (.cmp .In @3 @1) (.or (.cmp .Lt (.blt .len %[|@0]) @(2)) (.cmp .NotIn (.idx @0 @(1)) (.idx @1 @3)))) %[|.ret (.cst (.bl false))] .nil,.asg (.pt @4) (.call 14 %[|@0]),|.ret (.and (.cmp .Eq (.blt .len %[|@4]) (.fus (.kget Kg) @3)) (.call 15 %[@4,|@2]))]
def LK:Ss:=%[|.ret (.ife (.cmp .Eq (.idx @0 @(0)) @"wire") (.slc @0 (.some @(1)) .none) (.slc @0 (.some @(2)) .none))]
def LL:Ss:=%[|.ret (.and (.blt .all %[|.frz (.comp (.gen @2 [2] @0 .nil (.elt (.and (.call 16 %[|@2]) (.chain .LtE .Lt @(0) @2 @1)))))]) (.cmp .Eq (.fus .sj @0) (.blt .len %[|@0])))]
def LM:Ss:=%[|.ret (.and (.isI @0 "int") (.not (.isI @0 "bool")))]
def Ij:Ss:=%[|.ife (.cmp .NotEq (.meth @3 "count" %[|@5]) @(1)) %[|.rais "NoNet" (.some "fault") (.tup %[@0,|@4])] .nil]
def LN:Ss:=%[.asg (.pt @3) (.frz (.comp (.gen @6 [6] @2 %[|.cmp .Eq (.idx @6 @(0)) @0] (.elt (.idx @6 @(1)))))),|.for_ (.tup %[@4,|@5]) (.enm @1) Ij]
def Ik:Ss:=%[|.ife (.not (.call 19 %[|@3])) %[|.rais "NoNet" (.some "fault") (.tup %[@"times",|@2])] .nil]
def LO:Ss:=%[.for_ (.tup %[@2,|@3]) (.enm (.slc @1 .none (.some (.blt .len %[|@0])))) Ik,|.ife (.cmp .NotEq (.blt .len %[|@1]) (.blt .len %[|@0])) %[|.rais "NoNet" (.some "fault") (.tup %[@"times",|.blt .len %[|@1]])] .nil]
def LP:Ss:=%[.ife (.or (.cmp .NotEq (.blt .len %[|@0]) @(4)) (.not (.blt .all %[|.frz (.comp (.gen @1 [1] @0 .nil (.elt (.chain .LtE .LtE @(1) @1 @(4)))))]))) %[|.ret (.cst (.bl false))] .nil,|.ret (.and (.cmp .LtE (.idx @0 @(0)) (.idx @0 @(1))) (.cmp .LtE (.idx @0 @(2)) (.idx @0 @(3))))]
def LQ:Ss:=%[.xc (.asg (.pt @1)) .none 21 %[|@0],.asg (.pt @2) (.bin .Add (.call 22 %[|@1]) @(1)),.asg (.pt @3) (.frz (.comp (.gen @11 [11] (.bin .Add (.slc @1 .none (.some @(1))) (.slc @1 (.some @2) (.some (.bin .Add @2 @(2))))) .nil (.elt (.idx @11 @(0)))))),.ife (.cmp .NotEq @3 (.frz (.lst %[@"keys",@"lamps",|@"nodes"]))) %[|.rais "NoText" .none @"rows are missing, or in another order"] .nil,.asg (.pt @4) (.frz (.comp (.gen @11 [11] (.slc @1 (.some @(1)) (.some @2)) .nil (.elt (.call 23 %[|@11]))))),.asg (.pt @5) (.slc (.idx @1 @(0)) (.some @(1)) .none),.asg (.pt @6) (.frz (.comp (.gen (.tup %[@12,|@13]) [12,13] @4 .nil (.elt @12)))),.asg (.pt @7) (.frz (.comp (.gen (.tup %[@12,|@13]) [12,13] @4 .nil (.elt @13)))),.asg (.pt @8) (.slc (.idx @1 @2) (.some @(1)) .none),.xc (.asg (.pt @9)) .none 24 %[|.idx @1 (.bin .Add @2 @(1))],.asg (.pt @10) (.frz (.comp (.gen @11 [11] (.slc @1 (.some (.bin .Add @2 @(2))) .none) .nil (.elt (.call 25 %[|@11]))))),|.never]
def LR:Ss:=%[.ife (.not (.meth @0 "endswith" %[|.cst (.str "\n")])) %[|.rais "NoText" .none @"the last row is not ended"] .nil,|.ret (.frz (.comp (.gen @1 [1] (.meth (.slc @0 .none (.some (.neg @(1)))) "split" %[|.cst (.str "\n")]) .nil (.elt (.meth @1 "split" %[|@" "])))))]
def Il:Ss:=%[|.aug 1 .Add @(1)]
def LS:Ss:=%[.asg (.pt @1) @(0),.while_ (.and (.cmp .Lt (.bin .Add @1 @(1)) (.blt .len %[|@0])) (.cmp .Eq (.idx (.idx @0 (.bin .Add @1 @(1))) @(0)) @"relay")) Il,|.ret @1]
def LU:Ss:=%[.ife (.cmp .NotEq (.blt .len %[|@0]) @(6)) %[|.rais "NoText" .none @"a row of a relay has six parts"] .nil,|.ret (.tup %[.idx @0 @(1),|.blt .tuple %[|.frz (.comp (.gen @1 [1] (.slc @0 (.some @(2)) .none) .nil (.elt (.call 26 %[|@1]))))]])]
def LV:Ss:=%[.ife (.cmp .NotEq (.blt .len %[|@0]) @(2)) %[|.rais "NoText" .none @"the row of nodes has two parts"] .nil,|.xc .ret .none 26 %[|.idx @0 @(1)]]
def LW:Ss:=%[|.ret (.blt .tuple %[|.frz (.comp (.gen @1 [1] @0 .nil (.elt (.ife (.call 27 %[|@1]) (.blt .int %[|@1]) @1))))])]
def LX:Ss:=%[.ife (.not (.call 27 %[|@0])) %[|.rais "NoText" .none @"a number is due"] .nil,|.ret (.blt .int %[|@0])]
def LY:Ss:=%[.ife (.or (.not (.chain .LtE .LtE @(1) (.blt .len %[|@0]) @(12))) (.not (.blt .all %[|.frz (.comp (.gen @1 [1] @0 .nil (.elt (.cmp .In @1 @"0123456789"))))]))) %[|.ret (.cst (.bl false))] .nil,|.ret (.or (.cmp .Eq @0 @"0") (.cmp .NotEq (.idx @0 @(0)) @"0"))]
def K8:Ss:=%[.asg (.pt @2) @(0),.ife (.cmp .Lt @1 (.blt .len %[|@0])) %[|.asg (.pt @2) (.idx @0 @1)] .nil,|.ret (.lst %[.blt .max %[@(0),|.bin .Sub @2 (.bin .Pow @(10) @(18))],|.bin .Add (.bin .Mod (.bin .Add (.bin .Add (.blt .abs %[|@2]) (.bin .Mult @(7919) @1)) @(31)) @(2147483646)) @(1)])]
def Kl:Ss:=%[.ife (.cmp .Gt (.idx @0 @(0)) @(0)) %[.asg (.tup %[.sub @0 @(0),|.pt @2]) (.blt .divmod %[.idx @0 @(0),|@1]),|.ret @2] .nil,.asg (.sub @0 @(1)) (.bin .Mod (.bin .Mult (.idx @0 @(1)) @(48271)) @(2147483647)),|.ret (.bin .Mod (.bin .FloorDiv (.bin .Mod (.bin .Mult (.idx @0 @(1)) (.idx @0 @(1))) @(2147483629)) @(7)) @1)]
def Km:Ss:=%[.asg (.pt @1) (.lst %[.fus (.isx [("NoNet",true),("NoText",false),("NoTable",false),("NoNames",false),("NoName",false),("NoPiece",false),("NoPosition",false),("NoState",false),("NotResting",false),("Raced",false),("NotSure",false),("RelayError",false)]) @0,.fus (.isx [("NoNet",false),("NoText",true),("NoTable",false),("NoNames",false),("NoName",false),("NoPiece",false),("NoPosition",false),("NoState",false),("NotResting",false),("Raced",false),("NotSure",false),("RelayError",false)]) @0,|.fus (.isx [("NoNet",false),("NoText",false),("NoTable",true),("NoNames",false),("NoName",false),("NoPiece",false),("NoPosition",false),("NoState",false),("NotResting",false),("Raced",false),("NotSure",false),("RelayError",false)]) @0]),.asg (.pt @1) (.bin .Add @1 (.lst %[.fus (.isx [("NoNet",false),("NoText",false),("NoTable",false),("NoNames",true),("NoName",false),("NoPiece",false),("NoPosition",false),("NoState",false),("NotResting",false),("Raced",false),("NotSure",false),("RelayError",false)]) @0,.fus (.isx [("NoNet",false),("NoText",false),("NoTable",false),("NoNames",false),("NoName",true),("NoPiece",false),("NoPosition",false),("NoState",false),("NotResting",false),("Raced",false),("NotSure",false),("RelayError",false)]) @0,|.fus (.isx [("NoNet",false),("NoText",false),("NoTable",false),("NoNames",false),("NoName",false),("NoPiece",true),("NoPosition",false),("NoState",false),("NotResting",false),("Raced",false),("NotSure",false),("RelayError",false)]) @0])),.asg (.pt @1) (.bin .Add @1 (.lst %[.fus (.isx [("NoNet",false),("NoText",false),("NoTable",false),("NoNames",false),("NoName",false),("NoPiece",false),("NoPosition",true),("NoState",false),("NotResting",false),("Raced",false),("NotSure",false),("RelayError",false)]) @0,.fus (.isx [("NoNet",false),("NoText",false),("NoTable",false),("NoNames",false),("NoName",false),("NoPiece",false),("NoPosition",false),("NoState",true),("NotResting",false),("Raced",false),("NotSure",false),("RelayError",false)]) @0,|.fus (.isx [("NoNet",false),("NoText",false),("NoTable",false),("NoNames",false),("NoName",false),("NoPiece",false),("NoPosition",false),("NoState",false),("NotResting",true),("Raced",false),("NotSure",false),("RelayError",false)]) @0])),|.ret (.bin .Add @1 (.lst %[.fus (.isx [("NoNet",false),("NoText",false),("NoTable",false),("NoNames",false),("NoName",false),("NoPiece",false),("NoPosition",false),("NoState",false),("NotResting",false),("Raced",true),("NotSure",false),("RelayError",false)]) @0,|.fus (.isx [("NoNet",false),("NoText",false),("NoTable",false),("NoNames",false),("NoName",false),("NoPiece",false),("NoPosition",false),("NoState",false),("NotResting",false),("Raced",false),("NotSure",true),("RelayError",false)]) @0]))]
def LZ:Ss:=%[.asg (.pt @2) (.lst %[.fus (.mkx "NoNet" (.some "fault")) @0,.fus (.mkx "NoText" .none) @"no text",.fus (.mkx "NoTable" (.some "fault")) @0,.fus (.mkx "NoNames" .none) @"no names",|.fus (.mkx "NoName" .none) @"no name"]),.asg (.pt @2) (.bin .Add @2 (.lst %[.fus (.mkx "NoPiece" .none) @"no piece",.fus (.mkx "NoPosition" .none) @"no position",.fus (.mkx "NoState" .none) @"no state",|.fus (.mkx "NotResting" .none) @"it moves"])),|.ret (.bin .Add @2 (.lst %[.fus (.mkx "Raced" (.some "race")) @1,|.fus (.mkx "NotSure" .none) @"not sure"]))]
def L0:Ss:=%[.asg (.pt @0) (.lst %[.cst .non,.fus (.mkx "NoText" .none) (.cst .non),.cst .non,.fus (.mkx "NoNames" .none) (.cst .non),.fus (.mkx "NoName" .none) (.cst .non),.fus (.mkx "NoPiece" .none) (.cst .non),.fus (.mkx "NoPosition" .none) (.cst .non),.fus (.mkx "NoState" .none) (.cst .non),.fus (.mkx "NotResting" .none) (.cst .non),|.cst .non]),|.ret (.bin .Add @0 (.lst %[|.fus (.mkx "NotSure" .none) (.cst .non)]))]
def BS:Ss:=%[|.ife (.cmp .IsNot @2 (.cst .non)) %[.ife (.or (.not (.fus (.isx [("NoNet",true),("NoText",true),("NoTable",true),("NoNames",true),("NoName",true),("NoPiece",true),("NoPosition",true),("NoState",true),("NotResting",true),("Raced",true),("NotSure",true),("RelayError",true)]) @2)) (.not (.fus (.isx [("NoNet",true),("NoText",true),("NoTable",true),("NoNames",true),("NoName",true),("NoPiece",true),("NoPosition",true),("NoState",true),("NotResting",true),("Raced",true),("NotSure",true),("RelayError",true)]) @2))) %[|.ret (.cst (.bl false))] .nil,|.ife (.cmp .NotEq (.call 30 %[|@2]) (.frz (.comp (.gen @3 [3] (.rng @(11)) .nil (.elt (.cmp .Eq @3 @1)))))) %[|.ret (.cst (.bl false))] .nil] .nil]
def Kn:Ss:=%[.for_ (.tup %[@1,|@2]) (.enm @0) BS,|.ret (.cst (.bl true))]
def L1:Ss:=%[.tr %[|.ife (.cmp .Eq @0 @(0)) %[|.xc .drop (.some "Net") 0 %[.lst .nil,.lst .nil,.lst .nil,@(1),.lst .nil,|.lst .nil]] %[|.ife (.cmp .Eq @0 @(1)) %[|.xc .drop .none 20 %[|@"keys"]] %[|.rais "NoTable" (.some "fault") @1]]] ["NoNet","NoText","NoTable","NoNames","NoName","NoPiece","NoPosition","NoState","NotResting","Raced","NotSure","RelayError"] .none %[|.ret (.cst (.bl true))],|.ret (.cst (.bl false))]
def Ko:Ss:=%[.asg (.pt @1) (.call 28 %[@0,|@(0)]),.asg (.pt @2) (.idx (.lst %[@"words",@"many",@"nodes",@"pieces",@"piece",@"coil",@"lamp",@"times",@"row",|@"lights"]) (.call 29 %[@1,|@(10)])),.asg (.pt @3) (.tup %[@2,|.call 29 %[@1,|@(900)]]),.asg (.pt @4) (.blt .tuple %[|.frz (.comp (.gen @7 [7] (.rng (.bin .Add @(1) (.call 29 %[@1,|@(4)]))) .nil (.elt (.call 29 %[@1,|@(2)]))))]),.asg (.pt @5) (.tup %[.call 29 %[@1,|@(4)],@(0),.bin .Add @(1) (.call 29 %[@1,|@(3)]),|@4]),.asg (.pt @6) (.call 31 %[@3,|@5]),.ife (.or (.not (.call 33 %[|@6])) (.not (.call 33 %[|.call 32 .nil]))) %[|.ret (.cst (.bl false))] .nil,.ife (.or (.cmp .NotEq (.fus (.xfl "fault" ["NoNet","NoTable"]) (.idx @6 @(0))) @3) (.or (.cmp .NotEq (.fus (.xfl "fault" ["NoNet","NoTable"]) (.idx @6 @(2))) @3) (.or (.cmp .NotEq (.fus (.xfl "race" ["Raced"]) (.idx @6 @(9))) @5) (.cmp .IsNot (.fus (.xfl "race" ["Raced"]) (.fus (.mkx "Raced" (.some "race")) (.cst .non))) (.cst .non))))) %[|.ret (.cst (.bl false))] .nil,|.ret (.blt .all %[|.frz (.comp (.gen @8 [8] (.rng @(3)) .nil (.elt (.call 34 %[@8,|@3]))))])]
def L3:Ss:=%[|.fas @0 "fault" @1]
def L4:Ss:=%[|.fas @0 "fault" @1]
def L5:Ss:=%[|.fas @0 "race" @1]
def fe(x:Str)(i n:Nat):Str×(Nat×Nat):=(x,(i,n))
def fns:List (Str×(Nat×Nat)):=[fe "check_net" 6 6,fe "check_words" 7 3,fe "first_wrong_word" 8 1,fe "is_word" 9 1,fe "check_many" 10 3,fe "check_sizes" 11 2,fe "check_pieces" 12 5,fe "is_piece" 13 3,fe "ends_of" 14 1,fe "are_unlike_nodes" 15 2,fe "is_whole" 16 1,fe "check_just_one" 17 3,fe "check_times" 18 2,fe "are_times" 19 1,fe "read_net" 20 1,fe "split_rows" 21 1,fe "count_relay_rows" 22 1,fe "read_relay" 23 1,fe "read_nodes" 24 1,fe "read_piece" 25 1,fe "read_number" 26 1,fe "is_number" 27 1,fe "_law_pot" 28 2,fe "_law_take" 29 2,fe "_law_kinds" 30 1,fe "_law_all" 31 2,fe "_law_bare" 32 0,fe "_law_right" 33 1,fe "_law_caught" 34 2,fe "law" 35 1]
def gl:List (Str×W):=[("MOST_SIGNS",(.int 8)),("MOST_KEYS",(.int 2)),("MOST_RELAYS",(.int 4)),("MOST_LAMPS",(.int 2)),("LEAST_NODES",(.int 2)),("MOST_NODES",(.int 640)),("MOST_PIECES",(.int 800)),("LEAST_TIME",(.int 1)),("MOST_TIME",(.int 4)),("FIGURES",(.str "0123456789")),("MOST_FIGURES",(.int 12))]
def fz:List Pos:=[⟨50,24,50,34⟩,⟨51,26,51,38⟩,⟨52,25,52,36⟩,⟨54,26,54,38⟩,⟨55,25,55,36⟩,⟨61,15,61,36⟩,⟨64,15,64,35⟩,⟨70,15,70,36⟩,⟨73,15,73,35⟩,⟨94,48,94,85⟩,⟨122,15,122,67⟩,⟨126,12,126,62⟩,⟨137,35,137,87⟩,⟨146,12,146,80⟩,⟨147,16,147,42⟩,⟨149,17,149,67⟩,⟨151,13,151,50⟩,⟨152,12,152,51⟩,⟨155,13,155,66⟩,⟨163,11,163,60⟩,⟨172,26,172,65⟩,⟨178,17,178,73⟩,⟨184,53,184,87⟩,⟨216,41,216,83⟩,⟨234,22,234,104⟩,⟨241,15,241,81⟩]
def cs:Cs:=⟨[("Net","key_list"),("Net","relay_list"),("Net","lamp_list"),("Net","many_nodes"),("Net","piece_list"),("Net","time_list")],[(("Net","relays"),1),(("Net","lamps"),2),(("Net","nodes"),3),(("Net","pieces"),4),(("Net","times"),5)],[("Net",0)],[("MANY_ENDS",Kg)],[]⟩
def zz:Cz:=⟨[fe "check_net" 6 6,fe "check_words" 7 3,fe "check_many" 10 3,fe "check_sizes" 11 2,fe "check_pieces" 12 5,fe "check_just_one" 17 3,fe "check_times" 18 2,fe "read_net" 20 1,fe "split_rows" 21 1,fe "read_relay" 23 1,fe "read_nodes" 24 1,fe "read_number" 26 1],[("Net",0)],[("NoNet",some "fault"),("NoText",none),("NoTable",some "fault"),("NoNames",none),("NoName",none),("NoPiece",none),("NoPosition",none),("NoState",none),("NotResting",none),("Raced",some "race"),("NotSure",none),("RelayError",none)],[("NoNet",["NoNet"]),("NoText",["NoText"]),("NoTable",["NoTable"]),("NoNames",["NoNames"]),("NoName",["NoName"]),("NoPiece",["NoPiece"]),("NoPosition",["NoPosition"]),("NoState",["NoState"]),("NotResting",["NotResting"]),("Raced",["Raced"]),("NotSure",["NotSure"]),("RelayError",["NoNet","NoText","NoTable","NoNames","NoName","NoPiece","NoPosition","NoState","NotResting","Raced","NotSure","RelayError"]),("ValueError",["NoNet","NoText","NoTable","NoNames","NoName","NoPiece","NoPosition","NoState","NotResting","Raced","NotSure","RelayError"])]⟩
def fuel:Nat:=1000
def pg:Pg:=⟨[⟨7,7,b0⟩,⟨1,1,b1⟩,⟨1,1,b2⟩,⟨1,1,b3⟩,⟨1,1,b4⟩,⟨1,1,b5⟩,⟨6,6,b6⟩,⟨3,4,b7⟩,⟨1,4,b8⟩,⟨1,2,b9⟩,⟨3,7,LG⟩,⟨2,2,LH⟩,⟨5,9,LI⟩,⟨3,5,LJ⟩,⟨1,1,LK⟩,⟨2,3,LL⟩,⟨1,1,LM⟩,⟨3,7,LN⟩,⟨2,4,LO⟩,⟨1,2,LP⟩,⟨1,14,LQ⟩,⟨1,2,LR⟩,⟨1,2,LS⟩,⟨1,2,LU⟩,⟨1,1,LV⟩,⟨1,2,LW⟩,⟨1,1,LX⟩,⟨1,2,LY⟩,⟨2,3,K8⟩,⟨2,3,Kl⟩,⟨1,2,Km⟩,⟨2,3,LZ⟩,⟨0,1,L0⟩,⟨1,4,Kn⟩,⟨2,2,L1⟩,⟨1,9,Ko⟩,⟨2,2,L3⟩,⟨2,2,L4⟩,⟨2,2,L5⟩],cs,fuel,zz⟩
def tf(i:Nat):Tb:=("",top i)
def tm(c:Str)(i j:Nat):Tb:=(c,inClass (top i) j)
def Kp:List Tb:=[tm "Net" 25 0,tm "Net" 25 2,tm "Net" 25 3,tm "Net" 25 4,tm "Net" 25 5,tm "Net" 25 6,tf 26,tf 27,tf 28,tf 29,tf 30,tf 31,tf 32,tf 33,tf 34,tf 35,tf 36,tf 37,tf 38,tf 39,tf 43,tf 44,tf 45,tf 46,tf 47,tf 48,tf 49,tf 50,tf 52,tf 53,tf 54,tf 55,tf 56,tf 57,tf 58,tf 59,tm "NoNet" 3 0,tm "NoTable" 5 0,tm "Raced" 12 0]
theorem stat:Stat pg fns gl fz Kp:=⟨by kernel_rfl,by kernel_rfl,by kernel_rfl⟩
end My
namespace My
open PySem D List
theorem lF{b:Type}{a:b}{l:List b}:(a::l)[0]?=some a:=rfl
theorem lG{b:Type}{a:b}{l:List b}{i:Nat}:(a::l)[i+1]?=l[i]?:=rfl
theorem lH{b:Type}{x a:b}{l:List b}:(x::l).set 0 a=a::l:=rfl
theorem lI{b:Type}{x a:b}{l:List b}{n:Nat}:(x::l).set (n+1) a=x::l.set n a:=rfl
variable{M m:Mem}{n:Nat}
theorem j8{a:Type}{q:a->Bool}:∀xs:List a,bools (xs.map λ x=>W.bl (q x))=@(xs.map q)
 | []=>rfl
 |x::r=>by simp[bools,j8 r]
section
variable{C:Cx}{t:T}{e it:E}{Z:D.Loc}{m:Mem}{xs:List W}{s:Src}{B:W->D.Loc}{js:List Nat}{q:W->Bool}
theorem BU(f:Cm m)(l:gE C it Z m=.ok s m)(i:∀j (h:j<xs.length),s.get m j=.it xs[j])(k:s.get m xs.length=.fin)(d:s.len m=xs.length)(g:xs.length<=lim)
  (r:∀x∈xs,aG t x (fW js Z)=@(B x)) (o:∀x∈xs,∀y∈xs,aG t y (B x)=@(B y)) (h:∀x∈xs,ao C e (B x) m=.ok (.bl (q x)) m) :
  ao C (.frz (.comp (.gen t js it .nil (.elt e)))) Z m=.ok (.fz (xs.map λ x=>.bl (q x))) m:=by
 let⟨b,a⟩:=Ah (ifs:=.nil) (p:=λ _=>true) i k r o (λ x _=>by erw[g6]) (λ x c _=>h x c) g;rw[Ag,<-d] at a;exact rM (rK l a) rfl f (HX (λ _=>rfl) _)
theorem all_gen(b:Cm m)(g:gE C it Z m=.ok s m)(d:∀j (h:j<xs.length),s.get m j=.it xs[j])(f:s.get m xs.length=.fin)(a:s.len m=xs.length)(c:xs.length<=lim)
  (k:∀x∈xs,aG t x (fW js Z)=@(B x)) (i:∀x∈xs,∀y∈xs,aG t y (B x)=@(B y)) (h:∀x∈xs,ao C e (B x) m=.ok (.bl (q x)) m) :
  ao C (.blt .all %[|.frz (.comp (.gen t js it .nil (.elt e)))]) Z m=.ok (.bl (xs.all q)) m:=by
 rw[iJ,aN,BU b g d f a c k i h];erw[aU,bh,gC,getL,j8];rw[Qc];rfl
end
def Au:W->Int
 |.int i=>i
 |_=>0
theorem L6{a b:Int}:sJ m (.int a) (.int b)=.ok (decide (a=b)) m:=by
 simp[sJ,toD,PyData.eqv]
 by_cases h:a=b<;>simp[h]
theorem toNat_eq{d:Int}(h:0<=d):((d.toNat:Nat):Int)=d:=by omega
theorem Kq:Draws (D.runN pg (n+1) 29):=by
 intro m p a c b f;let⟨A,B,d⟩:=c;have c:=(Mw.mp d).1;have g:∀o:O,(m.set p o)[p]?=some o:=λ o=>by simp[c]
 by_cases e:0<A
 .refine⟨A%a,m.set p (Ao (A / a) B),?_,⟨_,_,rfl⟩,PR _ (by omega),Pb _ b⟩;simp[D.runN_succ,pg,Kl,cK,iY,dD,dX,jL,iT,jM,iU,jN,iV,fG,iW,mY,iX,fH,mZ,mG,mH,mJ,mK,mO,mQ,mR,mS,iI,mT,mU,iL,iM,iN,iO,mV,mW,iP,mX,iQ,jH,iR,fF,dW,eB,jI,aZ,bN,gF,qt,qu,qw,yU,mL,gZ,qA,iG,gG,gH,qC,iH,iJ,qD,iK,oX,bO,qE,oY,qF,kI,iS,jJ,bW,cN,cJ,aG,R.bind,aK,dR,bM,getL,d,L2.oK,L2.uH,gC,mD,outF,e,b,f]
 .refine⟨_,m.set p (Ao A ((B*48271)%2147483647)),?_,⟨_,_,rfl⟩,PR (((B*48271)%2147483647)*((B*48271)%2147483647)%2147483629 / 7) (by omega:a≠0),Pb _ b⟩;have k:0<=(B*48271)%2147483647:=PR _ 'd';have j:(B*48271)%2147483647<2147483647:=Pb _ 'd';have i:iC B 48271=true:=by simp[iC]
  have h:iC ((B*48271)%2147483647) ((B*48271)%2147483647)=true:=by simp[iC];omega
  simp[D.runN_succ,pg,Kl,cK,iY,dD,dX,jL,iT,jM,iU,jN,iV,fG,iW,mY,iX,fH,mZ,mG,mH,mJ,mK,mO,mQ,mR,mS,iI,mT,mU,iL,iM,iN,iO,mV,mW,iP,mX,iQ,jH,iR,fF,dW,eB,jI,aZ,bN,gF,qt,qu,qw,yU,mL,gZ,qA,iG,gG,gH,qC,iH,iJ,qD,iK,oX,bO,qE,oY,qF,kI,iS,jJ,bW,cN,cJ,aG,R.bind,aK,dR,bM,getL,d,g,L2.oK,L2.uH,gC,mD,outF,e,b,f,binop,i,h]
theorem draw{p:Nat}{many:Int}(c:Ig m p)(f:0<many)(e:many<1073741824):∃d:Nat,∃a,aP (D.runN pg (n+1) 29) [.ref p,.int many] m=.ok (.int d) a/\PS p m a/\(d:Int)<many:=by
 rw[gr rfl];let⟨d,a,h,s,b,g⟩:=Kq c f e;exact⟨d.toNat,a,by rw[toNat_eq b];exact h,s,by omega⟩
theorem Kr{ns:List Int}:∃A B,aP (D.runN pg (n+1) 28) [.fz (ns.map .int),.int 0] m=.ok (.ref m.length) (m++[Ao A B]):=by
 obtain⟨A,B,a⟩:∃A B,D.runN pg (n+1) 28 [.fz (ns.map .int),.int 0] []=.ok (.ref 0) [Ao A B]:=by
  rcases ns with _ | ⟨c,r⟩
  .exact⟨_,_,rfl⟩
  .refine⟨if 0<c - 10^18 then c - 10^18 else 0,((if c<0 then -c else c)+7919*0+31)%2147483646+1,?_⟩;have h:(0:Int)<(r.length:Int)+1:=by omega
   simp[D.runN_succ,pg,K8,cK,iY,dD,dX,jL,iT,jM,iU,jN,iV,fG,iW,mY,iX,fH,mZ,mG,mH,mJ,mK,mO,mQ,mR,mS,iI,mT,mU,iL,iM,iN,iO,mV,mW,iP,mX,iQ,jH,iR,fF,dW,eB,jI,aZ,bN,gF,qt,qu,qw,yU,mL,gZ,qA,iG,gG,gH,qC,iH,iJ,qD,iK,oX,bO,qE,oY,qF,kI,iS,jJ,bW,cN,aG,R.bind,aK,dR,bM,getL,L2.oK,L2.uH,gC,binop,outF,h,iC,new,lim]
 exact⟨A,B,(gu (by simp[ay,aI,xM]) a rfl).trans rfl⟩
theorem fQ(k:Nat)(M:Mem)(j:Nat):Src.get (.rng 0 k) M j=Src.get (.tup ((List.range k).map λ t=>W.int (t:Nat))) M j:=by
 by_cases h:j<k
 .rw[pT h,cu (~~~h)];simp
 .rw[nR h,bR (~~~h)]
section
variable{C:D.Cx}{i:Nat}{js:List Nat}{it e:E}{Z:D.Loc}{m:Mem}{xs:List W}{s:Src}
theorem ES(I:Nat->Mem->List W->Prop){m0:Mem}(G:gE C it Z m0=.ok s m)(q:∀M j,I j M=I j M->s.get M j=Src.get (.tup xs) M j)(B:s.len m=xs.length)(O:xs.length<=lim)(H:I 0 m [])
  (A:∀(j:Nat) (h:j<xs.length) (M:Mem) (a:List W),I j M a->a.length=j->∃w v,ao C e ((fW js Z).set i (some xs[j])) M=.ok w v/\aI w=true/\I (j+1) v (a++[w]))
  (F:∀M a,I xs.length M a->M.length=m0.length/\Cm M) :
  ∃ws d,ao C (.frz (.comp (.gen (.var i) js it .nil (.elt e)))) Z m0=.ok (.fz ws) d/\I xs.length d ws/\ws.length=xs.length:=by
 let⟨a,x,d,l,r,g,f,k⟩:=eK (get:=s.get) (t:=.var i) (test:=fun Z m=>aX C .nil Z m) (body:=fun Z m a=>f9 C (.elt e) Z m a)
  (λ j u c a=>(∀o,u.set i o=(fW js Z).set i o)/\I j c a/\a.length=j/\∀w∈a,aI w=true) (λ j u c a p=>by
   rintro⟨r,g,f,k⟩;let⟨w,z,l,N,L⟩:=A j p c a g f;refine⟨xs[j],(fW js Z).set i (some xs[j]),by rw[q c j rfl,cu p],by erw[aG,r],.inl ⟨c,a++[w],(fW js Z).set i (some xs[j]),z,by erw[g6],?_,λ o=>by simp,L,by simp[f],λ y b=>?_⟩⟩
   .have:a.length<lim:=by omega
    erw[jK,l,R.bind,this,ND]
   .rcases M7.mp b with b | b
    .exact k y b
    .rw[Nz] at b;subst b;exact N) (fun Z m a _=>by rw[q m _ rfl];exact bR (by omega)) xs.length 0 (fW js Z) m [] (by omega) ⟨λ _=>rfl,H,rfl,by simp⟩
 let⟨K,J⟩:=F _ _ g;exact⟨a,d,rM (rK G (by rw[B];exact l)) K J (fk.mpr k),g,f⟩
end
section
variable{n:Nat}{F R:W}
abbrev allM(F R:W):Mem:=[.exc "NoNet" "fault" [F],.exc "NoText" "" [],.exc "NoTable" "fault" [F],.exc "NoNames" "" [],.exc "NoName" "" [],.lst [.ref 0,.ref 1,.ref 2,.ref 3,.ref 4],.exc "NoPiece" "" [],.exc "NoPosition" "" [],.exc "NoState" "" [],.exc "NotResting" "" [],.lst [.ref 6,.ref 7,.ref 8,.ref 9],.lst [.ref 0,.ref 1,.ref 2,.ref 3,.ref 4,.ref 6,.ref 7,.ref 8,.ref 9],.exc "Raced" "race" [R],.exc "NotSure" "" [],.lst [.ref 12,.ref 13],.lst [.ref 0,.ref 1,.ref 2,.ref 3,.ref 4,.ref 6,.ref 7,.ref 8,.ref 9,.ref 12,.ref 13]]
theorem Av:D.runN pg (n+1) 31 [F,R] []=.ok (.ref 15) (allM F R):=rfl
abbrev xU:Mem:=[.exc "NoText" "" [],.exc "NoNames" "" [],.exc "NoName" "" [],.exc "NoPiece" "" [],.exc "NoPosition" "" [],.exc "NoState" "" [],.exc "NotResting" "" [],.lst [.non,.ref 0,.non,.ref 1,.ref 2,.ref 3,.ref 4,.ref 5,.ref 6,.non],.exc "NotSure" "" [],.lst [.ref 8],.lst [.non,.ref 0,.non,.ref 1,.ref 2,.ref 3,.ref 4,.ref 5,.ref 6,.non,.ref 8]]
theorem xV:D.runN pg (n+1) 32 [] []=.ok (.ref 10) xU:=rfl
theorem Aw:∃a,D.runN pg (n+1+1+1+1+1+1) 34 [.int 0,F] []=.ok (.bl true) a:=⟨_,rfl⟩
theorem Ax:∃a,D.runN pg (n+1+1+1+1+1+1) 34 [.int 1,F] []=.ok (.bl true) a:=⟨_,rfl⟩
theorem Ay:∃a,D.runN pg (n+1+1+1+1+1+1) 34 [.int 2,F] []=.ok (.bl true) a:=⟨_,rfl⟩
end
def fR:List Str:=["NoNet","NoText","NoTable","NoNames","NoName","NoPiece","NoPosition","NoState","NotResting","Raced","NotSure"]
abbrev T0:List (Str×Bool):=[("NoNet",true),("NoText",false),("NoTable",false),("NoNames",false),("NoName",false),("NoPiece",false),("NoPosition",false),("NoState",false),("NotResting",false),("Raced",false),("NotSure",false),("RelayError",false)]
abbrev T1:List (Str×Bool):=[("NoNet",false),("NoText",true),("NoTable",false),("NoNames",false),("NoName",false),("NoPiece",false),("NoPosition",false),("NoState",false),("NotResting",false),("Raced",false),("NotSure",false),("RelayError",false)]
abbrev T2:List (Str×Bool):=[("NoNet",false),("NoText",false),("NoTable",true),("NoNames",false),("NoName",false),("NoPiece",false),("NoPosition",false),("NoState",false),("NotResting",false),("Raced",false),("NotSure",false),("RelayError",false)]
abbrev T3:List (Str×Bool):=[("NoNet",false),("NoText",false),("NoTable",false),("NoNames",true),("NoName",false),("NoPiece",false),("NoPosition",false),("NoState",false),("NotResting",false),("Raced",false),("NotSure",false),("RelayError",false)]
abbrev T4:List (Str×Bool):=[("NoNet",false),("NoText",false),("NoTable",false),("NoNames",false),("NoName",true),("NoPiece",false),("NoPosition",false),("NoState",false),("NotResting",false),("Raced",false),("NotSure",false),("RelayError",false)]
abbrev T5:List (Str×Bool):=[("NoNet",false),("NoText",false),("NoTable",false),("NoNames",false),("NoName",false),("NoPiece",true),("NoPosition",false),("NoState",false),("NotResting",false),("Raced",false),("NotSure",false),("RelayError",false)]
abbrev T6:List (Str×Bool):=[("NoNet",false),("NoText",false),("NoTable",false),("NoNames",false),("NoName",false),("NoPiece",false),("NoPosition",true),("NoState",false),("NotResting",false),("Raced",false),("NotSure",false),("RelayError",false)]
abbrev T7:List (Str×Bool):=[("NoNet",false),("NoText",false),("NoTable",false),("NoNames",false),("NoName",false),("NoPiece",false),("NoPosition",false),("NoState",true),("NotResting",false),("Raced",false),("NotSure",false),("RelayError",false)]
abbrev T8:List (Str×Bool):=[("NoNet",false),("NoText",false),("NoTable",false),("NoNames",false),("NoName",false),("NoPiece",false),("NoPosition",false),("NoState",false),("NotResting",true),("Raced",false),("NotSure",false),("RelayError",false)]
abbrev T9:List (Str×Bool):=[("NoNet",false),("NoText",false),("NoTable",false),("NoNames",false),("NoName",false),("NoPiece",false),("NoPosition",false),("NoState",false),("NotResting",false),("Raced",true),("NotSure",false),("RelayError",false)]
abbrev IP:List (Str×Bool):=[("NoNet",false),("NoText",false),("NoTable",false),("NoNames",false),("NoName",false),("NoPiece",false),("NoPosition",false),("NoState",false),("NotResting",false),("Raced",false),("NotSure",true),("RelayError",false)]
abbrev TA:List (Str×Bool):=[("NoNet",true),("NoText",true),("NoTable",true),("NoNames",true),("NoName",true),("NoPiece",true),("NoPosition",true),("NoState",true),("NotResting",true),("Raced",true),("NotSure",true),("RelayError",true)]
abbrev qB(t i:Nat):Bool:=decide (((t:Nat):Int)=((i:Nat):Int))
theorem L7:∀i:Nat,i<11->T0.lookup (fR.getD i "")=some (qB 0 i):=by decide +kernel
theorem L8:∀i:Nat,i<11->T1.lookup (fR.getD i "")=some (qB 1 i):=by decide +kernel
theorem Ma:∀i:Nat,i<11->T2.lookup (fR.getD i "")=some (qB 2 i):=by decide +kernel
theorem Mb:∀i:Nat,i<11->T3.lookup (fR.getD i "")=some (qB 3 i):=by decide +kernel
theorem Mc:∀i:Nat,i<11->T4.lookup (fR.getD i "")=some (qB 4 i):=by decide +kernel
theorem Me:∀i:Nat,i<11->T5.lookup (fR.getD i "")=some (qB 5 i):=by decide +kernel
theorem Mf:∀i:Nat,i<11->T6.lookup (fR.getD i "")=some (qB 6 i):=by decide +kernel
theorem Mg:∀i:Nat,i<11->T7.lookup (fR.getD i "")=some (qB 7 i):=by decide +kernel
theorem Mh:∀i:Nat,i<11->T8.lookup (fR.getD i "")=some (qB 8 i):=by decide +kernel
theorem Mi:∀i:Nat,i<11->T9.lookup (fR.getD i "")=some (qB 9 i):=by decide +kernel
theorem Ks:∀i:Nat,i<11->IP.lookup (fR.getD i "")=some (qB 10 i):=by decide +kernel
theorem Mj:∀i:Nat,i<11->TA.lookup (fR.getD i "")=some true:=by decide +kernel
section
variable{M:Mem}{n x i:Nat}{f:Str}{ws:List W}
theorem aQ{q:Nat}{L:Mem}{o:O}(h:M[q]?=some o):(M++L)[q]?=some o:=by rw[MI (Mw.mp h).1];exact h
theorem cz{a:Nat}{xs:List W}(h:M[a]?=@(.lst xs)):getL M (.ref a)=some xs:=by erw[getL,h]
theorem xW{x y:W}{xs a:List W}(c:getL M x=some xs)(b:getL M y=some a)(d:xs.length+a.length<=lim):binop .Add x y M=.ok (.ref M.length) (M++[.lst (xs++a)]):=by
 have e:yS M x y=.ok (.ref M.length) (M++[.lst (xs++a)]):=by erw[yS,c,b,d,ND,new]
 cases x with
 |ref i=>cases y<;>first | exact e | cases b
 |fz zs=>cases y<;>first | exact e | cases b
 |_=>cases c
theorem gV{C:D.Cx}{Z:D.Loc}{e:E}{a:List (Str×Bool)}{c g:Str}{us:List W}{b:Bool}(h:ao C e Z M=.ok (.ref x) M)(d:M[x]?=@(.exc c g us))(j:a.lookup c=some b):ao C (.fus (.isx a) e) Z M=.ok (.bl b) M:=by
 rw[bO,h];erw[aU,bX,qk,d,j]
abbrev kL(i:Nat):Mem:=[.lst [.bl (qB 0 i),.bl (qB 1 i),.bl (qB 2 i)],.lst [.bl (qB 3 i),.bl (qB 4 i),.bl (qB 5 i)],.lst [.bl (qB 0 i),.bl (qB 1 i),.bl (qB 2 i),.bl (qB 3 i),.bl (qB 4 i),.bl (qB 5 i)],.lst [.bl (qB 6 i),.bl (qB 7 i),.bl (qB 8 i)],.lst [.bl (qB 0 i),.bl (qB 1 i),.bl (qB 2 i),.bl (qB 3 i),.bl (qB 4 i),.bl (qB 5 i),.bl (qB 6 i),.bl (qB 7 i),.bl (qB 8 i)],.lst [.bl (qB 9 i),.bl (qB 10 i)],.lst [.bl (qB 0 i),.bl (qB 1 i),.bl (qB 2 i),.bl (qB 3 i),.bl (qB 4 i),.bl (qB 5 i),.bl (qB 6 i),.bl (qB 7 i),.bl (qB 8 i),.bl (qB 9 i),.bl (qB 10 i)]]
theorem kinds(C:Cm M)(b:i<11)(a:M[x]?=@(.exc (fR.getD i "") f ws)):aP (D.runN pg (n+1) 30) [.ref x] M=.ok (.ref (M.length+6)) (M++kL i):=by
 have w:∀(L:Mem) (o:Option W),ao (Cn pg n) (.fus (.isx T0) @0) [@(.ref x),o] (M++L)=.ok (.bl (qB 0 i)) (M++L):=λ L o=>gV rfl (aQ a) (L7 i b);have v:∀(L:Mem) (o:Option W),ao (Cn pg n) (.fus (.isx T1) @0) [@(.ref x),o] (M++L)=.ok (.bl (qB 1 i)) (M++L):=λ L o=>gV rfl (aQ a) (L8 i b);have u:∀(L:Mem) (o:Option W),ao (Cn pg n) (.fus (.isx T2) @0) [@(.ref x),o] (M++L)=.ok (.bl (qB 2 i)) (M++L):=λ L o=>gV rfl (aQ a) (Ma i b);have t:∀(L:Mem) (o:Option W),ao (Cn pg n) (.fus (.isx T3) @0) [@(.ref x),o] (M++L)=.ok (.bl (qB 3 i)) (M++L):=λ L o=>gV rfl (aQ a) (Mb i b);have s:∀(L:Mem) (o:Option W),ao (Cn pg n) (.fus (.isx T4) @0) [@(.ref x),o] (M++L)=.ok (.bl (qB 4 i)) (M++L):=λ L o=>gV rfl (aQ a) (Mc i b);have r:∀(L:Mem) (o:Option W),ao (Cn pg n) (.fus (.isx T5) @0) [@(.ref x),o] (M++L)=.ok (.bl (qB 5 i)) (M++L):=λ L o=>gV rfl (aQ a) (Me i b);have q:∀(L:Mem) (o:Option W),ao (Cn pg n) (.fus (.isx T6) @0) [@(.ref x),o] (M++L)=.ok (.bl (qB 6 i)) (M++L):=λ L o=>gV rfl (aQ a) (Mf i b);have p:∀(L:Mem) (o:Option W),ao (Cn pg n) (.fus (.isx T7) @0) [@(.ref x),o] (M++L)=.ok (.bl (qB 7 i)) (M++L):=λ L o=>gV rfl (aQ a) (Mg i b);have l:∀(L:Mem) (o:Option W),ao (Cn pg n) (.fus (.isx T8) @0) [@(.ref x),o] (M++L)=.ok (.bl (qB 8 i)) (M++L):=λ L o=>gV rfl (aQ a) (Mh i b);have k:∀(L:Mem) (o:Option W),ao (Cn pg n) (.fus (.isx T9) @0) [@(.ref x),o] (M++L)=.ok (.bl (qB 9 i)) (M++L):=λ L o=>gV rfl (aQ a) (Mi i b);have d:∀(L:Mem) (o:Option W),ao (Cn pg n) (.fus (.isx IP) @0) [@(.ref x),o] (M++L)=.ok (.bl (qB 10 i)) (M++L):=λ L o=>gV rfl (aQ a) (Ks i b);have c:∀{L:Mem} {i:Nat},(M++L)[M.length+i]?=L[i]?:=λ {L i}=>by
  rw[ML (by omega),Oa]
 have B:ao (Cn pg n) (.lst %[.fus (.isx T0) @0,.fus (.isx T1) @0,|.fus (.isx T2) @0]) [@(.ref x),none] M=.ok (.ref M.length) (M++(kL i).take 1):=by
  have j:=w [] none;have h:=v [] none;have g:=u [] none;rw[NP] at j h g;erw[gG,aN,bh,aU,j,h,g];rfl
 have A:ao (Cn pg n) (.bin .Add @1 (.lst %[.fus (.isx T3) @0,.fus (.isx T4) @0,|.fus (.isx T5) @0])) [@(.ref x),@(.ref (M.length+0))] (M++(kL i).take 1)=.ok (.ref (M.length+2)) (M++(kL i).take 3):=by
  have e:ao (Cn pg n) (.lst %[.fus (.isx T3) @0,.fus (.isx T4) @0,|.fus (.isx T5) @0]) [@(.ref x),@(.ref (M.length+0))] (M++(kL i).take 1)=.ok (.ref (M++(kL i).take 1).length) (M++(kL i).take 1++[.lst [.bl (qB 3 i),.bl (qB 4 i),.bl (qB 5 i)]]):=by
   erw[gG,aN,bh,aU,t,s,r];rfl
  rw[gF,aZ];erw[lF,lG,lH,lI,aU];rw[e];erw[aU,NN];rw[xW (cz (c (i:=0))) (cz (by rw[Nm];exact c (i:=1))) 'm'];rw[Nm,NN];rfl
 have z:ao (Cn pg n) (.bin .Add @1 (.lst %[.fus (.isx T6) @0,.fus (.isx T7) @0,|.fus (.isx T8) @0])) [@(.ref x),@(.ref (M.length+2))] (M++(kL i).take 3)=.ok (.ref (M.length+4)) (M++(kL i).take 5):=by
  have e:ao (Cn pg n) (.lst %[.fus (.isx T6) @0,.fus (.isx T7) @0,|.fus (.isx T8) @0]) [@(.ref x),@(.ref (M.length+2))] (M++(kL i).take 3)=.ok (.ref (M++(kL i).take 3).length) (M++(kL i).take 3++[.lst [.bl (qB 6 i),.bl (qB 7 i),.bl (qB 8 i)]]):=by
   erw[gG,aN,bh,aU,q,p,l];rfl
  rw[gF,aZ];erw[lF,lG,lH,lI,aU];rw[e];erw[aU,NN];rw[xW (cz (c (i:=2))) (cz (by rw[Nm];exact c (i:=3))) 'm'];rw[Nm,NN];rfl
 have y:ao (Cn pg n) (.bin .Add @1 (.lst %[.fus (.isx T9) @0,|.fus (.isx IP) @0])) [@(.ref x),@(.ref (M.length+4))] (M++(kL i).take 5)=.ok (.ref (M.length+6)) (M++(kL i).take 7):=by
  have e:ao (Cn pg n) (.lst %[.fus (.isx T9) @0,|.fus (.isx IP) @0]) [@(.ref x),@(.ref (M.length+4))] (M++(kL i).take 5)=.ok (.ref (M++(kL i).take 5).length) (M++(kL i).take 5++[.lst [.bl (qB 9 i),.bl (qB 10 i)]]):=by
   erw[gG,aN,bh,aU,k,d];rfl
  rw[gF,aZ];erw[lF,lG,lH,lI,aU];rw[e];erw[aU,NN];rw[xW (cz (c (i:=4))) (cz (by rw[Nm];exact c (i:=5))) 'm'];rw[Nm,NN];rfl
 rw[gr rfl];refine pQ rfl rfl ?_;show aD _ Km [@(.ref x),none] M=_;rw[Km,bq (Z1:=[@(.ref x),@(.ref (M.length+0))]) (dH B rfl),bq (Z1:=[@(.ref x),@(.ref (M.length+2))]) (dH A rfl),bq (Z1:=[@(.ref x),@(.ref (M.length+4))]) (dH z rfl),pP (pS y)];rfl
end
section
variable{M:Mem}{n k:Nat}{es:List W}
theorem lJ{m:Mem}{q:Nat->Bool}:∀l:List Nat,cH (toD 59 m) (l.map λ t=>W.bl (q t))=@(l.map λ t=>PyData.bool (q t))
 | []=>rfl
 |x::r=>by
  have a:=lJ (m:=m) (q:=q) r;erw[Nj,cH,a];rfl
theorem xX{j t:Nat}(h:M[t]?=@(.lst [.bl (qB 0 j),.bl (qB 1 j),.bl (qB 2 j),.bl (qB 3 j),.bl (qB 4 j),.bl (qB 5 j),.bl (qB 6 j),.bl (qB 7 j),.bl (qB 8 j),.bl (qB 9 j),.bl (qB 10 j)])):sJ M (.ref t) (.fz ((List.range 11).map λ t=>W.bl (qB t j)))=.ok true M:=by
 have e:([.bl (qB 0 j),.bl (qB 1 j),.bl (qB 2 j),.bl (qB 3 j),.bl (qB 4 j),.bl (qB 5 j),.bl (qB 6 j),.bl (qB 7 j),.bl (qB 8 j),.bl (qB 9 j),.bl (qB 10 j)]:List W)=(List.range 11).map λ t=>W.bl (qB t j):=rfl;rw[e] at h;refine lE (d:=.list ((List.range 11).map λ t=>PyData.bool (qB t j))) ?_ ?_
 .rw[Ar h,lJ];rfl
 .rw[ER,lJ];rfl
def ET(M:Mem)(es:List W):Prop:=es.length=11/\∀(j:Nat) (h:j<es.length),es[j]=.non\/∃r f a,es[j]=.ref r/\M[r]?=@(.exc (fR.getD j "") f a)
theorem nZ(Q:Cm M)(s:M[k]?=@(.lst es))(z:ET M es):∃L,aP (D.runN pg (n+1+1) 33) [.ref k] M=.ok (.bl true) (M++L)/\Cm (M++L):=by
 let⟨R,z⟩:=z
 let Z (g d:Option W):D.Loc:=[@(.ref k),g,d,none]
 have T:gE (Cn pg (n+1)) (.enm @0) (Z none none) M=.ok (.enm (.lst k)) M:=by erw[Z,AZ,aZ,lF,lG,lH,lI,aU,srcOf,getL,s]
 let⟨J,u,S,⟨g,d,rfl⟩,L,rfl,c⟩:=Ae (C:=Cn pg (n+1)) (t:=.tup %[@1,|@2]) (b:=BS) (n:=11) T (by simp[Src.len,getL,s,R]) (λ j r u=>(∃g d,r=Z g d)/\∃L,u=M++L/\Cm (M++L)) ⟨⟨_,_,rfl⟩,[],by simp,by rw[NP];exact Q⟩ (λ j r u F=>by
   rintro⟨⟨g,d,rfl⟩,L,rfl,c⟩;have p:j<es.length:=by omega
   have G:Src.get (.enm (.lst k)) (M++L) j=.it (.tup [.int j,es[j]]):=pU (by rw[rL (aQ s),cu p]);rcases z j p with e | ⟨r,f,ws,e,w⟩
   .refine⟨_,Z @(.int j) (some .non),Z @(.int j) (some .non),M++L,G,by rw[e];rfl,.inl ?_,⟨_,_,rfl⟩,L,rfl,c⟩;have t:aR (Cn pg (n+1)) (.cmp .IsNot @2 (.cst .non)) (Z @(.int j) (some .non)) (M++L)=.ok false (M++L):=rfl;exact(bq ((xK t).trans rfl)).trans rfl
   .let a:=Z @(.int j) @(.ref r)
    have l:=aQ (L:=L) w;have O:=kinds (n:=n) (x:=r) (i:=j) c F l
    let M2:=M++L++kL j
    have I:Cm M2:=c.app λ o E=>by
     erw[kL,Nq,MU,Nr] at E;rcases E with rfl | rfl | rfl | rfl | rfl | rfl | rfl<;>rfl
    refine⟨_,a,a,M2,G,by rw[e];rfl,.inl ?_,⟨_,_,rfl⟩,L++kL j,by erw[M2,NN],by rw[<-NN];exact I⟩;have t:aR (Cn pg (n+1)) (.cmp .IsNot @2 (.cst .non)) a (M++L)=.ok true (M++L):=rfl;have v:ao (Cn pg (n+1)) (.fus (.isx TA) @2) a (M++L)=.ok (.bl true) (M++L):=gV rfl l (Mj j F);have N:aR (Cn pg (n+1)) (.or (.not (.fus (.isx TA) @2)) (.not (.fus (.isx TA) @2))) a (M++L)=.ok false (M++L):=by
     have A:aR (Cn pg (n+1)) (.not (.fus (.isx TA) @2)) a (M++L)=.ok false (M++L):=by
      rw[fF,iO,v];rfl
     rw[iR,A];erw[aU,MS,MR];exact A
    have H:ao (Cn pg (n+1)) (.frz (.comp (.gen @3 [3] (.rng @(11)) .nil (.elt (.cmp .Eq @3 @1))))) a M2=.ok (.fz (((List.range 11).map λ t=>W.int (t:Nat)).map λ x=>.bl (decide (Au x=(j:Int))))) M2:=BU (C:=Cn pg (n+1)) (B:=λ x=>[@(.ref k),@(.int j),@(.ref r),some x]) (q:=λ x=>decide (Au x=(j:Int))) I (EG (n:=11) rfl 'd') (λ i h=>by rw[fQ,cu h]) (by rw[fQ,bR 's']) (by simp[Src.len]) 'm' (λ x _=>rfl) (λ x _ y _=>rfl) (λ x w=>by
     let⟨t,_,rfl⟩:=Om.mp w;erw[mL,aZ,lF,lG,lH,lI,aU,aK,L6,Au];rfl)
    have P:(((List.range 11).map λ t=>W.int (t:Nat)).map λ x=>W.bl (decide (Au x=(j:Int))))=(List.range 11).map λ t=>W.bl (qB t j):=by
     rw[map_map];rfl
    rw[P] at H;have V:M2[(M++L).length+6]?=some (.lst [.bl (qB 0 j),.bl (qB 1 j),.bl (qB 2 j),.bl (qB 3 j),.bl (qB 4 j),.bl (qB 5 j),.bl (qB 6 j),.bl (qB 7 j),.bl (qB 8 j),.bl (qB 9 j),.bl (qB 10 j)]):=by
     rw[ML (by omega),Oa];rfl
    have K:aR (Cn pg (n+1)) (.cmp .NotEq (.call 30 %[|@2]) (.frz (.comp (.gen @3 [3] (.rng @(11)) .nil (.elt (.cmp .Eq @3 @1)))))) a (M++L)=.ok false M2:=by
     have U:ao (Cn pg (n+1)) (.call 30 %[|@2]) a (M++L)=.ok (.ref ((M++L).length+6)) M2:=by
      rw[bL,aN,show ao (Cn pg (n+1)) @2 a (M++L)=.ok (.ref r) (M++L) from rfl];erw[aU,bh,O];rfl
     rw[dW,U];erw[aU,H,aK,xX V];rfl
    exact(bq ((J8 t).trans ((bq ((xK N).trans rfl)).trans ((bq ((xK K).trans rfl)).trans rfl)))).trans rfl) (λ r u h=>by
   let⟨_,L,rfl,_⟩:=h;exact nU (by rw[rL (aQ s)];exact bR (by omega)))
 refine⟨L,?_,c⟩;rw[gr rfl];refine pQ rfl rfl ?_;show aD _ Kn (Z none none) M=_;rw[Kn,bq S];exact pP (pS rfl)
end
mutual
theorem rQ(k:Nat):∀{w:W},aI w=true->tP k w=w
 |.non,_=>rfl
 |.bl _,_=>rfl
 |.int _,_=>rfl
 |.str _,_=>rfl
 |.tup _,h=>by rw[tP,lK k (by simpa only[aI] using h)]
 |.fz _,h=>by rw[tP,lK k (by simpa only[aI] using h)]
 |.obj _ _ _,h=>by rw[tP,lK k (by simpa only[aI] using h)]
 |.ref _,h=>by simp[aI] at h
theorem lK(k:Nat):∀{w:List W},ay w=true->gU k w=w
 | [],_=>rfl
 |_::_,h=>by
  erw[ay,Mz] at h;rw[gU,rQ k h.1,lK k h.2]
end
section
variable{m:Mem}{n:Nat}{F R:W}
theorem je{L:Mem}{i:Nat}:(m++L)[m.length+i]?=L[i]?:=by
 rw[ML (by omega),Oa]
abbrev lM(k:Nat)(F R:W):Mem:=(allM F R).map (EC k)
abbrev Az(k:Nat):List W:=[.ref (k+0),.ref (k+1),.ref (k+2),.ref (k+3),.ref (k+4),.ref (k+6),.ref (k+7),.ref (k+8),.ref (k+9),.ref (k+12),.ref (k+13)]
theorem EU:(m++lM m.length F R)[m.length+15]?=some (.lst (Az m.length)):=je
theorem xY:ET (m++lM m.length F R) (Az m.length):=⟨rfl,λ j h=>by
 match j,h with
 |0,_=>exact .inr ⟨_,_,_,rfl,je (i:=0)⟩
 |1,_=>exact .inr ⟨_,_,_,rfl,je (i:=1)⟩
 |2,_=>exact .inr ⟨_,_,_,rfl,je (i:=2)⟩
 |3,_=>exact .inr ⟨_,_,_,rfl,je (i:=3)⟩
 |4,_=>exact .inr ⟨_,_,_,rfl,je (i:=4)⟩
 |5,_=>exact .inr ⟨_,_,_,rfl,je (i:=6)⟩
 |6,_=>exact .inr ⟨_,_,_,rfl,je (i:=7)⟩
 |7,_=>exact .inr ⟨_,_,_,rfl,je (i:=8)⟩
 |8,_=>exact .inr ⟨_,_,_,rfl,je (i:=9)⟩
 |9,_=>exact .inr ⟨_,_,_,rfl,je (i:=12)⟩
 |10,_=>exact .inr ⟨_,_,_,rfl,je (i:=13)⟩⟩
theorem EV(d:Cm m)(c:aI F=true)(b:aI R=true):Cm (m++lM m.length F R):=d.app λ o a=>by
 have f:=jb (m.length+16) c;have e:=jb (m.length+16) b;erw[lM,allM,Nj,Qk,EC,gU,tP,rQ _ c,rQ _ b,Nq,MU,Nr] at a;rcases a with rfl | rfl | rfl | rfl | rfl | rfl | rfl | rfl | rfl | rfl | rfl | rfl | rfl | rfl | rfl | rfl<;>simp[dB,bG,fc,f,e]
abbrev jd(k:Nat):Mem:=xU.map (EC k)
abbrev BV(k:Nat):List W:=[.non,.ref (k+0),.non,.ref (k+1),.ref (k+2),.ref (k+3),.ref (k+4),.ref (k+5),.ref (k+6),.non,.ref (k+8)]
theorem AA:(m++jd m.length)[m.length+10]?=some (.lst (BV m.length)):=je
theorem tT:ET (m++jd m.length) (BV m.length):=⟨rfl,λ j h=>by
 match j,h with
 |0,_=>exact .inl rfl
 |1,_=>exact .inr ⟨_,_,_,rfl,je (i:=0)⟩
 |2,_=>exact .inl rfl
 |3,_=>exact .inr ⟨_,_,_,rfl,je (i:=1)⟩
 |4,_=>exact .inr ⟨_,_,_,rfl,je (i:=2)⟩
 |5,_=>exact .inr ⟨_,_,_,rfl,je (i:=3)⟩
 |6,_=>exact .inr ⟨_,_,_,rfl,je (i:=4)⟩
 |7,_=>exact .inr ⟨_,_,_,rfl,je (i:=5)⟩
 |8,_=>exact .inr ⟨_,_,_,rfl,je (i:=6)⟩
 |9,_=>exact .inl rfl
 |10,_=>exact .inr ⟨_,_,_,rfl,je (i:=8)⟩⟩
theorem AB(b:Cm m):Cm (m++jd m.length):=b.app λ o a=>by
 erw[jd,xU,Nj,Qk,EC,gU,tP,Nq,MU,Nr] at a;rcases a with rfl | rfl | rfl | rfl | rfl | rfl | rfl | rfl | rfl | rfl | rfl<;>simp[dB,bG,fc]
theorem xZ(h:ay [F,R]=true):aP (D.runN pg (n+1) 31) [F,R] m=.ok (.ref (m.length+15)) (m++lM m.length F R):=gu h Av rfl
theorem tU:aP (D.runN pg (n+1) 32) [] m=.ok (.ref (m.length+10)) (m++jd m.length):=gu rfl xV rfl
end
def tV:List Str:=["words","many","nodes","pieces","piece","coil","lamp","times","row","lights"]
abbrev K9(z:Str):Prop:=z.cps.all (· < 0x110000)=true
theorem EW:∀z∈tV,K9 z:=by decide +kernel
abbrev mP(A B:Int):Mem:=[Ao A B,.lst (tV.map .str)]
theorem gv{A B:Int}:Ig (mP A B) 0:=⟨A,B,rfl⟩
theorem j9{A B:Int}(s:PS 0 (mP A B) M):∃b a,M=mP b a:=let ⟨b,a,h⟩:=s;⟨b,a,h⟩
theorem Im{A B:Int}:Cm (mP A B):=rfl
section
variable{n:Nat}{ns:List Int}
theorem La{w:Str}{d:Int}(h:K9 w):sJ M (.tup [.str w,.int d]) (.tup [.str w,.int d])=.ok true M:=by
 have e:toD 60 M (.tup [.str w,.int d])=some (.tuple [.str w,.int d]):=by
  rw[lD];erw[cH,Aq h];rfl
 exact lE e e
theorem Mm{a b:Int}{xs:List Int}:sJ M (.tup [.int a,.int 0,.int b,.tup (xs.map .int)]) (.tup [.int a,.int 0,.int b,.tup (xs.map .int)])=.ok true M:=by
 have e:toD 60 M (.tup [.int a,.int 0,.int b,.tup (xs.map .int)])=some (.tuple [.int a,.int 0,.int b,.tuple (xs.map .int)]):=by
  have h:toD 59 M (.tup (xs.map .int))=some (.tuple (xs.map .int)):=by
   rw[lD,j7];rfl
  rw[lD];erw[cH,h];rfl
 exact lE e e
theorem EX{F:W}(d:aI F=true):∀j:Nat,j<3->aP (D.runN pg (n+1+1+1+1+1+1) 34) [.int j,F] m=.ok (.bl true) m:=λ j c=>by
 have a:ay [.int j,F]=true:=by simp[ay,aI,d]
 match j,c,a with
 |0,_,a=>let⟨b,e⟩:=Aw (n:=n) (F:=F);exact fm a e rfl
 |1,_,a=>let⟨b,e⟩:=Ax (n:=n) (F:=F);exact fm a e rfl
 |2,_,a=>let⟨b,e⟩:=Ay (n:=n) (F:=F);exact fm a e rfl
theorem EY{C:D.Cx}{Z:D.Loc}{r:Nat}{c f:Str}{w:W}{a:List Str}{e:E}(b:ao C e Z M=.ok (.ref r) M)(h:M[r]?=@(.exc c f [w]))(d:a.contains c=true):ao C (.fus (.xfl f a) e) Z M=.ok w M:=by
 rw[bO,b];erw[aU,bX,ql,h];rw[MO ⟨trivial,d⟩]
theorem AD:∃m',D.runN pg (n+1+1+1+1+1+1+1) 35 [.fz (ns.map .int)] []=.ok (.bl true) m':=by
 let g:W:=.fz (ns.map .int)
 let⟨H,G,e1⟩:=Kr (n:=n+1+1+1+1+1) (m:=[]) (ns:=ns);let⟨u,m2,e2,s2,z2⟩:=draw (n:=n+1+1+1+1+1) (many:=10) (gv (A:=H) (B:=G)) 'd' 'd';let⟨z,v,rfl⟩:=j9 s2;obtain⟨w,hw,ew⟩:∃w∈tV,dR (.ref 1) (.int u) (mP z v)=.ok (.str w) (mP z v):=by
  have hl:u<tV.length:=by show u<10;omega
  refine⟨tV[u],Qa hl,?_⟩;have:=xP (m:=mP z v) (w:=.ref 1) (xs:=tV.map .str) (i:=u) rfl (~~~hl);rw[getElem_map] at this;exact this
 have sw:=EW w hw;let⟨d3,m3,e3,s3,z3⟩:=draw (n:=n+1+1+1+1+1) (many:=900) (gv (A:=z) (B:=v)) 'd' 'd';let⟨A3,Y,rfl⟩:=j9 s3
 let F:W:=.tup [.str w,.int d3]
 let⟨Q,m4,e4,s4,z4⟩:=draw (n:=n+1+1+1+1+1) (many:=4) (gv (A:=A3) (B:=Y)) 'd' 'd';let⟨A4,B4,rfl⟩:=j9 s4
 let E:D.Loc:=[some g,@(.ref 0),@(.str w),some F,none,none,none,none,none]
 let⟨xs,m5,e5,⟨A5,B5,q,rfl,rfl⟩,l5⟩:=ES (C:=Cn pg (n+1+1+1+1+1+1)) (i:=7) (js:=[7]) (it:=.rng (.bin .Add @(1) (.call 29 %[@1,|@(4)]))) (e:=.call 29 %[@1,|@(2)]) (Z:=E) (m0:=mP A3 Y) (m:=mP A4 B4) (s:=.rng 0 (1+Q)) (xs:=(List.range (1+Q)).map λ t=>W.int (t:Nat))
  (λ j M p=>∃(A B:Int) (q:List Int),M=mP A B/\p=q.map .int) (EG (by erw[E,EWs,e4];rfl) (by omega)) (λ M j _=>fQ (1+Q) M j) (by simp[Src.len]) (by simp[lim];omega) ⟨A4,B4,[],rfl,rfl⟩ (λ j hj M p h _=>by
   let⟨A,B,q,rfl,rfl⟩:=h;let⟨d,M2,e,s,_⟩:=draw (n:=n+1+1+1+1+1) (many:=2) (gv (A:=A) (B:=B)) 'd' 'd';let⟨A',B',rfl⟩:=j9 s;exact⟨.int d,_,by erw[E,fW,bL,aN,bh,aZ,bN,lF,lG,lH,lI,aU,e],rfl,A',B',q++[(d:Int)],rfl,by simp⟩) (λ M p h=>by
   let⟨A,B,q,rfl,rfl⟩:=h;exact⟨rfl,rfl⟩)
 let N:W:=.tup (q.map .int)
 let⟨d6,m6,e6,s6,z6⟩:=draw (n:=n+1+1+1+1+1) (many:=4) (gv (A:=A5) (B:=B5)) 'd' 'd';let⟨A6,B6,rfl⟩:=j9 s6;let⟨d7,m7,e7,s7,z7⟩:=draw (n:=n+1+1+1+1+1) (many:=3) (gv (A:=A6) (B:=B6)) 'd' 'd';let⟨l,k,rfl⟩:=j9 s7
 let R:W:=.tup [.int d6,.int 0,.int (1+d7),N]
 have J:aI F=true:=rfl;have I:aI R=true:=by simp[R,N,aI,ay,xM]
 have e8:=xZ (m:=mP l k) (n:=n+1+1+1+1+1) (F:=F) (R:=R) (by simp[ay,J,I]);have c8:=EV (m:=mP l k) Im J I;have a8:=EU (m:=mP l k) (F:=F) (R:=R);have r8:=xY (m:=mP l k) (F:=F) (R:=R);have x8:∀i,(mP l k++lM 2 F R)[2+i]?=(lM 2 F R)[i]?:=λ i=>je (m:=mP l k);let⟨L9,e9,c9⟩:=nZ (n:=n+1+1+1+1) c8 a8 r8;generalize hM8:mP l k++lM (mP l k).length F R=r at *
 let f:=r++L9
 have Mn:=tU (m:=f) (n:=n+1+1+1+1+1);let⟨U,P,T⟩:=nZ (n:=n+1+1+1+1) (AB c9) (AA (m:=f)) (tT (m:=f))
 let a:=f++jd f.length++U
 let c:D.Loc:=[some g,@(.ref 0),@(.str w),some F,some N,some R,@(.ref 17),none,none]
 have t7:aR (Cn pg (n+1+1+1+1+1+1)) (.or (.not (.call 33 %[|@6])) (.not (.call 33 %[|.call 32 .nil]))) c r=.ok false a:=by
  have f1:aR (Cn pg (n+1+1+1+1+1+1)) (.not (.call 33 %[|@6])) c r=.ok false f:=by
   rw[fF];erw[c,mG,mH,mJ,mK,mO,mQ,mR,mS,iI,mT,mU,iL,iM,iN,iO,mV,mW,iP,mX,iQ,jH,iR,fF,dW,eB,jI,bL,aN,bh,aZ,lF,lG,lH,lI,aU];rw[show aP (D.runN pg (n+1+1+1+1+1+1) 33) [.ref 17] r=_ from e9];rfl
  have f2:aR (Cn pg (n+1+1+1+1+1+1)) (.not (.call 33 %[|.call 32 .nil])) c f=.ok false a:=by
   rw[fF];erw[mG,mH,mJ,mK,mO,mQ,mR,mS,iI,mT,mU,iL,iM,iN,iO,mV,mW,iP,mX,iQ,jH,iR,fF,dW,eB,jI,bL,aN,bh,aU,Mn];rw[show aP (D.runN pg (n+1+1+1+1+1+1) 33) [.ref (f.length+10)] (f++jd f.length)=.ok (.bl true) a from P];rfl
  rw[iR,f1];erw[aU,MS,MR];exact f2
 have X:∀{i:Nat} {o:O},(lM 2 F R)[i]?=some o->a[2+i]?=some o:=λ {i o} h=>by
  have:r[2+i]?=some o:=(x8 i).trans h;exact aQ (aQ (aQ this))
 have k0:a[2+0]?=some (.exc "NoNet" "fault" [F]):=X (by rfl);have k2:a[2+2]?=some (.exc "NoTable" "fault" [F]):=X (by rfl);have k9:a[2+12]?=some (.exc "Raced" "race" [R]):=X (by
  show some (O.exc "Raced" "race" [tP 2 R])=_;rw[rQ 2 I])
 have k6:a[17]?=some (.lst (Az 2)):=aQ (aQ (aQ a8));have V:∀{i:Nat} (h:i<11),dR (.ref 17) (.int i) a=.ok ((Az 2)[i]'h) a:=λ {i} h=>xP (EI (cz k6)) h;have v0:ao (Cn pg (n+1+1+1+1+1+1)) (.idx @6 @(0)) c a=.ok (.ref (2+0)) a:=by
  erw[c,gH,aZ,bN,lF,lG,lH,lI,aU];exact V (i:=0) 'd'
 have v2:ao (Cn pg (n+1+1+1+1+1+1)) (.idx @6 @(2)) c a=.ok (.ref (2+2)) a:=by
  erw[c,gH,aZ,bN,lF,lG,lH,lI,aU];exact V (i:=2) 'd'
 have v9:ao (Cn pg (n+1+1+1+1+1+1)) (.idx @6 @(9)) c a=.ok (.ref (2+12)) a:=by
  erw[c,gH,aZ,bN,lF,lG,lH,lI,aU];exact V (i:=9) 'd'
 let b:Mem:=a++[.exc "Raced" "race" [.non]]
 have t8:aR (Cn pg (n+1+1+1+1+1+1)) (.or (.cmp .NotEq (.fus (.xfl "fault" ["NoNet","NoTable"]) (.idx @6 @(0))) @3) (.or (.cmp .NotEq (.fus (.xfl "fault" ["NoNet","NoTable"]) (.idx @6 @(2))) @3) (.or (.cmp .NotEq (.fus (.xfl "race" ["Raced"]) (.idx @6 @(9))) @5) (.cmp .IsNot (.fus (.xfl "race" ["Raced"]) (.fus (.mkx "Raced" (.some "race")) (.cst .non))) (.cst .non))))) c a=.ok false b:=by
  have g0:aR (Cn pg (n+1+1+1+1+1+1)) (.cmp .NotEq (.fus (.xfl "fault" ["NoNet","NoTable"]) (.idx @6 @(0))) @3) c a=.ok false a:=by
   rw[dW,EY v0 k0 'k'];erw[c,aU,aZ,lF,lG,lH,lI,aK,F,La sw];rfl
  have g2:aR (Cn pg (n+1+1+1+1+1+1)) (.cmp .NotEq (.fus (.xfl "fault" ["NoNet","NoTable"]) (.idx @6 @(2))) @3) c a=.ok false a:=by
   rw[dW,EY v2 k2 'k'];erw[c,aU,aZ,lF,lG,lH,lI,aK,F,La sw];rfl
  have g9:aR (Cn pg (n+1+1+1+1+1+1)) (.cmp .NotEq (.fus (.xfl "race" ["Raced"]) (.idx @6 @(9))) @5) c a=.ok false a:=by
   rw[dW,EY v9 k9 'k'];erw[c,aU,aZ,lF,lG,lH,lI,aK,R,N,Mm];rfl
  have K:ao (Cn pg (n+1+1+1+1+1+1)) (.fus (.xfl "race" ["Raced"]) (.fus (.mkx "Raced" (.some "race")) (.cst .non))) c a=.ok .non b:=by
   rw[bO,bO,bN];erw[aU,bX,mE,new];have hg:b[a.length]?=some (.exc "Raced" "race" [.non]):=by simp[b]
   erw[ql,show a++[O.exc "Raced" "race" [W.non]]=b from rfl,hg];rw[MO ⟨trivial,by decide +kernel⟩]
  rw[iR,g0];erw[aU,MS,MR];rw[iR,g2];erw[aU,MS,MR];rw[iR,g9];erw[aU,MS,MR];rw[dW,K];rfl
 have S:Cm b:=T.push rfl;have L:ao (Cn pg (n+1+1+1+1+1+1)) (.blt .all %[|.frz (.comp (.gen @8 [8] (.rng @(3)) .nil (.elt (.call 34 %[@8,|@3]))))]) c b=.ok (.bl (((List.range 3).map λ t=>W.int (t:Nat)).all λ _=>true)) b:=
  all_gen (C:=Cn pg (n+1+1+1+1+1+1)) (B:=λ x=>[some g,@(.ref 0),@(.str w),some F,some N,some R,@(.ref 17),none,some x]) S (EG (n:=3) rfl 'd') (λ i h=>by rw[fQ,cu h]) (by rw[fQ,bR 's']) (by simp[Src.len]) 'm' (λ x _=>rfl) (λ x _ y _=>rfl) (λ x K=>by
   let⟨t,ht,rfl⟩:=Om.mp K;have:=EX (n:=n) (m:=b) J t (List.mem_range.mp ht);erw[bL,aN,bh,aZ,lF,lG,lH,lI,aU,this])
 refine⟨b,pQ rfl rfl ?_⟩;show aD _ Ko [some g,none,none,none,none,none,none,none,none] []=_;rw[Ko,bq (Z1:=[some g,@(.ref 0),none,none,none,none,none,none,none]) (m1:=[Ao H G]) (dH (by erw[bL,aN,bh,aZ,bN,lF,lG,lH,lI,aU];exact e1) rfl)];rw[bq (Z1:=[some g,@(.ref 0),@(.str w),none,none,none,none,none,none]) (m1:=mP z v) (dH ?_ rfl)];rw[bq (Z1:=E) (m1:=mP A3 Y) (dH (w:=F) ?_ rfl)];rw[bq (Z1:=[some g,@(.ref 0),@(.str w),some F,some N,none,none,none,none]) (m1:=mP A5 B5) (dH (w:=N) ?_ rfl)];rw[bq (Z1:=[some g,@(.ref 0),@(.str w),some F,some N,some R,none,none,none]) (m1:=mP l k) (dH (w:=R) ?_ rfl)];rw[bq (Z1:=c) (m1:=r) (dH (w:=.ref 17) ?_ rfl)];rw[bq ((xK t7).trans rfl),bq ((xK t8).trans rfl),pP (pS L)]
 .rfl
 .erw[bL,aN,bh,aZ,lF,lG,lH,lI,aU];exact e8
 .erw[iG,gF,bL,aN,bh,aZ,bN,lF,lG,lH,lI,aU,e6,e7];rfl
 .rw[iJ,aN,e5];rfl
 .erw[iG,bL,aN,bh,aZ,bN,lF,lG,lH,lI,aU,e3];rfl
 .rw[gH];have el:ao (Cn pg (n+1+1+1+1+1+1)) (.lst %[@"words",@"many",@"nodes",@"pieces",@"piece",@"coil",@"lamp",@"times",@"row",|@"lights"]) [some g,@(.ref 0),none,none,none,none,none,none,none] [Ao H G]=.ok (.ref 1) (mP H G):=rfl;rw[el];erw[bL,aN,bh,aZ,bN,lF,lG,lH,lI,aU,e2];exact ew
theorem tW:∀ns:List Int,ns.length<=63->∃a,D.runN pg 40 35 [.fz (ns.map .int)] []=.ok (.bl true) a:=λ ns _=>AD
end
end My
namespace PySem.W.Fast
def tw3697027957123289261:=0
def tw18412320014472249386:=0
def tw9935345238909615383:=0
def tw8410431950213715297:=0
def tw8836722907217593562:=0
def tw2054253697715286992:=0
def tw11565859662908745544:=0
def tw9168901011430291630:=0
def tw17323118945986977499:=0
def tw1745745860517215767:=0
def tw8657566934897387521:=0
def tw11786896590155160039:=0
def tw7141548770869421431:=0
def tw8045918570878495913:=0
def tw17913913135964644504:=0
def tw7356515428921117755:=0
def tw5232000317860352891:=0
def tw3039310405774953463:=0
def tw3121525270414720377:=0
def tw11675734819893980118:=0
def tw3630390679393233125:=0
def tw3528388678541820580:=0
def tw14231268685636816029:=0
def tw17526458741692810568:=0
def tw13225388380780228544:=0
def tw11610019485117805788:=0
def tw9579148354822648719:=0
def tw6907441634357451921:=0
def tw792465244106152196:=0
def tw13037656059381957532:=0
def tw17844291602226211396:=0
def tw9206313940475203230:=0
def tw5883539729578237842:=0
def tw5447905901500542592:=0
def tw2312656524397849929:=0
def tw967772874846528607:=0
def tw13442898906126989215:=0
def tw18168585425325247018:=0
def tw16216873793419660541:=0
def tw7193692371273018046:=0
def tw16750523348841912336:=0
def tw5454226548792780341:=0
def tw2363297487677427669:=0
def tw2669692559251246501:=0
def tw8811431610519240679:=0
def tw11812796434667570030:=0
def tw3533700530081223492:=0
def tw4013044466551491053:=0
def tw5973835191825035268:=0
def tw1127421893461132414:=0
def tw16783519752574732266:=0
def tw4389229690493811060:=0
def tw11507909621595467207:=0
def tw1031936293124111284:=0
def tw5183944786554902171:=0
def tw793051258576628529:=0
def tw2744880682702986726:=0
def tw176587238328798233:=0
def tw5018690345120107060:=0
def tw5340457221642220054:=0
def tw1186346091588587129:=0
def tw11130532362135980388:=0
def tw6091550490898870744:=0
def tw1790113513812693309:=0
def tw11851710339201653027:=0
def tw5651074549961715434:=0
def tw6546102987886181687:=0
def tw17819686506421860380:=0
def tw14631016331809997178:=0
def tw8667980280137314925:=0
def tw17100951296399343220:=0
def tw572907005204688983:=0
def tw5407117685107063367:=0
def tw3541071641739109540:=0
def tw12110374946748249252:=0
def tw710797750678533754:=0
def tw7334290152165859348:=0
def tw1462226693450128745:=0
def tw14445617990800057209:=0
def tw10068222857040875298:=0
def tw10752048704988873221:=0
def tw12131024961473709730:=0
def tw6227588603144851011:=0
def tw15853499707895251949:=0
def tw17210123055913314875:=0
def tw2191249356969729452:=0
def tw14122029460577709373:=0
def tw754535031205202905:=0
def tw15113111650886773473:=0
def tw10625170356192357121:=0
def tw261502954481123374:=0
def tw11714196864082654732:=0
def tw5346841069745688323:=0
def tw8229343771452775552:=0
def tw17377440685710000693:=0
def tw13025961944088524072:=0
end PySem.W.Fast
section
open PySem PySem.W PyProof.Rows My List
theorem PySem.Challenge.cw_relayholds_k17_refusals_holds : PySem.Challenge.rw_relayholds_k17_refusals.Holds := by
 refine PySem.W.holds_law My.Ld λ said=>?_
 o_head (PySem.W.kHook My.kk My.ka (λ _=>by kernel_rfl))
 (case hw=>w_witness2)
 k_fill
 refine D.xF (l:=PySem.Challenge.rw_relayholds_k17_refusals) (p:=My.pg) (i:=35) (x:="_law_script") rfl rfl (λ w h Y=>PySem.W.kIn_of Y) ?F My.tW
 case F=>
  intro w mg fa h KX G hmg
  exact D.Ie (t:=My.tf 59) KX G hmg My.stat rfl rfl (by kernel_rfl) (by kernel_rfl) (by kernel_rfl) (by kernel_rfl)
end
end
