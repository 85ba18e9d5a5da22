import PyProof.Rows.All
import KE.KDictOf
import KE.KIsAll
import KE.KSortTup
import KE.KIntText
import KE.KFromBytes
import PyProof.StationsW
import PyProof.RulesAs
import PyProof.NsDelKeeps
import PyProof.IsiBase
import PyProof.InstStoreFacts
import PyProof.ExcClass3
import PyProof.ExcBaseAll.ValueError
import PyProof.ExcArgsOwn
import PySem.Challenge.RW_relayholds_k53_each_goal_changed
set_option genSizeOfSpec false
set_option genSizeOf false
set_option Elab.async false
set_option linter.all false
set_option maxRecDepth 1000000
set_option maxHeartbeats 4000000
set_option hygiene false
inductive EX1_2(A B:α->Prop):Prop
|mk(x:α)(_:A x)(_:B x)
inductive EX1_3(A B C:α->Prop):Prop
|mk(x:α)(_:A x)(_:B x)(_:C x)
inductive EX1_4(A B C D:α->Prop):Prop
|mk(x:α)(_:A x)(_:B x)(_:C x)(_:D x)
inductive EX1_5(A B C D E:α->Prop):Prop
|mk(x:α)(_:A x)(_:B x)(_:C x)(_:D x)(_:E x)
inductive EX1_6(A B C D E F:α->Prop):Prop
|mk(x:α)(_:A x)(_:B x)(_:C x)(_:D x)(_:E x)(_:F x)
inductive EX2_1(A:α->β->Prop):Prop
|mk(x:α)(y:β)(_:A x y)
inductive EX2_2(A B:α->β->Prop):Prop
|mk(x:α)(y:β)(_:A x y)(_:B x y)
inductive EX2_3(A B C:α->β->Prop):Prop
|mk(x:α)(y:β)(_:A x y)(_:B x y)(_:C x y)
inductive EX2_4(A B C D:α->β->Prop):Prop
|mk(x:α)(y:β)(_:A x y)(_:B x y)(_:C x y)(_:D x y)
inductive EX2_5(A B C D E:α->β->Prop):Prop
|mk(x:α)(y:β)(_:A x y)(_:B x y)(_:C x y)(_:D x y)(_:E x y)
inductive EX2_6(A B C D E F:α->β->Prop):Prop
|mk(x:α)(y:β)(_:A x y)(_:B x y)(_:C x y)(_:D x y)(_:E x y)(_:F x y)
inductive EX3_1(A:α->β->γ->Prop):Prop
|mk(x:α)(y:β)(z:γ)(_:A x y z)
inductive EX3_2(A B:α->β->γ->Prop):Prop
|mk(x:α)(y:β)(z:γ)(_:A x y z)(_:B x y z)
inductive EX3_3(A B C:α->β->γ->Prop):Prop
|mk(x:α)(y:β)(z:γ)(_:A x y z)(_:B x y z)(_:C x y z)
inductive EX3_4(A B C D:α->β->γ->Prop):Prop
|mk(x:α)(y:β)(z:γ)(_:A x y z)(_:B x y z)(_:C x y z)(_:D x y z)
inductive EX3_5(A B C D E:α->β->γ->Prop):Prop
|mk(x:α)(y:β)(z:γ)(_:A x y z)(_:B x y z)(_:C x y z)(_:D x y z)(_:E x y z)
inductive EX3_6(A B C D E F:α->β->γ->Prop):Prop
|mk(x:α)(y:β)(z:γ)(_:A x y z)(_:B x y z)(_:C x y z)(_:D x y z)(_:E x y z)(_:F x y z)
inductive EX4_1(A:α->β->γ->δ->Prop):Prop
|mk(x:α)(y:β)(z:γ)(u:δ)(_:A x y z u)
inductive EX4_3(A B C:α->β->γ->δ->Prop):Prop
|mk(x:α)(y:β)(z:γ)(u:δ)(_:A x y z u)(_:B x y z u)(_:C x y z u)
inductive EX4_4(A B C D:α->β->γ->δ->Prop):Prop
|mk(x:α)(y:β)(z:γ)(u:δ)(_:A x y z u)(_:B x y z u)(_:C x y z u)(_:D x y z u)
inductive EX4_5(A B C D E:α->β->γ->δ->Prop):Prop
|mk(x:α)(y:β)(z:γ)(u:δ)(_:A x y z u)(_:B x y z u)(_:C x y z u)(_:D x y z u)(_:E x y z u)
inductive EX4_6(A B C D E F:α->β->γ->δ->Prop):Prop
|mk(x:α)(y:β)(z:γ)(u:δ)(_:A x y z u)(_:B x y z u)(_:C x y z u)(_:D x y z u)(_:E x y z u)(_:F x y z u)
inductive EX4_7(A B C D E F G:α->β->γ->δ->Prop):Prop
|mk(x:α)(y:β)(z:γ)(u:δ)(_:A x y z u)(_:B x y z u)(_:C x y z u)(_:D x y z u)(_:E x y z u)(_:F x y z u)(_:G x y z u)
inductive EX5_1(A:α->β->γ->δ->ε->Prop):Prop
|mk(x:α)(y:β)(z:γ)(u:δ)(v:ε)(_:A x y z u v)
inductive EX5_4(A B C D:α->β->γ->δ->ε->Prop):Prop
|mk(x:α)(y:β)(z:γ)(u:δ)(v:ε)(_:A x y z u v)(_:B x y z u v)(_:C x y z u v)(_:D x y z u v)
inductive EX5_6(A B C D E F:α->β->γ->δ->ε->Prop):Prop
|mk(x:α)(y:β)(z:γ)(u:δ)(v:ε)(_:A x y z u v)(_:B x y z u v)(_:C x y z u v)(_:D x y z u v)(_:E x y z u v)(_:F x y z u v)
inductive EX9_3(A B C:α->β->γ->δ->ε->ζ->η->θ->ι->Prop):Prop
|mk(x:α)(y:β)(z:γ)(u:δ)(v:ε)(w:ζ)(a:η)(b:θ)(c:ι)(_:A x y z u v w a b c)(_:B x y z u v w a b c)(_:C x y z u v w a b c)
def exConj:Nat->Lean.TSyntax `term->Array (Lean.TSyntax `term)
 | 0,t=>#[t]
 | n+1,t=>match t with
  | `($a ∧ $b)=>#[a] ++ exConj n b
  | _=>#[t]
def exBs (xs:Lean.TSyntax ``Lean.explicitBinders):Lean.MacroM (Array (Lean.TSyntax ``Lean.binderIdent × Option (Lean.TSyntax `term))):=do
 let x:=xs.raw[0]
 if x.getKind == ``Lean.unbracketedExplicitBinders then
  let ids:=x[0].getArgs.map fun i=>(⟨i⟩:Lean.TSyntax ``Lean.binderIdent)
  let ty:Option (Lean.TSyntax `term):=if x[1].getNumArgs == 0 then none else some ⟨x[1][1]⟩
  return ids.map fun i=>(i,ty)
 else
  let mut r:=#[]
  for g in x.getArgs do
   for i in g[1].getArgs do r:=r.push (⟨i⟩,some ⟨g[3]⟩)
  return r
def idsIn:Nat->Lean.Syntax->List Lean.Name
 | 0,_=>[]
 | n+1,s=>match s with
  | .ident _ _ v _=>[v]
  | .node _ _ as=>as.toList.flatMap (idsIn n)
  | _=>[]
local macro_rules
 | `(∃ $xs:explicitBinders,$b)=>do
  let bs<-exBs xs
  let cs:=exConj 20 b
  if bs.size == 1 && cs.size == 1 then Lean.Macro.throwUnsupported
  if !("12 13 14 15 16 21 22 23 24 25 26 31 32 33 34 35 36 41 43 44 45 46 47 51 54 56 93".splitOn " ").contains s!"{bs.size}{cs.size}" then Lean.Macro.throwUnsupported
  let mut seen:List Lean.Name:=[]
  for (i,t) in bs do
   if let some t:=t then
    if (idsIn 40 t).any (fun x=>seen.contains x.getRoot) then Lean.Macro.throwUnsupported
   if i.raw[0].isIdent then seen:=i.raw[0].getId :: seen
  let mut args:Array (Lean.TSyntax `term):=#[]
  for c in cs do
   let mut t:=c
   for (i,ty) in bs.reverse do
    let nm:Lean.TSyntax `term:=if i.raw[0].isIdent then ⟨i.raw[0]⟩ else ⟨Lean.mkHole i.raw⟩
    match ty with
    | some ty=>if i.raw[0].isIdent then t<-`(fun ($(⟨i.raw[0]⟩):ident:$ty)=>$t) else t<-`(fun (_:$ty)=>$t)
    | none=>if i.raw[0].isIdent then t<-`(fun $(⟨i.raw[0]⟩):ident=>$t) else t<-`(fun _=>$t)
   args:=args.push t
  let f:=Lean.mkIdent (Lean.Name.mkSimple s!"EX{bs.size}_{cs.size}")
  `($f $args*)
local macro_rules
|`(@$n:num)=>`(.var $n)
|`(@($n:num))=>`(.cst (.int $n))
|`(@($t))=>`(some ($t))
local macro_rules
|`('o')=>`(by omega)
|`('s')=>`(by simp)
|`('k')=>`(by decide +kernel)
|`('d')=>`(by decide)
|`('l')=>`(by simp[lim];omega)
|`('m')=>`(by simp[lim])
|`(~~~$e)=>`(by simpa using $e)
|`($s⁻¹)=>`(($s).heap.objs.size)
local macro_rules
|`(%[$xs,*|$t])=>do
 if xs.elemsAndSeps.size%2==1 then Lean.Macro.throwUnsupported
 let mut r<-`(.cons $t .nil)
 for x in xs.getElems.reverse do r<-`(.cons $x $r)
 return r
def cvP:Nat->Lean.TSyntax `term->Lean.MacroM (Lean.TSyntax `rcasesPat)
|0,_=>Lean.Macro.throwUnsupported
|n+1,t=>match t with
 |`(⟨$xs,*⟩)=>do
  let ys<-xs.getElems.mapM (cvP n)
  let ys<-ys.mapM fun y=>`(Lean.Parser.Tactic.rcasesPatLo|$y:rcasesPat)
  `(rcasesPat|⟨$ys,*⟩)
 |`($i:ident)=>`(rcasesPat|$i:ident)
 |_=>`(rcasesPat|_)
local macro_rules
|`(tactic|let $p:term := $e)=>do
 let q<-cvP 9 p
 `(tactic|obtain $q:rcasesPat := $e)
local macro_rules
|`(tactic|ext $[$ps]*)=>do
 let mut xs:Array (Lean.TSyntax ``Lean.binderIdent):=#[]
 for p in ps do match p with
  |`(rintroPat|$i:ident)=>xs:=xs.push (<-`(Lean.binderIdent|$i:ident))
  |`(rintroPat|_)=>xs:=xs.push (<-`(Lean.binderIdent|_))
  |_=>Lean.Macro.throwUnsupported
 `(tactic|rename_i $xs*)
local macro_rules
|`(tactic|erw[$rs,*] $[$l]?)=>do
 let mut xs:Array (Lean.TSyntax ``Lean.Parser.Tactic.simpLemma):=#[]
 for r in rs.getElems do
  if r.raw[1].getId==`EWs||r.raw[1].getId==`EVs then
   for x in "bg bG dW ef dX gR dJ bC dg dY dM dN er cu bT eU bN cR cH ji bZ jh cz aX aH g8 g9 aT".splitOn " "++(if r.raw[1].getId==`EWs then "lN lO lP lQ".splitOn " " else []) do xs:=xs.push (<-`(Lean.Parser.Tactic.simpLemma|$(Lean.mkIdent x.toName):ident))
  else match r with
  |`(Lean.Parser.Tactic.rwRule|<-$t)=>xs:=xs.push (<-`(Lean.Parser.Tactic.simpLemma|<-$t))
  |`(Lean.Parser.Tactic.rwRule|$t:term)=>xs:=xs.push (<-`(Lean.Parser.Tactic.simpLemma|$t:term))
  |_=>Lean.Macro.throwUnsupported
 `(tactic|simp only[$[$xs],*] $[$l]?)
local macro_rules
|`(def $i:declId $s:optDeclSig $v:declVal)=>`(noncomputable def $i:declId $s:optDeclSig $v:declVal)
noncomputable section
abbrev ae:=PySem.W.Frag
def ME:=@Option.map_eq_some_iff
def MF:=@PySem.wpAny_bind
def MG:=@List.getElem?_eq_some_iff
def MH:=@PySem.Heap.get?_push_of_some
def MI:=@PySem.Heap.lt_size
def MJ:=@Bool.and_eq_true
def MK:=@Nat.le_refl
def ML:=@List.getElem?_append_left
def MN:=@Bool.and_eq_true_iff
def MO:=@Nat.lt_of_lt_of_le
def MP:=@PySem.wpAny_pure
def MQ:=@Nat.ne_of_lt
def MR:=@PySem.Heap.get?_push_size
def MS:=@List.size_toArray
def MT:=@List.lookup_cons
def MU:=@List.getElem?_append_right
def MV:=@PySem.wpAny_mono
def MW:=@if_pos
def MX:=@List.mem_cons
def MY:=@Bool.false_eq_true
def MZ:=@PySem.wpAny_loadPart_at
def M0:=@List.length_map
def M3:=@List.mem_cons_of_mem
def M7:=@List.getElem?_set_ne
def M8:=@if_neg
def M9:=@List.getElem?_eq_getElem
def Na:=@Nat.le_trans
def Nb:=@List.getElem?_set_self
def Nc:=@List.mem_append
def Nd:=@Option.some.inj
def Nf:=@if_true
def Ng:=@decide_eq_false
def Nh:=@List.length_cons
def Ni:=@List.map_cons
def Nj:=@List.mem_map
def Nk:=@List.mem_cons_self
def Nl:=@PySem.mem_of_lookup
def Nm:=@List.mem_of_getElem?
def Nn:=@Bool.not_eq_true
def Np:=@if_false
def Nq:=@List.mem_append_right
def Nr:=@PySem.W.looks_findIn
def Nt:=@PySem.wpAny_Call_Name_kw
def Nu:=@List.mem_singleton
def Nv:=@PySem.wpAny_field
def Ny:=@beq_iff_eq
def Nz:=@decide_eq_true_eq
def NB:=@Bool.not_eq_true'
def NC:=@PySem.wpAny_standAt
def ND:=@PySem.wpAny_truthy_bool
def NF:=@List.getElem_mem
def NG:=@PySem.wpAny_holding
def NH:=@decide_eq_true
def NI:=@beq_self_eq_true
def NJ:=@PyProof.Rows.callWith_type1
def NK:=@List.mem_range
def NL:=@List.append_nil
def NN:=@PySem.Heap.get?_update_other
def NO:=@PySem.wpAny_isSubtype_exc
def NP:=@PySem.W.callWith_K
def NQ:=@PySem.W.Looks.at
def NR:=@List.all_eq_true
def NS:=@Nat.ne_of_gt
def NT:=@PySem.codeAny_mono
def NU:=@Bool.not_true
def NV:=@PySem.Heap.size_push
def NW:=@Nat.le_succ
def NX:=@PySem.wpAny_callSpecial?_slot
def NY:=@List.mem_append_left
def NZ:=@List.map_append
def N1:=@beq_eq_false_iff_ne
def N2:=@PySem.W.mg_of
def N3:=@PySem.F.slot_tuple_iterator_next
def N4:=@Array.getElem?_eq_some_iff
def N5:=@PySem.Heap.get?_update_self
def N6:=@PySem.sizeLine_eq
def N7:=@Nat.zero_le
def N8:=@Option.isSome_iff_exists
def N9:=@List.length_append
def Oa:=@List.getElem?_take_of_lt
def Ob:=@Nat.lt_succ_self
def Oc:=@PySem.cellsFrom.eq_def
def Od:=@PySem.wpAny_getItem_str_slice
def Of:=@List.length_take
def Og:=@List.not_mem_nil
def Oh:=@List.length_set
def Oi:=@PySem.wpAny_setField_rec
def Oj:=@Option.map_some
def Ol:=@Nat.lt_irrefl
def Om:=@PySem.F.slot_enumerate_next
def Oo:=@List.contains_iff_mem
def Oq:=@Nat.lt_succ_of_lt
def Ot:=@of_decide_eq_true
def Ou:=@PySem.F.typeOf_object_class
def Ov:=@List.nodup_append
def Ow:=@Int.fdiv_eq_ediv_of_nonneg
def Ox:=@List.length_nil
def Oz:=@PySem.codeAny_call_builtin
def OA:=@PySem.F.excBase_ValueError
def OB:=@PySem.wpAny_call_entry
def OC:=@List.append_assoc
def OD:=@List.getElem?_eq_none_iff
def OE:=@congrArg
def OF:=@PySem.F.args_tuple_add_2
def OG:=@List.any_cons
def OH:=@List.mem_cons
def OI:=@PySem.wpAny_passesOwn
def OJ:=@List.nodup_cons
def OL:=@List.find?_cons
def OM:=@PySem.Obj.data_mapFields
def ON:=@PySem.F.entry_tuple_add
def OO:=@List.all_eq_true
def OP:=@decide_true
def OQ:=@List.getElem_map
def OR:=@Nat.le_of_lt
def OS:=@PySem.wpAny_pyIter_list
def OT:=@PySem.W.cellsFrom_some
def OU:=@PySem.F.slot_tuple_add
def OV:=@PySem.wpAny_pyIter_enum
def OW:=@Int.toNat_natCast
def OX:=@PySem.wpAny_newObj_type
def OY:=@Function.comp_def
def OZ:=@PySem.W.KeysLit.eq_def
def O0:=@PySem.plainObj_wpAny_Assign_Attribute
def O1:=@PyProof.Rows.slot_tuple_getitem
def O2:=@PySem.Obj.isFreed_of_fields
def O3:=@List.getElem?_eq_none
def O4:=@List.contains_cons
def O5:=@Prod.ext
def O6:=@or_false
def O7:=@List.mem_iff_getElem
def O8:=@List.mem_filter
def O9:=@PySem.post_val_or_str
def Pa:=@PySem.F.args_tuple_iterator_next_1
def Pb:=@Bool.or_eq_true
def Pc:=@List.set_append_left
def Pd:=@PySem.W.plainGet_of
def Pe:=@List.getElem?_map
def Pf:=@PySem.F.entry_tuple_iterator_next
def Ph:=@Bool.or_true
def Pj:=@List.nodup_append
def Pk:=@Nat.lt_or_ge
def Pn:=@List.set_set
def Po:=@decide_false
def Pp:=@List.filterMap_cons
def Pq:=@PySem.Calls.Name_function_global
def Pr:=@PySem.wpAny_pyIter_tuple
def Pu:=@Int.fmod_eq_emod_of_nonneg
def Pw:=@Bool.false_ne_true
def Px:=@PySem.wpAny_call
def Py:=@PySem.tupleKind_room_in1
def Pz:=@PySem.wpAny_letOwnedTupleGo_enum
def PC:=@PySem.wpAny_setField
def PD:=@PySem.Code.quiet_builtin
def PF:=@List.pairwise_cons
def PJ:=@Int.emod_lt_of_pos
def PK:=@Option.isSome_map
def PL:=@List.take_of_length_le
def PM:=@List.ext_getElem
def PN:=@PySem.Paired.length
def PR:=@PySem.noFill_tuple_add
def PU:=@Option.getD_none
def PV:=@Nat.le_of_not_lt
def PX:=@PySem.F.args_enumerate_next_1
def PY:=@Option.getD_some
def PZ:=@PySem.wpAny_pyNext_list_item
def P9:=@PyProof.noPylong_small
def Qa:=@PySem.concat_meets
def Qd:=@Nat.not_lt
def Qe:=@PySem.wpAny_rule
def Qf:=@PySem.F.entry_enumerate_next
def Qg:=@PySem.Calls.callWith_builtin
def Qh:=@PySem.F.plainAttrs_str
def Qi:=@PySem.wpAny_execs_nil
def Qj:=@List.getElem?_of_mem
def Qk:=@Int.emod_nonneg
def Qm:=@PySem.F.entry_bexc_ga
def Qo:=@List.getElem_inj
def Qp:=@Bool.not_false
def Qq:=@List.map_nil
def Qs:=@List.any_map
def Qt:=@Prod.mk.injEq
def Qu:=@PySem.seq_tuple_add
def Qv:=@Bool.false_or
def Qw:=@List.getElem_range
def Qx:=@not_or
def Qy:=@Nat.le_of_eq
def Qz:=@PySem.seqIndex_neg
def QA:=@Nat.lt_trans
def QB:=@List.getElem?_set
def QC:=@List.all_cons
def QD:=@List.take_add_one
namespace My
open PySem List
def top(i:Nat):Stmt:=PySem.Challenge.pw_relayholds_k53_each_goal_changed.main.body.getD i (.Pass ⟨0,0,0,0⟩)
noncomputable abbrev VS(x:Str)(t:Tok):Value:=.str x t
noncomputable abbrev VI(x:Int)(t:Tok):Value:=.int x t
noncomputable abbrev VR(x:Addr):Value:=.ref x
noncomputable abbrev VN:Value:=.none
noncomputable abbrev VT(x:String):Value:=.type x
noncomputable abbrev VB(x:String):Value:=.builtin x
noncomputable abbrev KE(P:Params)(x:Str)(t:Tok)(v:Value):DictEntry:=⟨PyData.keyHash P x,.str x t,v⟩
noncomputable abbrev hI(i j:Nat):Stmt:=match top i with
 |.ClassDef _ _ _ b _ _ _ _ _ _ _=>b.getD j (top i)
 |s=>s
noncomputable abbrev LJ(st:Stmt)(q:Str)(g:Addr)(i:List (Str×Addr))(d c a b:Value)(h:Option Addr)(code ct:Value)(e:Addr):Data:=match st with
 |.FunctionDef nm f body _ _ _ sc _ _ _=>.func ⟨nm,q,f,.stmts body,sc,g,i,d,c,a,b,h,code,ct,e⟩
 |_=>.plain
noncomputable abbrev hf(t:Tok):Value:=VS "/claim/cut.py" t
noncomputable abbrev hO(A:Addr)(n q:Str)(t a b r u v:Nat)(x y z:Value):Addr×Obj:=(A,⟨VT "code",none,.fields #[VS n t,VS q (t+1),hf (t+2),VI a 0,VI b 0,VI 0 0,VI 0 0,VI 3 0,VR r,.bool true,VI 181 0,VR (r+1),VN,x,y,z,VI u 0,VI a 0,hf v],#[]⟩)
noncomputable abbrev hC(A:Addr)(n q:Str)(t b a r u v:Nat):Addr×Obj:=hO A n q t b a r u v (VR (r+2)) (VR (r+3)) (VR (r+4))
noncomputable abbrev hc(A:Addr)(n q:Str)(t b a r u v:Nat):Addr×Obj:=hO A n q t b a r u v VN VN (VR (r+2))
noncomputable abbrev hF(A:Addr)(st:Stmt)(q:Str)(a:Value)(c:Addr):Addr×Obj:=(A,⟨VT "function",none,LJ st q 3 [] VN VN VN a none (VR c) VN 0,#[]⟩)
noncomputable abbrev qM:Value:=VS "law_relayholds_k53_each_goal_changed" 563
noncomputable abbrev uq:Value:=VS "relayholds.errors" 194
noncomputable abbrev vO:Value:=VS "relayholds.tables" 441
def kk:Params->ae:=λ P=>[(2,⟨VN,none,(.dict #[] 0),#[]⟩),
 (3,⟨(VT "dict"),none,(.dict #[KE P "__name__" 165 qM,KE P "__doc__" 166 VN,KE P "__package__" 167 VN,KE P "__loader__" 168 (VB "__main__.__loader__#opaque"),KE P "__spec__" 169 VN,KE P "__annotations__" 170 (VR 6),KE P "__builtins__" 171 (VR 4),KE P "__file__" 173 (VS "/claim/cut.py" 172),KE P "__cached__" 174 VN,KE P "_wall" 193 (VR 21),KE P "RelayError" 213 (VR 31),KE P "NoNet" 238 (VR 51),KE P "NoText" 254 (VR 63),KE P "NoTable" 279 (VR 82),KE P "NoNames" 295 (VR 94),KE P "NoName" 311 (VR 106),KE P "NoPiece" 327 (VR 118),KE P "NoPosition" 343 (VR 130),KE P "NoState" 359 (VR 142),KE P "NotResting" 375 (VR 154),KE P "Raced" 400 (VR 173),KE P "NotSure" 416 (VR 185),KE P "MOST_SIGNS" 420 (VI 8 419),KE P "MOST_KEYS" 422 (VI 2 421),KE P "MOST_LAMPS" 424 (VI 2 423),KE P "first_wrong_word" 434 (VR 194),KE P "is_word" 440 (VR 199),KE P "LEAST_STATES" 444 (VI 2 443),KE P "MOST_STATES" 446 (VI 4 445),KE P "Table" 522 (VR 256),KE P "count_letters" 529 (VR 267),KE P "check_table" 541 (VR 274),KE P "check_many" 550 (VR 281),KE P "check_each" 556 (VR 286),KE P "check_settled" 562 (VR 291),KE P "_law_pot" 573 (VR 298),KE P "_law_draw" 582 (VR 305),KE P "_law_word" 588 (VR 310),KE P "_law_words" 594 (VR 315),KE P "_law_rows" 600 (VR 320),KE P "_law_table" 606 (VR 325),KE P "_law_copy" 612 (VR 330),KE P "_law_is_word" 618 (VR 335),KE P "_law_misfit" 624 (VR 340),KE P "_law_fault" 630 (VR 345),KE P "_law_outcome" 641 (VR 352),KE P "_law_goes_so" 647 (VR 357),KE P "_law_changed_right" 660 (VR 364),KE P "law" 672 (VR 371)] 49),#[]⟩),
 (30,⟨(VT "dict"),none,(.dict #[KE P "__module__" 203 uq,KE P "__firstlineno__" 207 (VI 5 206),KE P "__static_attributes__" 208 (VR 29),KE P "__weakref__" 210 (VR 32),KE P "__doc__" 211 VN] 3),#[]⟩),
 (31,⟨(VT "type"),none,(.cls {name:="RelayError",bases:=[.type "ValueError"],mro:=[.ref 31,.type "ValueError",.type "Exception",.type "BaseException",.type "object"],ns:=30,qualname:="RelayError",subclasses:=[.ref 51,.ref 63,.ref 82,.ref 94,.ref 106,.ref 118,.ref 130,.ref 142,.ref 154,.ref 173,.ref 185]}),#[@(VR 22),none,@(VS "RelayError" 196),@(VS "RelayError" 204),@(VB "ValueError.__new__"),@(.bool true)]⟩),
 (50,⟨(VT "dict"),none,(.dict #[KE P "__module__" 221 uq,KE P "__firstlineno__" 225 (VI 7 224),KE P "__init__" 233 (VR 48),KE P "__static_attributes__" 235 (VR 49),KE P "__doc__" 236 VN] 2),#[]⟩),
 (51,⟨(VT "type"),none,(.cls {name:="NoNet",bases:=[.ref 31],mro:=[.ref 51,.ref 31,.type "ValueError",.type "Exception",.type "BaseException",.type "object"],ns:=50,qualname:="NoNet"}),#[@(VR 35),none,@(VS "NoNet" 214),@(VS "NoNet" 222),@(VB "ValueError.__new__"),@(.bool true)]⟩),
 (62,⟨(VT "dict"),none,(.dict #[KE P "__module__" 246 uq,KE P "__firstlineno__" 250 (VI 11 249),KE P "__static_attributes__" 251 (VR 61),KE P "__doc__" 252 VN] 2),#[]⟩),
 (63,⟨(VT "type"),none,(.cls {name:="NoText",bases:=[.ref 31],mro:=[.ref 63,.ref 31,.type "ValueError",.type "Exception",.type "BaseException",.type "object"],ns:=62,qualname:="NoText"}),#[@(VR 54),none,@(VS "NoText" 239),@(VS "NoText" 247),@(VB "ValueError.__new__"),@(.bool true)]⟩),
 hC 78 "__init__" "NoTable.__init__" 267 15 2 73 272 273,
 hF 79 (hI 5 0) "NoTable.__init__" uq 78,
 (81,⟨(VT "dict"),none,(.dict #[KE P "__module__" 262 uq,KE P "__firstlineno__" 266 (VI 13 265),KE P "__init__" 274 (VR 79),KE P "__static_attributes__" 276 (VR 80),KE P "__doc__" 277 VN] 2),#[]⟩),
 (82,⟨(VT "type"),none,(.cls {name:="NoTable",bases:=[.ref 31],mro:=[.ref 82,.ref 31,.type "ValueError",.type "Exception",.type "BaseException",.type "object"],ns:=81,qualname:="NoTable"}),#[@(VR 66),none,@(VS "NoTable" 255),@(VS "NoTable" 263),@(VB "ValueError.__new__"),@(.bool true)]⟩),
 (93,⟨(VT "dict"),none,(.dict #[KE P "__module__" 287 uq,KE P "__firstlineno__" 291 (VI 17 290),KE P "__static_attributes__" 292 (VR 92),KE P "__doc__" 293 VN] 2),#[]⟩),
 (94,⟨(VT "type"),none,(.cls {name:="NoNames",bases:=[.ref 31],mro:=[.ref 94,.ref 31,.type "ValueError",.type "Exception",.type "BaseException",.type "object"],ns:=93,qualname:="NoNames"}),#[@(VR 85),none,@(VS "NoNames" 280),@(VS "NoNames" 288),@(VB "ValueError.__new__"),@(.bool true)]⟩),
 (105,⟨(VT "dict"),none,(.dict #[KE P "__module__" 303 uq,KE P "__firstlineno__" 307 (VI 19 306),KE P "__static_attributes__" 308 (VR 104),KE P "__doc__" 309 VN] 2),#[]⟩),
 (106,⟨(VT "type"),none,(.cls {name:="NoName",bases:=[.ref 31],mro:=[.ref 106,.ref 31,.type "ValueError",.type "Exception",.type "BaseException",.type "object"],ns:=105,qualname:="NoName"}),#[@(VR 97),none,@(VS "NoName" 296),@(VS "NoName" 304),@(VB "ValueError.__new__"),@(.bool true)]⟩),
 (117,⟨(VT "dict"),none,(.dict #[KE P "__module__" 319 uq,KE P "__firstlineno__" 323 (VI 21 322),KE P "__static_attributes__" 324 (VR 116),KE P "__doc__" 325 VN] 2),#[]⟩),
 (118,⟨(VT "type"),none,(.cls {name:="NoPiece",bases:=[.ref 31],mro:=[.ref 118,.ref 31,.type "ValueError",.type "Exception",.type "BaseException",.type "object"],ns:=117,qualname:="NoPiece"}),#[@(VR 109),none,@(VS "NoPiece" 312),@(VS "NoPiece" 320),@(VB "ValueError.__new__"),@(.bool true)]⟩),
 (129,⟨(VT "dict"),none,(.dict #[KE P "__module__" 335 uq,KE P "__firstlineno__" 339 (VI 23 338),KE P "__static_attributes__" 340 (VR 128),KE P "__doc__" 341 VN] 2),#[]⟩),
 (130,⟨(VT "type"),none,(.cls {name:="NoPosition",bases:=[.ref 31],mro:=[.ref 130,.ref 31,.type "ValueError",.type "Exception",.type "BaseException",.type "object"],ns:=129,qualname:="NoPosition"}),#[@(VR 121),none,@(VS "NoPosition" 328),@(VS "NoPosition" 336),@(VB "ValueError.__new__"),@(.bool true)]⟩),
 (141,⟨(VT "dict"),none,(.dict #[KE P "__module__" 351 uq,KE P "__firstlineno__" 355 (VI 25 354),KE P "__static_attributes__" 356 (VR 140),KE P "__doc__" 357 VN] 2),#[]⟩),
 (142,⟨(VT "type"),none,(.cls {name:="NoState",bases:=[.ref 31],mro:=[.ref 142,.ref 31,.type "ValueError",.type "Exception",.type "BaseException",.type "object"],ns:=141,qualname:="NoState"}),#[@(VR 133),none,@(VS "NoState" 344),@(VS "NoState" 352),@(VB "ValueError.__new__"),@(.bool true)]⟩),
 (153,⟨(VT "dict"),none,(.dict #[KE P "__module__" 367 uq,KE P "__firstlineno__" 371 (VI 27 370),KE P "__static_attributes__" 372 (VR 152),KE P "__doc__" 373 VN] 2),#[]⟩),
 (154,⟨(VT "type"),none,(.cls {name:="NotResting",bases:=[.ref 31],mro:=[.ref 154,.ref 31,.type "ValueError",.type "Exception",.type "BaseException",.type "object"],ns:=153,qualname:="NotResting"}),#[@(VR 145),none,@(VS "NotResting" 360),@(VS "NotResting" 368),@(VB "ValueError.__new__"),@(.bool true)]⟩),
 (172,⟨(VT "dict"),none,(.dict #[KE P "__module__" 383 uq,KE P "__firstlineno__" 387 (VI 29 386),KE P "__init__" 395 (VR 170),KE P "__static_attributes__" 397 (VR 171),KE P "__doc__" 398 VN] 2),#[]⟩),
 (173,⟨(VT "type"),none,(.cls {name:="Raced",bases:=[.ref 31],mro:=[.ref 173,.ref 31,.type "ValueError",.type "Exception",.type "BaseException",.type "object"],ns:=172,qualname:="Raced"}),#[@(VR 157),none,@(VS "Raced" 376),@(VS "Raced" 384),@(VB "ValueError.__new__"),@(.bool true)]⟩),
 (184,⟨(VT "dict"),none,(.dict #[KE P "__module__" 408 uq,KE P "__firstlineno__" 412 (VI 33 411),KE P "__static_attributes__" 413 (VR 183),KE P "__doc__" 414 VN] 2),#[]⟩),
 (185,⟨(VT "type"),none,(.cls {name:="NotSure",bases:=[.ref 31],mro:=[.ref 185,.ref 31,.type "ValueError",.type "Exception",.type "BaseException",.type "object"],ns:=184,qualname:="NotSure"}),#[@(VR 176),none,@(VS "NotSure" 401),@(VS "NotSure" 409),@(VB "ValueError.__new__"),@(.bool true)]⟩),
 hC 193 "first_wrong_word" "first_wrong_word" 425 39 1 188 432 433,
 hF 194 (top 18) "first_wrong_word" (VS "relayholds.nets" 417) 193,
 hc 198 "is_word" "is_word" 435 46 1 195 438 439,
 hF 199 (top 19) "is_word" (VS "relayholds.nets" 417) 198,
 hc 210 "__init__" "Table.__init__" 459 53 6 207 462 463,
 hF 211 (hI 23 0) "Table.__init__" vO 210,
 hC 224 "states" "Table.states" 472 64 1 219 476 477,
 hF 225 (hI 23 2) "Table.states" vO 224,
 hC 231 "lamps" "Table.lamps" 479 67 1 226 483 484,
 hF 232 (hI 23 3) "Table.lamps" vO 231,
 hC 245 "goes" "Table.goes" 493 73 3 240 499 500,
 hF 246 (hI 23 5) "Table.goes" vO 245,
 hC 252 "lights" "Table.lights" 502 76 2 247 507 508,
 hF 253 (hI 23 6) "Table.lights" vO 252,
 (255,⟨(VT "dict"),none,(.dict #[KE P "__module__" 454 vO,KE P "__firstlineno__" 458 (VI 51 457),KE P "__init__" 464 (VR 211),KE P "key_words" 471 (VR 218),KE P "states" 478 (VR 225),KE P "lamps" 485 (VR 232),KE P "letters" 492 (VR 239),KE P "goes" 501 (VR 246),KE P "lights" 509 (VR 253),KE P "__static_attributes__" 515 (VR 254),KE P "__dict__" 517 (VR 257),KE P "__weakref__" 519 (VR 258),KE P "__doc__" 520 VN] 4),#[]⟩),
 (256,⟨(VT "type"),none,(.cls {name:="Table",bases:=[.type "object"],mro:=[.ref 256,.type "object"],ns:=255,qualname:="Table"}),#[none,none,@(VS "Table" 447),@(VS "Table" 455),@(VB "object.__new__"),@(.bool true)]⟩),
 hC 266 "count_letters" "count_letters" 523 78 1 261 527 528,
 hF 267 (top 24) "count_letters" vO 266,
 hC 273 "check_table" "check_table" 530 80 5 268 539 540,
 hF 274 (top 25) "check_table" vO 273,
 hC 280 "check_many" "check_many" 542 88 3 275 548 549,
 hF 281 (top 26) "check_many" vO 280,
 hc 285 "check_each" "check_each" 551 95 5 282 554 555,
 hF 286 (top 27) "check_each" vO 285,
 hc 290 "check_settled" "check_settled" 557 101 1 287 560 561,
 hF 291 (top 28) "check_settled" vO 290,
 hC 297 "_law_pot" "_law_pot" 565 106 2 292 571 572,
 hF 298 (top 30) "_law_pot" qM 297,
 hC 304 "_law_draw" "_law_draw" 574 109 2 299 580 581,
 hF 305 (top 31) "_law_draw" qM 304,
 hc 309 "_law_word" "_law_word" 583 115 2 306 586 587,
 hF 310 (top 32) "_law_word" qM 309,
 hc 314 "_law_words" "_law_words" 589 123 3 311 592 593,
 hF 315 (top 33) "_law_words" qM 314,
 hc 319 "_law_rows" "_law_rows" 595 125 3 316 598 599,
 hF 320 (top 34) "_law_rows" qM 319,
 hc 324 "_law_table" "_law_table" 601 134 1 321 604 605,
 hF 325 (top 35) "_law_table" qM 324,
 hc 329 "_law_copy" "_law_copy" 607 141 1 326 610 611,
 hF 330 (top 36) "_law_copy" qM 329,
 hc 334 "_law_is_word" "_law_is_word" 613 143 1 331 616 617,
 hF 335 (top 37) "_law_is_word" qM 334,
 hc 339 "_law_misfit" "_law_misfit" 619 145 4 336 622 623,
 hF 340 (top 38) "_law_misfit" qM 339,
 hc 344 "_law_fault" "_law_fault" 625 150 1 341 628 629,
 hF 345 (top 39) "_law_fault" qM 344,
 hC 351 "_law_outcome" "_law_outcome" 631 167 1 346 639 640,
 hF 352 (top 40) "_law_outcome" qM 351,
 hc 356 "_law_goes_so" "_law_goes_so" 642 178 1 353 645 646,
 hF 357 (top 41) "_law_goes_so" qM 356,
 hC 363 "_law_changed_right" "_law_changed_right" 648 184 4 358 658 659,
 hF 364 (top 42) "_law_changed_right" qM 363,
 hC 370 "law" "law" 661 192 1 365 670 671,
 hF 371 (top 43) "law" qM 370]
def ka:List Addr:=[2,3,30,31,50,51,62,63,78,79,81,82,93,94,105,106,117,118,129,130,141,142,153,154,172,173,184,185,193,194,198,199,210,211,224,225,231,232,245,246,252,253,255,256,266,267,273,274,280,281,285,286,290,291,297,298,304,305,309,310,314,315,319,320,324,325,329,330,334,335,339,340,344,345,351,352,356,357,363,364,370,371]
def qv:Program:=PySem.W.view PySem.Challenge.pw_relayholds_k53_each_goal_changed [0,2,3,4,5,6,7,8,9,10,11,12,13,15,16,17,18,19,21,22,23,24,25,26,27,28,30,31,32,33,34,35,36,37,38,39,40,41,42,43]
theorem LL{m q k j i h g f e d c:Type _}{X:Option m}{A:m->k×j×i×h×g×f×e×d×c}{B:m->q}{a:k×j×i×h×g×f×e×d×c}{b:q}(r:X.map (λ s=>(A s).1)=some a.1)(p:X.map (λ s=>((A s).2.1,(A s).2.2.1))=some (a.2.1,a.2.2.1))(l:X.map (λ s=>((A s).2.2.2.1,(A s).2.2.2.2.2.2.1,(A s).2.2.2.2.2.2.2.1,(A s).2.2.2.2.2.2.2.2))=some (a.2.2.2.1,a.2.2.2.2.2.2.1,a.2.2.2.2.2.2.2.1,a.2.2.2.2.2.2.2.2))(o:X.map (λ s=>((A s).2.2.2.2.1,(A s).2.2.2.2.2.1))=some (a.2.2.2.2.1,a.2.2.2.2.2.1))(n:X.map B=some b):X.map (λ s=>(A s,B s))=some (a,b):=by
  cases X with
  |none=>cases n
  |some x=>
    erw[Oj,Option.some.injEq,Qt] at r p l o n ⊢
    exact⟨(O5 r (O5 p.1 (O5 p.2 (O5 l.1 (O5 o.1 (O5 o.2 (O5 l.2.1 (O5 l.2.2.1 l.2.2.2)))))))),n⟩
noncomputable abbrev FN(w:PySem.World):=PySem.W.openEnds PySem.treeTable (PySem.W.OpenLaw.row PySem.Challenge.rw_relayholds_k53_each_goal_changed).prog w 7622
noncomputable abbrev zl:=PySem.W.openSeen qv [] (PySem.importedModules (PySem.W.OpenLaw.row PySem.Challenge.rw_relayholds_k53_each_goal_changed).prog.main.body) (λ s=>PySem.W.xlAt qv [] s&&PySem.W.recOk (PySem.W.RowW.records (PySem.W.OpenRow.toRowW (PySem.W.OpenLaw.row PySem.Challenge.rw_relayholds_k53_each_goal_changed))) s) true
theorem LM(w:PySem.World):(FN w).map (λ s=>(zl s).1)=some (PyProof.Rows.expectedOf qv):=by kernel_rfl
theorem LN(w:PySem.World):(FN w).map (λ s=>((zl s).2.1,(zl s).2.2.1))=some (PySem.bltViewBooted,true):=by kernel_rfl
theorem FO(w:PySem.World):(FN w).map (λ s=>((zl s).2.2.2.1,(zl s).2.2.2.2.2.2.1,(zl s).2.2.2.2.2.2.2.1,(zl s).2.2.2.2.2.2.2.2))=some (true,PyProof.Rows.plainGoodD qv [],PySem.W.wideGood qv,PySem.W.clsGoodW qv []):=by kernel_rfl
theorem LO(w:PySem.World):(FN w).map (λ s=>((zl s).2.2.2.2.1,(zl s).2.2.2.2.2.1))=some (PySem.pinGoodD (PyProof.Rows.drecsOf qv),PyProof.Rows.plainGoodE qv (PySem.W.looseW qv [])):=by kernel_rfl
theorem LP(w:PySem.World):(FN w).map (PySem.W.kHook kk ka (λ _=>by kernel_rfl)).obs=some ((PySem.W.kHook kk ka (λ _=>by kernel_rfl)).val w):=by kernel_rfl
theorem hdl:PySem.W.LeftO (PySem.W.OpenLaw.row PySem.Challenge.rw_relayholds_k53_each_goal_changed).prog qv [] (λ s=>PySem.W.xlAt qv [] s&&PySem.W.recOk (PySem.W.RowW.records (PySem.W.OpenRow.toRowW (PySem.W.OpenLaw.row PySem.Challenge.rw_relayholds_k53_each_goal_changed))) s) (PySem.W.kHook kk ka (λ _=>by kernel_rfl)).obs (PySem.W.kHook kk ka (λ _=>by kernel_rfl)).val 7622:=λ w=>LL (A:=zl) (LM w) (LN w) (FO w) (LO w) (LP w)
theorem LQ:PySem.W.OpenLaw.wellSaid PySem.Challenge.rw_relayholds_k53_each_goal_changed=true:=by kernel_rfl
end My
section
set_option hygiene false
set_option genSizeOfSpec false
set_option genSizeOf false
inductive FP{α0:Sort _}(P0 P1:α0->Prop):Prop | mk (x0:α0) (h0:P0 x0) (h1:P1 x0):FP P0 P1
inductive FQ{α0:Sort _}(P0 P1 P2:α0->Prop):Prop | mk (x0:α0) (h0:P0 x0) (h1:P1 x0) (h2:P2 x0):FQ P0 P1 P2
inductive FT{α0:Sort _}(P0 P1 P2 P3:α0->Prop):Prop | mk (x0:α0) (h0:P0 x0) (h1:P1 x0) (h2:P2 x0) (h3:P3 x0):FT P0 P1 P2 P3
inductive FU{α0:Sort _}(P0 P1 P2 P3 P4:α0->Prop):Prop | mk (x0:α0) (h0:P0 x0) (h1:P1 x0) (h2:P2 x0) (h3:P3 x0) (h4:P4 x0):FU P0 P1 P2 P3 P4
inductive FW{α0:Sort _}(P0 P1 P2 P3 P4 P5:α0->Prop):Prop | mk (x0:α0) (h0:P0 x0) (h1:P1 x0) (h2:P2 x0) (h3:P3 x0) (h4:P4 x0) (h5:P5 x0):FW P0 P1 P2 P3 P4 P5
inductive FY{α0 α1:Sort _}(P0:α0->α1->Prop):Prop | mk (x0:α0) (x1:α1) (h0:P0 x0 x1):FY P0
inductive F6{α0 α1:Sort _}(P0 P1:α0->α1->Prop):Prop | mk (x0:α0) (x1:α1) (h0:P0 x0 x1) (h1:P1 x0 x1):F6 P0 P1
inductive F7{α0 α1:Sort _}(P0 P1 P2:α0->α1->Prop):Prop | mk (x0:α0) (x1:α1) (h0:P0 x0 x1) (h1:P1 x0 x1) (h2:P2 x0 x1):F7 P0 P1 P2
inductive F8{α0 α1:Sort _}(P0 P1 P2 P3:α0->α1->Prop):Prop | mk (x0:α0) (x1:α1) (h0:P0 x0 x1) (h1:P1 x0 x1) (h2:P2 x0 x1) (h3:P3 x0 x1):F8 P0 P1 P2 P3
inductive F9{α0 α1:Sort _}(P0 P1 P2 P3 P4:α0->α1->Prop):Prop | mk (x0:α0) (x1:α1) (h0:P0 x0 x1) (h1:P1 x0 x1) (h2:P2 x0 x1) (h3:P3 x0 x1) (h4:P4 x0 x1):F9 P0 P1 P2 P3 P4
inductive Ga{α0 α1:Sort _}(P0 P1 P2 P3 P4 P5:α0->α1->Prop):Prop | mk (x0:α0) (x1:α1) (h0:P0 x0 x1) (h1:P1 x0 x1) (h2:P2 x0 x1) (h3:P3 x0 x1) (h4:P4 x0 x1) (h5:P5 x0 x1):Ga P0 P1 P2 P3 P4 P5
inductive Gb{α0 α1:Sort _}(P0 P1 P2 P3 P4 P5 P6 P7:α0->α1->Prop):Prop | mk (x0:α0) (x1:α1) (h0:P0 x0 x1) (h1:P1 x0 x1) (h2:P2 x0 x1) (h3:P3 x0 x1) (h4:P4 x0 x1) (h5:P5 x0 x1) (h6:P6 x0 x1) (h7:P7 x0 x1):Gb P0 P1 P2 P3 P4 P5 P6 P7
inductive Gd{α0 α1 α2:Sort _}(P0:α0->α1->α2->Prop):Prop | mk (x0:α0) (x1:α1) (x2:α2) (h0:P0 x0 x1 x2):Gd P0
inductive Ge{α0 α1 α2:Sort _}(P0 P1:α0->α1->α2->Prop):Prop | mk (x0:α0) (x1:α1) (x2:α2) (h0:P0 x0 x1 x2) (h1:P1 x0 x1 x2):Ge P0 P1
inductive Gf{α0 α1 α2:Sort _}(P0 P1 P2:α0->α1->α2->Prop):Prop | mk (x0:α0) (x1:α1) (x2:α2) (h0:P0 x0 x1 x2) (h1:P1 x0 x1 x2) (h2:P2 x0 x1 x2):Gf P0 P1 P2
inductive Gg{α0 α1 α2:Sort _}(P0 P1 P2 P3:α0->α1->α2->Prop):Prop | mk (x0:α0) (x1:α1) (x2:α2) (h0:P0 x0 x1 x2) (h1:P1 x0 x1 x2) (h2:P2 x0 x1 x2) (h3:P3 x0 x1 x2):Gg P0 P1 P2 P3
inductive Gh{α0 α1 α2:Sort _}(P0 P1 P2 P3 P4:α0->α1->α2->Prop):Prop | mk (x0:α0) (x1:α1) (x2:α2) (h0:P0 x0 x1 x2) (h1:P1 x0 x1 x2) (h2:P2 x0 x1 x2) (h3:P3 x0 x1 x2) (h4:P4 x0 x1 x2):Gh P0 P1 P2 P3 P4
inductive Gi{α0 α1 α2:Sort _}(P0 P1 P2 P3 P4 P5:α0->α1->α2->Prop):Prop | mk (x0:α0) (x1:α1) (x2:α2) (h0:P0 x0 x1 x2) (h1:P1 x0 x1 x2) (h2:P2 x0 x1 x2) (h3:P3 x0 x1 x2) (h4:P4 x0 x1 x2) (h5:P5 x0 x1 x2):Gi P0 P1 P2 P3 P4 P5
inductive Gj{α0 α1 α2:Sort _}(P0 P1 P2 P3 P4 P5 P6:α0->α1->α2->Prop):Prop | mk (x0:α0) (x1:α1) (x2:α2) (h0:P0 x0 x1 x2) (h1:P1 x0 x1 x2) (h2:P2 x0 x1 x2) (h3:P3 x0 x1 x2) (h4:P4 x0 x1 x2) (h5:P5 x0 x1 x2) (h6:P6 x0 x1 x2):Gj P0 P1 P2 P3 P4 P5 P6
inductive Gk{α0 α1 α2 α3:Sort _}(P0:α0->α1->α2->α3->Prop):Prop | mk (x0:α0) (x1:α1) (x2:α2) (x3:α3) (h0:P0 x0 x1 x2 x3):Gk P0
inductive Gm{α0 α1 α2 α3:Sort _}(P0 P1:α0->α1->α2->α3->Prop):Prop | mk (x0:α0) (x1:α1) (x2:α2) (x3:α3) (h0:P0 x0 x1 x2 x3) (h1:P1 x0 x1 x2 x3):Gm P0 P1
inductive Gn{α0 α1 α2 α3:Sort _}(P0 P1 P2:α0->α1->α2->α3->Prop):Prop | mk (x0:α0) (x1:α1) (x2:α2) (x3:α3) (h0:P0 x0 x1 x2 x3) (h1:P1 x0 x1 x2 x3) (h2:P2 x0 x1 x2 x3):Gn P0 P1 P2
inductive Gp{α0 α1 α2 α3:Sort _}(P0 P1 P2 P3:α0->α1->α2->α3->Prop):Prop | mk (x0:α0) (x1:α1) (x2:α2) (x3:α3) (h0:P0 x0 x1 x2 x3) (h1:P1 x0 x1 x2 x3) (h2:P2 x0 x1 x2 x3) (h3:P3 x0 x1 x2 x3):Gp P0 P1 P2 P3
inductive Gq{α0 α1 α2 α3:Sort _}(P0 P1 P2 P3 P4:α0->α1->α2->α3->Prop):Prop | mk (x0:α0) (x1:α1) (x2:α2) (x3:α3) (h0:P0 x0 x1 x2 x3) (h1:P1 x0 x1 x2 x3) (h2:P2 x0 x1 x2 x3) (h3:P3 x0 x1 x2 x3) (h4:P4 x0 x1 x2 x3):Gq P0 P1 P2 P3 P4
inductive Gr{α0 α1 α2 α3:Sort _}(P0 P1 P2 P3 P4 P5:α0->α1->α2->α3->Prop):Prop | mk (x0:α0) (x1:α1) (x2:α2) (x3:α3) (h0:P0 x0 x1 x2 x3) (h1:P1 x0 x1 x2 x3) (h2:P2 x0 x1 x2 x3) (h3:P3 x0 x1 x2 x3) (h4:P4 x0 x1 x2 x3) (h5:P5 x0 x1 x2 x3):Gr P0 P1 P2 P3 P4 P5
inductive Gs{α0 α1 α2 α3:Sort _}(P0 P1 P2 P3 P4 P5 P6:α0->α1->α2->α3->Prop):Prop | mk (x0:α0) (x1:α1) (x2:α2) (x3:α3) (h0:P0 x0 x1 x2 x3) (h1:P1 x0 x1 x2 x3) (h2:P2 x0 x1 x2 x3) (h3:P3 x0 x1 x2 x3) (h4:P4 x0 x1 x2 x3) (h5:P5 x0 x1 x2 x3) (h6:P6 x0 x1 x2 x3):Gs P0 P1 P2 P3 P4 P5 P6
inductive Gu{α0 α1 α2 α3:Sort _}(P0 P1 P2 P3 P4 P5 P6 P7:α0->α1->α2->α3->Prop):Prop | mk (x0:α0) (x1:α1) (x2:α2) (x3:α3) (h0:P0 x0 x1 x2 x3) (h1:P1 x0 x1 x2 x3) (h2:P2 x0 x1 x2 x3) (h3:P3 x0 x1 x2 x3) (h4:P4 x0 x1 x2 x3) (h5:P5 x0 x1 x2 x3) (h6:P6 x0 x1 x2 x3) (h7:P7 x0 x1 x2 x3):Gu P0 P1 P2 P3 P4 P5 P6 P7
inductive Gv{α0 α1 α2 α3 α4:Sort _}(P0:α0->α1->α2->α3->α4->Prop):Prop | mk (x0:α0) (x1:α1) (x2:α2) (x3:α3) (x4:α4) (h0:P0 x0 x1 x2 x3 x4):Gv P0
inductive Gw{α0 α1 α2 α3 α4:Sort _}(P0 P1 P2 P3:α0->α1->α2->α3->α4->Prop):Prop | mk (x0:α0) (x1:α1) (x2:α2) (x3:α3) (x4:α4) (h0:P0 x0 x1 x2 x3 x4) (h1:P1 x0 x1 x2 x3 x4) (h2:P2 x0 x1 x2 x3 x4) (h3:P3 x0 x1 x2 x3 x4):Gw P0 P1 P2 P3
inductive Gx{α0 α1 α2 α3 α4:Sort _}(P0 P1 P2 P3 P4 P5:α0->α1->α2->α3->α4->Prop):Prop | mk (x0:α0) (x1:α1) (x2:α2) (x3:α3) (x4:α4) (h0:P0 x0 x1 x2 x3 x4) (h1:P1 x0 x1 x2 x3 x4) (h2:P2 x0 x1 x2 x3 x4) (h3:P3 x0 x1 x2 x3 x4) (h4:P4 x0 x1 x2 x3 x4) (h5:P5 x0 x1 x2 x3 x4):Gx P0 P1 P2 P3 P4 P5
inductive Gy{α0 α1 α2 α3 α4:Sort _}(P0 P1 P2 P3 P4 P5 P6 P7 P8:α0->α1->α2->α3->α4->Prop):Prop | mk (x0:α0) (x1:α1) (x2:α2) (x3:α3) (x4:α4) (h0:P0 x0 x1 x2 x3 x4) (h1:P1 x0 x1 x2 x3 x4) (h2:P2 x0 x1 x2 x3 x4) (h3:P3 x0 x1 x2 x3 x4) (h4:P4 x0 x1 x2 x3 x4) (h5:P5 x0 x1 x2 x3 x4) (h6:P6 x0 x1 x2 x3 x4) (h7:P7 x0 x1 x2 x3 x4) (h8:P8 x0 x1 x2 x3 x4):Gy P0 P1 P2 P3 P4 P5 P6 P7 P8
inductive Gz{α0 α1 α2 α3 α4 α5:Sort _}(P0 P1 P2 P3 P4 P5:α0->α1->α2->α3->α4->α5->Prop):Prop | mk (x0:α0) (x1:α1) (x2:α2) (x3:α3) (x4:α4) (x5:α5) (h0:P0 x0 x1 x2 x3 x4 x5) (h1:P1 x0 x1 x2 x3 x4 x5) (h2:P2 x0 x1 x2 x3 x4 x5) (h3:P3 x0 x1 x2 x3 x4 x5) (h4:P4 x0 x1 x2 x3 x4 x5) (h5:P5 x0 x1 x2 x3 x4 x5):Gz P0 P1 P2 P3 P4 P5
inductive GA{α0 α1 α2 α3 α4 α5 α6:Sort _}(P0 P1 P2:α0->α1->α2->α3->α4->α5->α6->Prop):Prop | mk (x0:α0) (x1:α1) (x2:α2) (x3:α3) (x4:α4) (x5:α5) (x6:α6) (h0:P0 x0 x1 x2 x3 x4 x5 x6) (h1:P1 x0 x1 x2 x3 x4 x5 x6) (h2:P2 x0 x1 x2 x3 x4 x5 x6):GA P0 P1 P2
inductive GB{α0 α1 α2 α3 α4 α5 α6:Sort _}(P0 P1 P2 P3 P4 P5 P6 P7 P8:α0->α1->α2->α3->α4->α5->α6->Prop):Prop | mk (x0:α0) (x1:α1) (x2:α2) (x3:α3) (x4:α4) (x5:α5) (x6:α6) (h0:P0 x0 x1 x2 x3 x4 x5 x6) (h1:P1 x0 x1 x2 x3 x4 x5 x6) (h2:P2 x0 x1 x2 x3 x4 x5 x6) (h3:P3 x0 x1 x2 x3 x4 x5 x6) (h4:P4 x0 x1 x2 x3 x4 x5 x6) (h5:P5 x0 x1 x2 x3 x4 x5 x6) (h6:P6 x0 x1 x2 x3 x4 x5 x6) (h7:P7 x0 x1 x2 x3 x4 x5 x6) (h8:P8 x0 x1 x2 x3 x4 x5 x6):GB P0 P1 P2 P3 P4 P5 P6 P7 P8
inductive GC{α0 α1 α2 α3 α4 α5 α6 α7:Sort _}(P0 P1 P2 P3 P4 P5 P6 P7 P8:α0->α1->α2->α3->α4->α5->α6->α7->Prop):Prop | mk (x0:α0) (x1:α1) (x2:α2) (x3:α3) (x4:α4) (x5:α5) (x6:α6) (x7:α7) (h0:P0 x0 x1 x2 x3 x4 x5 x6 x7) (h1:P1 x0 x1 x2 x3 x4 x5 x6 x7) (h2:P2 x0 x1 x2 x3 x4 x5 x6 x7) (h3:P3 x0 x1 x2 x3 x4 x5 x6 x7) (h4:P4 x0 x1 x2 x3 x4 x5 x6 x7) (h5:P5 x0 x1 x2 x3 x4 x5 x6 x7) (h6:P6 x0 x1 x2 x3 x4 x5 x6 x7) (h7:P7 x0 x1 x2 x3 x4 x5 x6 x7) (h8:P8 x0 x1 x2 x3 x4 x5 x6 x7):GC P0 P1 P2 P3 P4 P5 P6 P7 P8
inductive GD{α0 α1 α2 α3 α4 α5 α6 α7 α8:Sort _}(P0 P1 P2:α0->α1->α2->α3->α4->α5->α6->α7->α8->Prop):Prop | mk (x0:α0) (x1:α1) (x2:α2) (x3:α3) (x4:α4) (x5:α5) (x6:α6) (x7:α7) (x8:α8) (h0:P0 x0 x1 x2 x3 x4 x5 x6 x7 x8) (h1:P1 x0 x1 x2 x3 x4 x5 x6 x7 x8) (h2:P2 x0 x1 x2 x3 x4 x5 x6 x7 x8):GD P0 P1 P2
inductive GF{α0 α1 α2 α3 α4 α5 α6 α7 α8:Sort _}(P0 P1 P2 P3 P4 P5 P6 P7:α0->α1->α2->α3->α4->α5->α6->α7->α8->Prop):Prop | mk (x0:α0) (x1:α1) (x2:α2) (x3:α3) (x4:α4) (x5:α5) (x6:α6) (x7:α7) (x8:α8) (h0:P0 x0 x1 x2 x3 x4 x5 x6 x7 x8) (h1:P1 x0 x1 x2 x3 x4 x5 x6 x7 x8) (h2:P2 x0 x1 x2 x3 x4 x5 x6 x7 x8) (h3:P3 x0 x1 x2 x3 x4 x5 x6 x7 x8) (h4:P4 x0 x1 x2 x3 x4 x5 x6 x7 x8) (h5:P5 x0 x1 x2 x3 x4 x5 x6 x7 x8) (h6:P6 x0 x1 x2 x3 x4 x5 x6 x7 x8) (h7:P7 x0 x1 x2 x3 x4 x5 x6 x7 x8):GF P0 P1 P2 P3 P4 P5 P6 P7
end
section
namespace L2
open PySem PySem.Spec PyProof.Rows List
abbrev Key:=Sum Int Str
def jT:Key->Value->Bool
 |.inl k,v=>Value.isInt k v
 |.inr x,v=>Value.isStrOf x v
def JJ(w:World):Key->Int
 |.inl k=>hashInt k
 |.inr x=>hashStr w x
theorem bq:∀{k:Key} {v:Value},jT k v=true->(∃i t,k=Sum.inl i/\v=Value.int i t)\/(∃x t,k=Sum.inr x/\v=Value.str x t)
 |.inl i,v,h=>by
  let⟨t,e⟩:=Value.isInt_shape (k:=i) (v:=v) h;exact .inl ⟨i,t,rfl,e⟩
 |.inr x,v,h=>by
  let⟨t,e⟩:=Value.isStrOf_shape (x:=x) (v:=v) h;exact .inr ⟨x,t,rfl,e⟩
theorem lU(i:Int)(t:Tok):jT (.inl i) (.int i t)=true:=by simp[jT,Value.isInt]
theorem lV(x:Str)(t:Tok):jT (.inr x) (.str x t)=true:=by simp[jT,Value.isStrOf]
theorem CS(a b:Int):decide ((Sum.inl a:Key)=Sum.inl b)=(a==b):=by
 by_cases e:a=b
 .subst e;simp
 .have h:¬(Sum.inl a:Key)=Sum.inl b:=λ q=>e (Sum.inl.inj q);rw[Ng h];exact(N1.mpr e).symm
theorem CT(a b:Str):decide ((Sum.inr a:Key)=Sum.inr b)=decide (a=b):=by
 by_cases e:a=b
 .subst e;simp
 .have h:¬(Sum.inr a:Key)=Sum.inr b:=λ q=>e (Sum.inr.inj q);rw[Ng h,Ng e]
theorem CU(a:Int)(b:Str):decide ((Sum.inl a:Key)=Sum.inr b)=false:=Ng (λ q=>nomatch q)
theorem CV(a:Str)(b:Int):decide ((Sum.inr a:Key)=Sum.inl b)=false:=Ng (λ q=>nomatch q)
def aV(prog:Program)(w:World):PySem.KeyKind prog w Key where
 is:=jT
 hash:=JJ w
 inj:=λ v a b ha f=>by
  rcases bq ha with⟨i,t,rfl,rfl⟩ | ⟨x,t,rfl,rfl⟩
  .rcases bq f with⟨j,u,rfl,e⟩ | ⟨y,u,rfl,e⟩
   .injection e with c _;rw[c]
   .exact nomatch e
  .rcases bq f with⟨j,u,rfl,e⟩ | ⟨y,u,rfl,e⟩
   .exact nomatch e
   .injection e with c _;rw[c]
 byValue:=λ k v h=>by
  rcases bq h with⟨i,t,rfl,rfl⟩ | ⟨x,t,rfl,rfl⟩<;>rfl
 pyHash:=λ d h=>by
  rcases bq d with⟨i,t,rfl,rfl⟩ | ⟨x,t,rfl,rfl⟩
  .exact wpAny_pyHash_int h
  .exact wpAny_pyHash_str h
 eqBool:=λ g d h=>by
  rcases bq g with⟨i,t,rfl,rfl⟩ | ⟨x,t,rfl,rfl⟩
  .rcases bq d with⟨j,u,rfl,rfl⟩ | ⟨y,u,rfl,rfl⟩
   .rw[CS] at h;exact wpAny_eqBool_int h
   .rw[CU] at h;exact SeqAt.EqAt.int_str i t y u _ _ _ _ h
  .rcases bq d with⟨j,u,rfl,rfl⟩ | ⟨y,u,rfl,rfl⟩
   .rw[CV] at h;exact SeqAt.EqAt.str_int x t j u _ _ _ _ h
   .rw[CT] at h;exact wpAny_eqBool_str h
 «strs»:=λ k x t v h=>by
  rcases bq h with⟨i,u,rfl,e⟩ | ⟨y,u,rfl,e⟩
  .exact nomatch e
  .injection e with c _
   subst c;cases v<;>rfl
theorem oM(prog:Program)(w:World)(i:Int)(t:Tok):(aV prog w).is (.inl i) (.int i t)=true:=lU i t
theorem oN(prog:Program)(w:World)(x:Str)(t:Tok):(aV prog w).is (.inr x) (.str x t)=true:=lV x t
end L2
namespace L2
open PySem PySem.Spec PyProof.Rows List
variable{b:Addr}{h:Heap}
inductive V where
 |non | bl (b:Bool) | int (i:Int) | str (x:Str) | byt (b:Array UInt8) | oH (b:UInt64) | ref (a:Addr) | ty (n:String)
 deriving DecidableEq
def RelV:V->Value->Prop
 |.non,u=>u=Value.none
 |.bl b,u=>u=Value.bool b
 |.int i,u=>∃t,u=Value.int i t
 |.str x,u=>∃t,u=Value.str x t
 |.byt b,u=>∃t,u=Value.bytes b t
 |.oH b,u=>∃t,u=Value.float b t
 |.ref a,u=>u=Value.ref a
 |.ty n,u=>u=Value.type n
abbrev Vals:List V->List Value->Prop:=Paired RelV
theorem Vals.length{xs:List V}{us:List Value}(r:Vals xs us):xs.length=us.length:=PN r
theorem Vals.get:∀{xs:List V} {us:List Value} {i:Nat} {x:V},Vals xs us->xs[i]?=some x->∃u,us[i]?=some u/\RelV x u
 |_,_,_,_,.nil,e=>by simp at e
 |_,_,0,_,.cons r _,e=>by simp at e;subst e;exact⟨_,rfl,r⟩
 |_,_,i+1,x,.cons _ t,e=>by
  let⟨u,c,a⟩:=Vals.get (i:=i) (x:=x) t (~~~e);exact⟨u,~~~c,a⟩
theorem Vals.set{x:V}{u:Value}(r:RelV x u):∀{xs:List V} {us:List Value} (i:Nat),Vals xs us->Vals (xs.set i x) (us.set i u)
 |_,_,_,.nil=>.nil
 |_,_,0,.cons _ t=>.cons r t
 |_,_,i+1,.cons q t=>.cons q (Vals.set r i t)
theorem Vals.append:∀{xs ys:List V} {us ws:List Value},Vals xs us->Vals ys ws->Vals (xs++ys) (us++ws)
 |_,_,_,_,.nil,s=>s
 |_,_,_,_,.cons r t,s=>.cons r (Vals.append t s)
theorem Vals.take:∀{xs:List V} {us:List Value} (n:Nat),Vals xs us->Vals (xs.take n) (us.take n)
 |_,_,0,_=>.nil
 |_,_,_+1,.nil=>.nil
 |_,_,n+1,.cons r t=>.cons r (Vals.take n t)
theorem Vals.drop:∀{xs:List V} {us:List Value} (n:Nat),Vals xs us->Vals (xs.drop n) (us.drop n)
 |_,_,0,r=>r
 |_,_,_+1,.nil=>.nil
 |_,_,n+1,.cons _ t=>Vals.drop n t
def eO:Option V->Option Value->Prop
 |some v,some u=>RelV v u
 |none,none=>True
 |_,_=>False
def KV{a:Type}:List (a×V)->List (a×Value)->Prop:=Paired λ (p:a×V) (q:a×Value)=>p.1=q.1/\RelV p.2 q.2
def kV:Key->V
 |.inl i=>.int i
 |.inr x=>.str x
inductive HO where
 |lst (xs:List V)
 |tup (xs:List V)
 |dK (kvs:List (Key×V)) | dT (kvs:List (List Key×V))
 |set (S:Int->Bool) (n:Nat)
 |ins (C dx:Addr) (fs:List (Str×V))
 |own (x:Addr)
 |xd (fs:List (Str×V))
 |met (f x:Addr)
 |rng (lo hi:Int)
 |frz (o:Obj) (u:HO)
 |tbl (ps:Array Value)
 |ext (φ:Heap->Prop)
abbrev Hp:=Addr->Option HO
def upd(H:Hp)(a:Addr)(o:HO):Hp:=λ b=>if b=a then some o else H b
theorem av{H:Hp}{a:Addr}{o:HO}:upd H a o a=some o:=by unfold upd;rw[MW rfl]
theorem ai{H:Hp}{a:Addr}{o:HO}(h:b≠a):upd H a o b=H b:=by unfold upd;rw[M8 h]
theorem GG{H:Hp}{a:Addr}{o u:HO}(h:H a=some o)(h':H b=some u)(d:o≠u):a≠b:=by
 intro e;subst e;rw[h] at h';exact d (Nd h')
theorem au{H:Hp}{a:Addr}{o:HO}(h:H a=some o)(h':H b=none):a≠b:=by
 intro e;subst e;rw[h] at h';cases h'
section
variable(P:Program)(w:World)
def aW(H:Hp)(h:Heap)(a:Addr):HO->Prop
 |.lst xs=>xs.length<=sizeLine/\∃(its:List Value) (n:Nat),Vals xs its/\h.get? a=some {cls:=.type "list",data:=.seq its.toArray n}
 |.tup xs=>xs.length<=sizeLine/\∃its:List Value,Vals xs its/\IsTup h a its.toArray
 |.dK c=>c.length<=sizeLine/\(a==sysModules)=false/\∃vs,KV c vs/\h.DictOf (aV P w) a vs
 |.dT c=>c.length<=sizeLine/\(a==sysModules)=false/\∃xs:List (List Key×Addr×Value),
   Paired (λ (p:List Key×V) (q:List Key×Addr×Value)=>p.1=q.1/\H q.2.1=some (.tup (p.1.map kV))/\RelV p.2 q.2.2) c xs/\
   ∃o es j,h.get? a=some o/\o.ExactDict/\o.data=.dict es j/\es.toList=xs.map (entryOfKey (tupleKind (aV P w)))/\(xs.map (·.1)).Nodup
 |.set S n=>h.SetOf (intKind P w) a S n
 |.ins C dx fs=>H dx=some (.own a)/\fs.length<=1000/\dx≠a/\h.get? a=some (PySem.W.instObj C dx)/\
   ∃d,h.Ns1 dx d/\(∀f,eO (fs.lookup f) (d f))/\PySem.Within d (fs.map (·.1))
 |.own _=>∃o,h.get? a=some o
 |.xd fs=>∃d,h.Ns1 a d/\∀f,eO (fs.lookup f) (d f)
 |.rng lo hi=>∃t u v,h.get? a=some {cls:=.type "range",data:=.fields #[.int lo t,.int hi u,.int 1 v]}
 |.frz o u=>h.get? a=some o/\aW H h a u
 |.tbl ps=>h.get? a=some {cls:=.none,data:=.fields ps}
 |.met f x=>h.get? a=@(PySem.W.methodObj (.ref f) (.ref x))
 |.ext e=>e h/\(∃o,h.get? a=some o)/\∀i g:Heap,e i->(∀o,i.get? a=some o->g.get? a=some o)->e g
def fD(H:Hp)(h:Heap):Prop:=∀a o,H a=some o->aW P w H h a o
end
section
variable{P:Program}{w:World}{H H':Hp}{h h':Heap}{a:Addr}{o:HO}
theorem aW.lt(x:aW P w H h a o):a<h.objs.size:=by
 cases o with
 |lst xs=>let⟨_,_,_,_,e⟩:=x;exact MI e
 |tup xs=>let⟨_,_,_,p⟩:=x;exact p.lt
 |dK c=>let⟨_,_,_,_,o,_,_,e,_⟩:=x;exact MI e
 |dT c=>let⟨_,_,_,_,o,_,_,e,_⟩:=x;exact MI e
 |set S n=>let⟨o,_,_,_,e,_⟩:=x;exact MI e
 |ins C i fs=>let⟨_,_,_,e,_⟩:=x;exact MI e
 |own y=>let⟨_,e⟩:=x;exact MI e
 |xd fs=>let⟨_,⟨_,_,_,e,_⟩,_⟩:=x;exact MI e
 |rng lo hi=>let⟨_,_,_,e⟩:=x;exact MI e
 |frz g u=>let⟨e,_⟩:=x;exact MI e
 |tbl ps=>exact MI (show h.get? a=some _ from x)
 |met f y=>exact MI (show h.get? a=some _ from x)
 |ext d=>let⟨_,⟨_,e⟩,_⟩:=x;exact MI e
theorem Paired.CW{d J:Type}{F G:d->J->Prop}:∀{l₁:List d} {c:List J},Paired F l₁ c->(∀a b,F a b->G a b)->Paired G l₁ c
 |_,_,.nil,_=>.nil
 |_,_,.cons r t,f=>.cons (f _ _ r) (Paired.CW t f)
theorem aW.stay(x:aW P w H h a o)(k:∀b u,(b=a\/H b=@(.own a))->h.get? b=some u->h'.get? b=some u)
  (ho:∀b,H b=some (.own a)->H' b=@(.own a)) (I:∀b xs,H b=some (.tup xs)->H' b=@(.tup xs)):aW P w H' h' a o:=by
 induction o with
 |lst xs=>let⟨z,l,n,r,e⟩:=x;exact⟨z,l,n,r,k _ _ (.inl rfl) e⟩
 |tup xs=>let⟨z,l,r,g,e,c⟩:=x;exact⟨z,l,r,g,k _ _ (.inl rfl) e,c⟩
 |dK A=>let⟨z,y,D,r,g,i,j,e,c⟩:=x;exact⟨z,y,D,r,g,i,j,k _ _ (.inl rfl) e,c⟩
 |dT A=>
  let⟨z,y,xs,r,g,i,j,e,c,M,L,K⟩:=x;exact⟨z,y,xs,Paired.CW r λ p q z=>⟨z.1,I _ _ z.2.1,z.2.2⟩,g,i,j,k _ _ (.inl rfl) e,c,M,L,K⟩
 |set S n=>let⟨g,i,j,t,e,c⟩:=x;exact⟨g,i,j,t,k _ _ (.inl rfl) e,c⟩
 |ins C O fs=>
  let⟨d,z,F,e,s,⟨m,i,j,J,c⟩,r,E⟩:=x;exact⟨ho _ d,z,F,k _ _ (.inl rfl) e,s,⟨m,i,j,k _ _ (.inr d) J,c⟩,r,E⟩
 |own y=>let⟨g,e⟩:=x;exact⟨g,k _ _ (.inl rfl) e⟩
 |xd fs=>let⟨s,⟨m,i,j,e,c⟩,r⟩:=x;exact⟨s,⟨m,i,j,k _ _ (.inl rfl) e,c⟩,r⟩
 |rng lo hi=>let⟨t,u,v,e⟩:=x;exact⟨t,u,v,k _ _ (.inl rfl) e⟩
 |frz g u G=>let⟨e,q⟩:=x;exact⟨k _ _ (.inl rfl) e,G q⟩
 |tbl ps=>
  have e:h.get? a=some {cls:=.none,data:=.fields ps}:=x;show h'.get? a=some {cls:=.none,data:=.fields ps};exact k a _ (.inl rfl) e
 |met f y=>
  have e:h.get? a=some (PySem.W.methodObj (.ref f) (.ref y)):=x;show h'.get? a=@(PySem.W.methodObj (.ref f) (.ref y));exact k a _ (.inl rfl) e
 |ext N=>let⟨p,⟨o,e⟩,B⟩:=x;exact⟨B _ _ p λ o q=>k _ _ (.inl rfl) q,⟨o,k _ _ (.inl rfl) e⟩,B⟩
theorem fD.lt(x:fD P w H h)(e:H a=some o):a<h.objs.size:=(x a o e).lt
theorem fD.fresh(x:fD P w H h)(e:h.objs.size<=a):H a=none:=by
 cases q:H a with
 |none=>rfl
 |some u=>exact absurd (MO (x.lt q) e) (Ol _)
theorem fD.kept(x:fD P w H h)(k:∀b u,h.get? b=some u->h'.get? b=some u):fD P w H h':=λ a o e=>
 (x a o e).stay (λ b u _ q=>k b u q) (λ _ q=>q) λ _ _ q=>q
theorem fD.laid(x:fD P w H h)(k:∀b u,h.get? b=some u->h'.get? b=some u)(i:h.objs.size<=a)(d:aW P w (upd H a o) h' a o):fD P w (upd H a o) h':=λ b u e=>by
 have f:=x.fresh i
 by_cases g:b=a
 .subst g;rw[av] at e;cases e;exact d
 .rw[ai g] at e;exact(x b u e).stay (λ c v _ q=>k c v q) (λ c q=>by rw[ai (au q f)];exact q) λ c j q=>by rw[ai (au q f)];exact q
end
def Rd(H:Hp)(a:Addr)(u:HO):Prop:=H a=some u\/∃o,H a=@(.frz o u)
theorem Rd.ok{P:Program}{w:World}{H:Hp}{a:Addr}{u:HO}(r:Rd H a u)(x:fD P w H h):aW P w H h a u:=by
 rcases r with r | ⟨o,r⟩
 .exact x a u r
 .let⟨_,q⟩:=x a _ r;exact q
def GH:Option HO->Prop
 |some (.lst _)=>True
 |some (.dK _)=>True
 |some (.dT _)=>True
 |some (.set _ _)=>True
 |some (.ins _ _ _)=>True
 |some (.ext _)=>True
 |_=>False
section
variable{P:Program}{w:World}{H:Hp}{h h':Heap}{x e:Addr}{o':HO}
theorem fD.write(o:fD P w H h)(f:GH (H x))(m:e=x\/H e=@(.own x))(k:∀b u,b≠e->h.get? b=some u->h'.get? b=some u)(t:∃u,h'.get? e=some u)
  (j:aW P w (upd H x o') h' x o'):fD P w (upd H x o') h':=λ b u q=>by
 have n:∀c y,H c=some (.own y)->c≠x:=λ c y r z=>by subst z;rw[r] at f;exact f
 have s:∀c d,H c=some (.tup d)->c≠x:=λ c d r z=>by subst z;rw[r] at f;exact f
 by_cases i:b=x
 .subst i;rw[av] at q;cases q;exact j
 .rw[ai i] at q
  by_cases a:b=e
  .have l:H b=some (.own x):=by
    rcases m with z | z
    .exact absurd (a.trans z) i
    .rw[a];exact z
   rw[q] at l;cases l;let⟨v,p⟩:=t;exact⟨v,by rw[a];exact p⟩
  .refine(o b u q).stay (λ c v g r=>k c v ?_ r) (λ c r=>by rw[ai (n c b r)];exact r) λ c d r=>by rw[ai (s c d r)];exact r
   rcases g with rfl | g
   .exact a
   .rintro rfl;rcases m with z | z
    .exact n c b g z
    .rw[g] at z;cases z;exact i rfl
end
structure Un(fs ex:List Addr)(H H':Hp)(h h':Heap):Prop where
 keep:∀b o,h.get? b=some o->H b=none->b∉fs->b∉ex->h'.get? b=some o
 slot:∀b o,h.get? b=some o->H b=none->b∈fs->b∉ex->∃sl,h'.get? b=some {o with slots:=sl}
 free:∀b o,h.get? b=some o->H b=none->b∉ex->H' b=none
 there:∀b o,h.get? b=some o->b∉ex->∃o',h'.get? b=some o'
 tups:∀b xs,H b=some (.tup xs)->H' b=@(.tup xs)
 gi:∀b o u,H b=some (.frz o u)->H' b=@(.frz o u)
 gM:∀b ps,H b=some (.tbl ps)->∃more,H' b=@(.tbl (ps++more))
section
variable{fs fs' ex ex':List Addr}{H H1 H2:Hp}{h h1 h2 h':Heap}{a x e:Addr}{o:HO}
theorem Un.any(u:Un fs ex H H1 h h1){c:Obj}(q:h.get? b=some c)(n:H b=none)(d:b∉ex):∃g,h1.get? b=some {c with slots:=g}:=by
 by_cases f:b∈fs
 .exact u.slot b c q n f d
 .exact⟨c.slots,u.keep b c q n f d⟩
theorem Un.kept(k:∀b u,h.get? b=some u->h'.get? b=some u):Un fs ex H H h h':=
 ⟨λ b c q _ _ _=>k b c q,λ b c q _ _ _=>⟨c.slots,k b c q⟩,λ _ _ _ n _=>n,λ b c q _=>⟨c,k b c q⟩,λ _ _ q=>q,λ _ _ _ q=>q,λ _ d q=>⟨#[],by rw[q];simp⟩⟩
theorem Un.refl:Un fs ex H H h h:=Un.kept λ _ _ q=>q
theorem Un.laid(k:∀b u,h.get? b=some u->h'.get? b=some u)(c:h.objs.size<=a)(hn:H a=none):Un fs ex H (upd H a o) h h' where
 keep:=λ b u q _ _ _=>k b u q
 slot:=λ b u q _ _ _=>⟨u.slots,k b u q⟩
 free:=λ b u q n _=>by rw[ai (MQ (MO (MI q) c))];exact n
 there:=λ b u q _=>⟨u,k b u q⟩
 tups:=λ b xs q=>by rw[ai (au q hn)];exact q
 gi:=λ b u xs q=>by rw[ai (au q hn)];exact q
 gM:=λ b ps q=>⟨#[],by rw[ai (au q hn),q];simp⟩
theorem Un.write(d:GH (H x))(m:e=x\/H e=@(.own x))(k:∀b u,b≠e->h.get? b=some u->h'.get? b=some u)(p:∃u,h'.get? e=some u):Un fs ex H (upd H x o) h h':=by
 have g:∀b,H b=none->b≠x:=λ b n z=>by subst z;rw[n] at d;exact d
 have i:∀b,H b=none->b≠e:=λ b n z=>by
  subst z;rcases m with r | r
  .exact g b n r
  .rw[n] at r;cases r
 have f:∀b u,H b=some u->¬GH (some u)->b≠x:=λ b u q l z=>by subst z;rw[q] at d;exact l d
 refine⟨λ b u q n _ _=>k b u (i b n) q,λ b u q n _ _=>⟨u.slots,k b u (i b n) q⟩,λ b u q n _=>by rw[ai (g b n)];exact n,λ b u q _=>?_,
  λ b j q=>by rw[ai (f b _ q λ z=>z)];exact q,λ b u j q=>by rw[ai (f b _ q λ z=>z)];exact q,λ b s q=>⟨#[],by rw[ai (f b _ q λ z=>z),q];simp⟩⟩
 by_cases c:b=e
 .subst c;exact p
 .exact⟨u,k b u c q⟩
end
def Ja(h:Heap)(H:Hp):List Addr:=(List.range h.objs.size).filter λ a=>(H a).isSome
def nF(h:Heap)(H:Hp):Heap:=PySem.W.hideAll h (Ja h H)
theorem ur(h:Heap)(H:Hp):(nF h H).objs.size=h.objs.size:=PySem.W.hideAll_size _ _
theorem vP{H:Hp}{o:Obj}(e:h.get? b=some o)(n:H b=none):(nF h H).get? b=some o:=
 PySem.W.hideAll_get _ e λ a=>by
  have q:(H b).isSome=true:=(O8.mp a).2;rw[n] at q;simp at q
theorem zw{H:Hp}{o:Obj}(e:(nF h H).get? b=some o):h.get? b=some o/\H b=none:=by
 have a:h.get? b=some o:=PySem.W.of_hideAll (Ja h H) e;refine⟨a,?_⟩;cases q:H b with
 |none=>rfl
 |some x=>
  have c:b∈Ja h H:=O8.mpr ⟨NK.mpr (MI a),by simp[q]⟩;have z:(nF h H).get? b=none:=PySem.W.hideAll_none (Ja h H) c;rw[z] at e;cases e
end L2
namespace L2
open PySem PySem.Spec PyProof.Rows List
variable{M:Model}{ch:List Addr}{i t':Nat}
structure Mod(K:ae)(mg:Str->Option Value)(base:Heap):Prop where
 kin:K.In base
 glob:base.Ns mainGlobals mg
 blt:∃mb,base.Ns builtinsNs mb/\∀x:Str,x≠"__name__"->mb x=bootBuiltins x
 nolimit:base.NoLimit
set_option genInjectivity false in
structure Cx where
 prog:Program
 w:World
 K:ae
 mg:Str->Option Value
 base:Heap
 A:Around
 N:List Str
 s₀:Shared
 H₀:Hp
 env:Env
 outer:List Env
 stack:List Env
 ex:List Addr
 fn:Str->Bool
 calm:Bool
 pn:List (Addr×Obj)
 xe:Value->Shared->Prop
def frs(l:List Env):List Addr:=l.filterMap (·.frame)
abbrev Cx.fs(X:Cx):List Addr:=frs X.outer
def BA(a:Scope)(x:Str):Prop:=a.names.lookup x=some .local\/a.names.lookup x=some .cell\/a.names.lookup x=some .free
def Loc(a:Scope)(x:Str):Prop:=a.names.lookup x=some .local\/a.names.lookup x=some .cell
def Look(env:Env)(h:Heap)(m:Str->Option Value)(x:Str)(u:Value):Prop:=
 (env.kindOf x=some .local/\m x=some u)\/((env.kindOf x=some .cell\/env.kindOf x=some .free)/\∃c,env.cells.lookup x=some c/\h.IsCell c (some u))
structure Cx.Ok(X:Cx):Prop where
 mod:Mod X.K X.mg X.base
 kind:X.env.scope.kind=.function
 glob:X.env.globals=mainGlobals
 blt:X.env.builtins=builtinsNs
 above:X.s₀⁻¹<=X.env.locals
 inj:∀x y c,X.env.cells.lookup x=some c->X.env.cells.lookup y=some c->x=y
 has:∀x,(X.env.kindOf x=some .cell\/X.env.kindOf x=some .free)->∃c,X.env.cells.lookup x=some c
 cab:∀x c,X.fn x=true->X.env.cells.lookup x=some c->X.s₀⁻¹<=c
 hd:X.calm=true->X.A.handled=none
 frames:X.A.frames=some X.stack
 stk:X.stack=X.outer\/(X.stack=X.env::X.outer/\X.env.frame=some X.env.locals)
 exf:∀b∈X.ex,b≠X.env.locals/\∀x c,X.env.cells.lookup x=some c->c≠b
 bs:∀b o,X.base.get? b=some o->X.s₀.heap.get? b=some o/\X.H₀ b=none
 bsz:X.base.objs.size<=X.s₀⁻¹
 noex:∀b o,X.base.get? b=some o->b∉X.ex
 exfs:∀b∈X.ex,b∉X.fs
 g6:X.s₀.heap.FunFrames X.base X.outer
 frf:∀b∈X.fs,X.H₀ b=none
structure Inv(X:Cx)(aa:List (Addr×Obj))(Y:List (Option V))(H:Hp)(s:Shared):Prop where
 ok:X.Ok
 os:s.os=X.s₀.os
 bare:AllBare s.gens
 base:Un X.fs X.ex X.H₀ H X.s₀.heap s.heap
 loc:∃m,s.heap.Ns X.env.locals m/\∀(i:Nat) (x:Str) (v:V),X.N[i]?=some x->Y[i]?=some (some v)->BA X.env.scope x->∃u,RelV v u/\Look X.env s.heap m x u
 cell:∀x c,X.env.cells.lookup x=some c->∃v,s.heap.IsCell c v
 free:H X.env.locals=none
 freeC:∀x c,X.env.cells.lookup x=some c->H c=none
 pin:∀p∈X.pn++aa,s.heap.get? p.1=some p.2/\H p.1=none/\p.1≠X.env.locals/\p.1∉X.fs/\∀v,p.2.data≠.cell v
 hok:fD X.prog X.w H s.heap
 len:Y.length=X.N.length
section
variable{X:Cx}{aa:List (Addr×Obj)}{Y:List (Option V)}{H H':Hp}{s:Shared}{h':Heap}
theorem Cx.Ok.vQ(a:X.Ok){b:Addr}{o:Obj}(e:X.base.get? b=some o):b∉X.fs:=λ c=>by
 have:=(a.g6.mem c).1;rw[e] at this;cases this
theorem Inv.bs(I:Inv X aa Y H s):∀b o,X.base.get? b=some o->s.heap.get? b=some o/\H b=none:=λ b o e=>
 ⟨I.base.keep b o (I.ok.bs b o e).1 (I.ok.bs b o e).2 (I.ok.vQ e) (I.ok.noex b o e),I.base.free b o (I.ok.bs b o e).1 (I.ok.bs b o e).2 (I.ok.noex b o e)⟩
theorem Inv.bk(I:Inv X aa Y H s):∀b o,X.base.get? b=some o->s.heap.get? b=some o:=λ b o e=>(I.bs b o e).1
theorem Inv.mod(I:Inv X aa Y H s):Mod X.K X.mg X.base:=I.ok.mod
theorem Inv.eS(I:Inv X aa Y H s):X.K.In s.heap:=I.ok.mod.kin.keeps I.bk
theorem Inv.fr(I:Inv X aa Y H s):∃m,Fr X.base X.env.locals s.heap m:=
 let ⟨m,a,_⟩:=I.loc
 ⟨m,a,I.bk,Na I.ok.bsz I.ok.above⟩
theorem Inv.lt(I:Inv X aa Y H s):X.env.locals<s⁻¹:=let ⟨_,a,_⟩:=I.loc;a.lt
theorem Inv.sz(I:Inv X aa Y H s):X.s₀⁻¹<=s⁻¹:=Na I.ok.above (OR I.lt)
theorem Inv.JL(I:Inv X aa Y H s){a:Addr}(h:s⁻¹<=a):a∉X.fs:=λ c=>by
 let⟨_,o,b,_⟩:=I.ok.g6.mem c;exact absurd (MO (MI b) (Na I.sz h)) (Ol _)
theorem Inv.vR(I:Inv X aa Y H s):∀x c,X.env.cells.lookup x=some c->c≠X.env.locals:=λ x c e z=>by
 let⟨v,o,d,f⟩:=I.cell x c e;let⟨m,⟨g,h,j,a,b,_⟩,_⟩:=I.loc;rw[z,a] at d;cases d;rw[b] at f;cases f
theorem Inv.g6(I:Inv X aa Y H s):s.heap.FunFrames X.base X.outer:=by
 have f:∀(l:List Env),(∀b∈frs l,b∈X.fs)->X.s₀.heap.FunFrames X.base l->s.heap.FunFrames X.base l:=by
  intro l
  induction l with
  |nil=>intro _ _;trivial
  |cons env r h=>
   intro g n;let⟨p,⟨L,o,a,m,k,q⟩,j⟩:=n;have d:L∈X.fs:=g L (by unfold frs;rw[Pp,a];exact Nk);let⟨t,e⟩:=I.base.slot L o k (I.ok.frf L d) d λ z=>I.ok.exfs L z d;exact⟨p,⟨L,_,a,m,e,q⟩,h (λ b c=>g b (by unfold frs;rw[Pp,a];exact M3 _ c)) j⟩
 exact f X.outer (λ _ c=>c) I.ok.g6
theorem Inv.stack(I:Inv X aa Y H s):s.heap.FunFrames X.base X.stack:=by
 rcases I.ok.stk with e | ⟨e,hf⟩
 .rw[e];exact I.g6
 .rw[e];let⟨m,a,_⟩:=I.loc;refine .cons (by rw[I.ok.kind];decide) hf a ?_ I.g6;exact Heap.get?_none_of_le (Na I.ok.bsz I.ok.above)
theorem Inv.iV(I:Inv X aa Y H s):∀b∈frs X.stack,b∈X.env.locals::X.fs:=λ b a=>by
 rcases I.ok.stk with e | ⟨e,hf⟩
 .rw[e] at a;exact M3 _ a
 .rw[e] at a;unfold frs at a;rw[Pp,hf] at a;exact a
theorem Inv.jI(I:Inv X aa Y H s):∀b∈frs X.stack,H b=none:=λ b a=>by
 rcases MX.mp (I.iV b a) with e | a
 .rw[e];exact I.free
 .let⟨_,o,c,_⟩:=I.ok.g6.mem a;exact I.base.free b o c (I.ok.frf b a) λ z=>I.ok.exfs b z a
theorem Inv.step{g':Array GenState}{d':Drawn}(I:Inv X aa Y H s)
  (h:∀b∈ch,(b∈X.ex\/X.s₀⁻¹<=b)/\b≠X.env.locals/\(∀x c,X.env.cells.lookup x=some c->c≠b)/\∀p∈X.pn++aa,p.1≠b)
  (g:∀b o,b≠X.env.locals->b∉X.fs->b∉ch->s.heap.get? b=some o->H b=none->h'.get? b=some o)
  (A:∀b o,b≠X.env.locals->b∈X.fs->b∉ch->s.heap.get? b=some o->H b=none->∃P,h'.get? b=some {o with slots:=P}) (f:∀b o,b∉ch->s.heap.get? b=some o->H b=none->H' b=none)
  (B:∀b o,b∉ch->s.heap.get? b=some o->∃F,h'.get? b=some F)
  (E:∀b y,H b=some (.tup y)->H' b=@(.tup y)) (gi:∀b o u,H b=some (.frz o u)->H' b=@(.frz o u)) (gM:∀b L,H b=some (.tbl L)->∃G,H' b=@(.tbl (L++G)))
  (ns:∀m,s.heap.Ns X.env.locals m->h'.Ns X.env.locals m) (Q:fD X.prog X.w H' h') (hg:AllBare g') :
  Inv X aa Y H' {s with heap:=h',gens:=g',drawn:=d',toks:=t'}:=by
 have Z:∀b o,X.s₀.heap.get? b=some o->b≠X.env.locals:=λ b o e=>MQ (MO (MI e) I.ok.above);have N:∀b o,X.s₀.heap.get? b=some o->b∉X.ex->b∉ch:=λ b o e a C=>by
  rcases (h b C).1 with z | z
  .exact a z
  .exact absurd (MO (MI e) z) (Ol _)
 have j:∀x c,X.env.cells.lookup x=some c->∀v,s.heap.IsCell c v->h'.IsCell c v:=λ x c e v ⟨o,D,R⟩=>by
  have K:c∉ch:=λ z=>(h c z).2.2.1 x c e rfl
  by_cases W:c∈X.fs
  .let⟨P,q⟩:=A c o (I.vR x c e) W K D (I.freeC x c e);exact⟨_,q,R⟩
  .exact⟨o,g c o (I.vR x c e) W K D (I.freeC x c e),R⟩
 refine⟨I.ok,I.os,hg,⟨λ b o e n C a=>?_,λ b o e n C a=>?_,λ b o e n a=>?_,λ b o e a=>?_,λ b y e=>E b y (I.base.tups b y e),λ b o y e=>gi b o y (I.base.gi b o y e),λ b L e=>?_⟩,?_,λ x c e=>?_,?_,λ x c e=>?_,λ p U=>?_,Q,I.len⟩
 .exact g b o (Z b o e) C (N b o e a) (I.base.keep b o e n C a) (I.base.free b o e n a)
 .let⟨P,t⟩:=I.base.slot b o e n C a;let⟨O,J⟩:=A b _ (Z b o e) C (N b o e a) t (I.base.free b o e n a);exact⟨O,J⟩
 .let⟨F,t⟩:=I.base.there b o e a;exact f b F (N b o e a) t (I.base.free b o e n a)
 .let⟨F,t⟩:=I.base.there b o e a;exact B b F (N b o e a) t
 .let⟨m1,t⟩:=I.base.gM b L e;let⟨m2,J⟩:=gM b _ t;exact⟨m1++m2,by rw[J,Array.append_assoc]⟩
 .let⟨m,hn,hl⟩:=I.loc;refine⟨m,ns m hn,λ i x v t J e3=>?_⟩;let⟨u,r,l⟩:=hl i x v t J e3;refine⟨u,r,?_⟩;rcases l with l | ⟨k,c,e,z⟩
  .exact .inl l
  .exact .inr ⟨k,c,e,j x c e _ z⟩
 .let⟨v,z⟩:=I.cell x c e;exact⟨v,j x c e v z⟩
 .let⟨m,⟨o,_,_,D,_⟩,_⟩:=I.loc;exact f _ o (λ z=>(h _ z).2.1 rfl) D I.free
 .let⟨v,o,D,R⟩:=I.cell x c e;exact f c o (λ z=>(h c z).2.2.1 x c e rfl) D (I.freeC x c e)
 .let⟨e,n,T,S,d⟩:=I.pin p U;have K:p.1∉ch:=λ z=>(h p.1 z).2.2.2 p U rfl;exact⟨g p.1 p.2 T S K e n,f p.1 p.2 K e n,T,S,d⟩
theorem Inv.un(I:Inv X aa Y H s)(u:Un X.fs [] H H' s.heap h')(c:fD X.prog X.w H' h'):Inv X aa Y H' {s with heap:=h',toks:=t'}:=by
 let⟨m,⟨o,v,x,h,r⟩,_⟩:=id I.loc;let⟨p,l⟩:=u.any h I.free 's';exact I.step (g':=s.gens) (d':=s.drawn) (ch:=[]) (λ _ z=>nomatch z) (λ b o _ d _ e n=>u.keep b o e n d 's') (λ b o _ d _ e n=>u.slot b o e n d 's') (λ b o _ e n=>u.free b o e n 's') (λ b o _ e=>u.there b o e 's') u.tups u.gi u.gM (λ t k=>by
  let⟨q,f,g,a,j⟩:=k;rw[h] at a;cases a;exact⟨_,f,g,l,j⟩) c I.bare
theorem Inv.call{g':Array GenState}{d':Drawn}(I:Inv X aa Y H s)(u:Un (frs X.stack) ch H H' s.heap h')(g:fD X.prog X.w H' h')(v:AllBare g')
  (f:∀b∈ch,(b∈X.ex\/X.s₀⁻¹<=b)/\b≠X.env.locals/\(∀x c,X.env.cells.lookup x=some c->c≠b)/\∀p∈X.pn++aa,p.1≠b) :
  Inv X aa Y H' {s with heap:=h',gens:=g',drawn:=d',toks:=t'}:=by
 let⟨m,⟨o,D,E,l,r⟩,_⟩:=id I.loc;let⟨A,h⟩:=u.any l I.free λ z=>(f _ z).2.1 rfl;exact I.step (ch:=ch) f (λ b o h y a e n=>u.keep b o e n (λ z=>(MX.mp (I.iV b z)).elim h y) a) (λ b o _ _ a e n=>u.any e n a) (λ b o a e n=>u.free b o e n a) (λ b o a e=>u.there b o e a) u.tups u.gi u.gM (λ C t=>by
  let⟨B,j,k,d,q⟩:=t;rw[l] at d;cases d;exact⟨_,j,k,h,q⟩) g v
theorem Inv.turned{it:Addr}(I:Inv X aa Y H s)(k:∀b o,b≠it->s.heap.get? b=some o->h'.get? b=some o)(h:H it=none)(d:it≠X.env.locals)
  (y:it∈X.ex\/X.s₀⁻¹<=it) (w:∀x c,X.env.cells.lookup x=some c->c≠it) (t:∀p∈X.pn++aa,p.1≠it):Inv X aa Y H {s with heap:=h',toks:=t'}:=by
 have f:∀b u,H b=some u->b≠it:=λ b u e z=>by rw[z,h] at e;cases e
 refine I.step (g':=s.gens) (d':=s.drawn) (ch:=[it]) (λ b l=>?_) (λ b o _ _ a e _=>k b o (λ z=>a (by simp[z])) e) (λ b o _ _ a e _=>⟨o.slots,k b o (λ z=>a (by simp[z])) e⟩) (λ _ _ _ _ n=>n)
  (λ b o a e=>⟨o,k b o (λ z=>a (by simp[z])) e⟩) (λ _ _ e=>e) (λ _ _ _ e=>e) (λ b C e=>⟨#[],by rw[e];simp⟩) (λ m j=>?_) (λ b u e=>?_) I.bare
 .have e:b=it:=by simpa using l
  subst e;exact⟨y,d,w,t⟩
 .let⟨o,A,B,g,r⟩:=j;exact⟨o,A,B,k _ o (Ne.symm d) g,r⟩
 .refine(I.hok b u e).stay (λ c v a q=>k c v ?_ q) (λ _ q=>q) λ _ _ q=>q;rcases a with z | z
  .rw[z];exact f b u e
  .exact f c _ z
theorem Inv.tok(I:Inv X aa Y H s)(t:Nat):Inv X aa Y H {s with toks:=t}:=I.un (h':=s.heap) (t':=t) Un.refl I.hok
theorem Inv.kept(I:Inv X aa Y H s)(k:∀b u,s.heap.get? b=some u->h'.get? b=some u):Inv X aa Y H {s with heap:=h',toks:=t'}:=I.un (Un.kept k) (I.hok.kept k)
theorem Inv.laid{a:Addr}{o:HO}(I:Inv X aa Y H s)(k:∀b u,s.heap.get? b=some u->h'.get? b=some u)(d:s⁻¹<=a)(c:aW X.prog X.w (upd H a o) h' a o) :
  Inv X aa Y (upd H a o) {s with heap:=h',toks:=t'}:=I.un (Un.laid k d (I.hok.fresh d)) (I.hok.laid k d c)
theorem Inv.write{x e:Addr}{o:HO}(I:Inv X aa Y H s)(c:GH (H x))(d:e=x\/H e=@(.own x))(k:∀b u,b≠e->s.heap.get? b=some u->h'.get? b=some u)(f:∃u,h'.get? e=some u)
  (a:aW X.prog X.w (upd H x o) h' x o):Inv X aa Y (upd H x o) {s with heap:=h',toks:=t'}:=I.un (Un.write c d k f) (I.hok.write c d k f a)
theorem Inv.sD{a:List (Addr×Obj)}(I:Inv X aa Y H s)(h:∀p∈a,s.heap.get? p.1=some p.2/\H p.1=none/\p.1≠X.env.locals/\p.1∉X.fs/\∀v,p.2.data≠.cell v):Inv X a Y H s:=
 ⟨I.ok,I.os,I.bare,I.base,I.loc,I.cell,I.free,I.freeC,λ p b=>(Nc.mp b).elim (λ z=>I.pin p (NY _ z)) (h p),I.hok,I.len⟩
theorem jU{N:List Str}(c:N.Nodup){j:Nat}{x:Str}(a:N[i]?=some x)(b:N[j]?=some x):i=j:=by
 let⟨g,e⟩:=MG.mp a;let⟨f,d⟩:=MG.mp b;exact(Qo c).mp (e.trans d.symm)
theorem lW{A:Around}{E:Value->Shared->Prop}{x:Str}{v:V}{u:Value}{Q:Unit->Shared->Prop}(I:Inv X aa Y H s)(hN:X.N.Nodup)(R:X.N[i]?=some x)(B:Loc X.env.scope x)(r:RelV v u)
  (h:∀s',Inv X aa (Y.set i (some v)) H s'->(∃a,Heap.SameBut a s.heap s'.heap/\(a=X.env.locals\/X.env.cells.lookup x=some a))->Q () s') (hf:X.fn x=true\/X.env.scope.names.lookup x=some .local:=by first | exact .inl rfl | exact .inr rfl | assumption):wpAny M A (storeName X.env x u) Q E s:=by
 let⟨m,hn,hl⟩:=id I.loc;have S:(X.env.scope.kind==.class||(X.env.scope.kind==.module&&X.env.locals != X.env.globals))=false:=by rw[I.ok.kind];rfl
 have P:i<Y.length:=by rw[I.len];exact(MG.mp R).1
 have vR:=I.vR;have g:∀{a:Addr} {h':Heap},(∃o,s.heap.get? a=some o/\H a=none)->Heap.SameBut a s.heap h'->fD X.prog X.w H h':=λ {a h'} ha f b ob e=>by
  let⟨_,_,C⟩:=ha;refine(I.hok b ob e).stay (λ c W t q=>(f.2 c ?_).trans q) (λ _ q=>q) λ _ _ q=>q;rintro rfl;rcases t with rfl | t
  .rw[C] at e;cases e
  .rw[C] at t;cases t
 rcases B with F | F
 .refine wpAny_storeName_local F hn (λ h' hn' f=>?_) S;let⟨oL,_,_,hoL,_⟩:=id hn;refine h _ ⟨I.ok,I.os,I.bare,⟨λ b o e n K B=>?_,λ b o e n K B=>?_,I.base.free,λ b o e B=>?_,I.base.tups,I.base.gi,I.base.gM⟩,⟨_,hn',λ j y v' l D e3=>?_⟩,λ y c e=>?_,I.free,I.freeC,λ p hp=>?_,g ⟨oL,hoL,I.free⟩ f,~~~I.len⟩ ⟨_,f,.inl rfl⟩
  .exact(f.2 b (MQ (MO (MI e) I.ok.above))).trans (I.base.keep b o e n K B)
  .let⟨sl,l⟩:=I.base.slot b o e n K B;exact⟨sl,(f.2 b (MQ (MO (MI e) I.ok.above))).trans l⟩
  .let⟨o',l⟩:=I.base.there b o e B;exact⟨o',(f.2 b (MQ (MO (MI e) I.ok.above))).trans l⟩
  .by_cases G:j=i
   .subst G;rw[R] at l;cases l;rw[Nb P] at D;cases D;exact⟨u,r,.inl ⟨F,by simp⟩⟩
   .rw[M7 (Ne.symm G)] at D;let⟨u',r',q⟩:=hl j y v' l D e3;refine⟨u',r',?_⟩;rcases q with⟨k,e⟩ | ⟨k,c,e,z⟩
    .refine .inl ⟨k,?_⟩;have:y≠x:=λ e=>G (jU hN l (e▸R));simp[this,e]
    .exact .inr ⟨k,c,e,z.sameBut f (vR y c e)⟩
  .let⟨W,z⟩:=I.cell y c e;exact⟨W,z.sameBut f (vR y c e)⟩
  .let⟨e,n,Z,nf,d⟩:=I.pin p hp;exact⟨(f.2 p.1 Z).trans e,n,Z,nf,d⟩
 .have J:X.fn x=true:=by
   rcases hf with z | z
   .exact z
   .rw[z] at F;cases F
  let⟨c,t⟩:=I.ok.has x (.inl F);let⟨W,z⟩:=I.cell x c t;refine wpAny_storeName_cell I.ok.kind F t z (λ h' U f=>?_);let⟨oc,O,L⟩:=id z;refine h {s with heap:=h'} ⟨I.ok,I.os,I.bare,⟨λ b o e n K B=>?_,λ b o e n K B=>?_,I.base.free,λ b o e B=>?_,I.base.tups,I.base.gi,I.base.gM⟩,⟨m,hn.sameBut f (Ne.symm (vR x c t)),λ j y v' l D e3=>?_⟩,λ y c' e=>?_,I.free,I.freeC,λ p hp=>?_,g ⟨oc,O,I.freeC x c t⟩ f,~~~I.len⟩ ⟨c,f,.inr t⟩
  .exact(f.2 b (MQ (MO (MI e) (I.ok.cab x c J t)))).trans (I.base.keep b o e n K B)
  .let⟨sl,l⟩:=I.base.slot b o e n K B;exact⟨sl,(f.2 b (MQ (MO (MI e) (I.ok.cab x c J t)))).trans l⟩
  .let⟨o',l⟩:=I.base.there b o e B;exact⟨o',(f.2 b (MQ (MO (MI e) (I.ok.cab x c J t)))).trans l⟩
  .by_cases G:j=i
   .subst G;rw[R] at l;cases l;rw[Nb P] at D;cases D;exact⟨u,r,.inr ⟨.inl F,c,t,U⟩⟩
   .rw[M7 (Ne.symm G)] at D;let⟨u',r',q⟩:=hl j y v' l D e3;refine⟨u',r',?_⟩;rcases q with q | ⟨k,c',e,z'⟩
    .exact .inl q
    .refine .inr ⟨k,c',e,z'.sameBut f ?_⟩;rintro rfl;exact G (jU hN l (I.ok.inj _ _ _ e t▸R))
  .by_cases T:c'=c
   .subst T;exact⟨_,U⟩
   .let⟨w2,z2⟩:=I.cell y c' e;exact⟨w2,z2.sameBut f T⟩
  .let⟨e,n,Z,nf,d⟩:=I.pin p hp;refine⟨(f.2 p.1 ?_).trans e,n,Z,nf,d⟩;intro q;rw[q,O] at e;have q':oc=p.2:=Nd e;exact d W (by rw[<-q'];exact L)
theorem jV{A:Around}{E:Value->Shared->Prop}{x:Str}{v:V}{u:Value}{Q:Unit->Shared->Prop}(I:Inv X aa Y H s)(e:X.N.Nodup)(c:X.N[i]?=some x)(b:Loc X.env.scope x)(r:RelV v u)
  (h:∀a,Inv X aa (Y.set i (some v)) H a->Q () a) (d:X.fn x=true\/X.env.scope.names.lookup x=some .local:=by first | exact .inl rfl | exact .inr rfl | assumption):wpAny M A (storeName X.env x u) Q E s:=
 lW I e c b r (λ a f _=>h a f) d
theorem Inv.BB{a:Shared}(I:Inv X aa Y H s)(ho:a.os=s.os)(u:Un (frs X.stack) ch H H' s.heap a.heap)(d:fD X.prog X.w H' a.heap)(h:AllBare a.gens)
  (f:∀b∈ch,(b∈X.ex\/X.s₀⁻¹<=b)/\b≠X.env.locals/\(∀x c,X.env.cells.lookup x=some c->c≠b)/\∀p∈X.pn++aa,p.1≠b):Inv X aa Y H' a:=by
 let⟨h',g',d',t',g⟩:=a;have e:g=s.os:=ho;subst e;exact I.call (g':=g') (t':=t') (d':=d') u d h f
end
abbrev XK:=Value->Option Addr->Hp->Prop
abbrev St:=List (Option V)
abbrev VK:=V->Hp->Prop
abbrev TE:=St->Hp->VK->Prop
abbrev TT:=St->Hp->(Bool->Hp->Prop)->Prop
abbrev TA:=St->Hp->(List V->Hp->Prop)->Prop
set_option genInjectivity false in
structure Ends where
 nx:St->Hp->Prop
 rt:VK
 bk:St->Hp->Prop:=λ _ _=>False
 ct:St->Hp->Prop:=λ _ _=>False
abbrev TS:=Ends->St->Hp->Prop
def EP(X:Cx)(c:List (Addr×Obj))(Y:St)(Q:VK)(u:Value)(b:Shared):Prop:=∃v a,Inv X c Y a b/\RelV v u/\Q v a
def TP(X:Cx)(d:List (Addr×Obj))(Y:St)(Q:Bool->Hp->Prop)(b:Bool)(c:Shared):Prop:=∃a,Inv X d Y a c/\Q b a
def AP(X:Cx)(d:List (Addr×Obj))(Y:St)(Q:List V->Hp->Prop)(us:List Value)(c:Shared):Prop:=∃a b,Inv X d Y b c/\Vals a us/\Q a b
def SP(X:Cx)(d:List (Addr×Obj))(D:Ends)(f:Flow)(c:Shared):Prop:=
 match f with
 |.next=>∃a b,Inv X d a b c/\D.nx a b
 |.brk=>∃a b,Inv X d a b c/\D.bk a b
 |.cont=>∃a b,Inv X d a b c/\D.ct a b
 |.ret u=>∃v a b,Inv X d a b c/\RelV v u/\D.rt v b
def PE(X:Cx)(e:Expr)(t:TE):Prop:=
 ∀(a:List (Addr×Obj)) (s:Shared) (Y:St) (H:Hp) (Q:VK),Inv X a Y H s->t Y H Q->wpAny (model X.prog X.w) X.A (eval e X.env) (EP X a Y Q) X.xe s
def PT(X:Cx)(e:Expr)(t:TT):Prop:=
 ∀(a:List (Addr×Obj)) (s:Shared) (Y:St) (H:Hp) (Q:Bool->Hp->Prop),Inv X a Y H s->t Y H Q->wpAny (model X.prog X.w) X.A (isTrue e X.env (eval e X.env)) (TP X a Y Q) X.xe s
def PW(X:Cx)(e:Expr)(t:TT):Prop:=
 ∀(a:Sem Value) (b:List (Addr×Obj)) (s:Shared) (Y:St) (H:Hp) (Q:Bool->Hp->Prop),Inv X b Y H s->t Y H Q->wpAny (model X.prog X.w) X.A (isTrue e X.env a) (TP X b Y Q) X.xe s
theorem PW.pt{X:Cx}{e:Expr}{t:TT}(h:PW X e t):PT X e t:=h _
def PA(X:Cx)(es:List Expr)(t:TA):Prop:=
 ∀(a:Pos) (b:List (Addr×Obj)) (s:Shared) (Y:St) (H:Hp) (Q:List V->Hp->Prop),Inv X b Y H s->t Y H Q->wpAny (model X.prog X.w) X.A (spliced (backTo a (starEach es X.env))) (AP X b Y Q) X.xe s
def PS(X:Cx)(st:Stmt)(t:TS):Prop:=
 ∀(a:List (Addr×Obj)) (s:Shared) (Y:St) (H:Hp) (D:Ends),Inv X a Y H s->t D Y H->wpAny (model X.prog X.w) X.A (exec st X.env) (SP X a D) X.xe s
def gF(X:Cx)(st:List Stmt)(t:TS):Prop:=
 ∀(a:List (Addr×Obj)) (s:Shared) (Y:St) (H:Hp) (D:Ends),Inv X a Y H s->t D Y H->wpAny (model X.prog X.w) X.A (execs st X.env) (SP X a D) X.xe s
theorem br{b:Type}{t:Sem b}{Q Q':b->Shared->Prop}{A:Around}{E:Value->Shared->Prop}{s:Shared}(h:wpAny M A t Q E s)(c:∀a s,Q a s->Q' a s):wpAny M A t Q' E s:=MV h c λ _ _ x=>x
end L2
namespace L2
open PySem PySem.Spec PyProof.Rows List
variable{H:Hp}{aa:List (Addr×Obj)}{pos:Pos}{s:Shared}{u:Value}{Y:St}
section
variable{X:Cx}
theorem bin{a b:Expr}{k tb:TE}(t:PE X a k)(r:PE X b tb){R:V->V->Hp->Prop}(I:Inv X aa Y H s)(h:k Y H λ x i=>tb Y i λ y c=>R x y c)
  {j:Type} {Q:j->Shared->Prop} {f:Value->Value->Sem j}
  (q:∀v u g x y c,Inv X aa Y c g->RelV x v->RelV y u->R x y c->wpAny (model X.prog X.w) X.A (f v u) Q X.xe g) :
  wpAny (model X.prog X.w) X.A (eval a X.env) (λ v e=>wpAny (model X.prog X.w) X.A (eval b X.env) (λ u d=>wpAny (model X.prog X.w) X.A (f v u) Q X.xe d) X.xe e) X.xe s:=by
 refine br (t aa s Y H _ I h) λ v l ⟨x,i,B,n,p⟩=>?_;refine br (r aa l Y i _ B p) λ u g ⟨y,c,z,m,o⟩=>?_;exact q v u g x y c z n m o
def JM(i:Nat):TE:=fun Y H Q=>∃v,Y[i]?=some (some v)/\Q v H
def tC(v:V):TE:=λ _ H Q=>Q v H
theorem qN{i:Nat}{x:Str}(n:X.N[i]?=some x)(g:BA X.env.scope x)(d:(x==("__debug__":Str))=false:=by decide)(f:(x==("__classdict__":Str))=false:=by decide):PE X (.Name x pos) (JM i):=by
 intro aa s Y H Q I h;let⟨v,e,h⟩:=h;let⟨m,j,k⟩:=I.loc;let⟨u,r,l⟩:=k i x v n e g;have b:EP X aa Y Q u s:=⟨v,H,I,r,h⟩;rcases l with⟨a,hm⟩ | ⟨a,c,hc,hcell⟩
 .exact wpAny_Name (wpAny_loadName_local I.ok.kind a j hm b) d
 .rcases a with a | a
  .exact wpAny_Name (wpAny_loadName_cell I.ok.kind a hc hcell b) d
  .exact wpAny_Name (wpAny_loadName_free I.ok.kind a hc hcell b f) d
theorem CY{i j pos}:PE X (.Constant (.int i) j pos) (tC (.int i)):=λ _ _ _ H _ I h=>wpAny_Constant_int ⟨.int i,H,I.tok _,⟨_,rfl⟩,h⟩
theorem GK{b j pos}:PE X (.Constant (.bool b) j pos) (tC (.bl b)):=λ _ _ _ H _ I h=>Constant_bool ⟨.bl b,H,I,rfl,h⟩
theorem CZ{j pos}:PE X (.Constant .none j pos) (tC .non):=λ _ _ _ H _ I h=>Constant_none ⟨.non,H,I,rfl,h⟩
theorem vS{x j pos}:PE X (.Constant (.str x) j pos) (tC (.str x)):=λ _ _ _ H _ I h=>Calls.Constant_str ⟨.str x,H,I.tok _,⟨_,rfl⟩,h⟩
def Gl(X:Cx)(x:Str):Prop:=X.env.kindOf x=some .globalImplicit
theorem dG{E:Value->Shared->Prop}{x:Str}{Q:Value->Shared->Prop}(I:Inv X aa Y H s)(b:Gl X x)(a:X.mg x=some u)(h:Q u s)
  (c:(x==("__debug__":Str))=false:=by decide):wpAny (model X.prog X.w) X.A (eval (.Name x pos) X.env) Q E s:=
 Pq I.ok.kind b (Calls.loadGlobal_global (by rw[I.ok.glob];exact I.mod.glob.keeps I.bk) a h) c
theorem gm{E:Value->Shared->Prop}{x:Str}{Q:Value->Shared->Prop}(I:Inv X aa Y H s)(d:Gl X x)(c:X.mg x=none)(a:bootBuiltins x=some u)(h:Q u s)
  (b:x≠"__name__":=by decide) (e:(x==("__debug__":Str))=false:=by decide):wpAny (model X.prog X.w) X.A (eval (.Name x pos) X.env) Q E s:=by
 let⟨i,g,f⟩:=I.mod.blt;exact Pq I.ok.kind d (Calls.loadGlobal_builtin (by rw[I.ok.glob];exact I.mod.glob.keeps I.bk) c (by rw[I.ok.blt];exact g.keeps I.bk) ((f x b).trans a) h) e
theorem iw{x:Str}{v:V}(b:Gl X x)(a:X.mg x=some u)(r:RelV v u)(c:(x==("__debug__":Str))=false:=by decide):PE X (.Name x pos) (tC v):=
 λ _ _ _ H _ I h=>dG I b a ⟨v,H,I,r,h⟩ c
theorem zx{x:Str}{v:V}(d:Gl X x)(c:X.mg x=none)(a:bootBuiltins x=some u)(r:RelV v u)(b:x≠"__name__":=by decide)(e:(x==("__debug__":Str))=false:=by decide):PE X (.Name x pos) (tC v):=
 λ _ _ _ H _ I h=>gm I d c a ⟨v,H,I,r,h⟩ b e
variable{a b:Expr}{ta tb:TE}{pos:Pos}
variable{tA Jc:TT}{rest:List Expr}
def JN(t u:TT):TT:=fun Y H Q=>t Y H λ c d=>if c=true then u Y d Q else Q false d
def LR(t u:TT):TT:=fun Y H Q=>t Y H λ c d=>if c=true then Q true d else u Y d Q
def JO(t:TT):TT:=fun Y H Q=>t Y H λ c d=>Q (!c) d
theorem zy(d:PT X a tA):PW X (.BoolOp .And [a] pos) tA:=by
 intro f aa s Y H Q I h;refine isTrue_and (br (d aa s Y H Q I h) λ c g e=>?_);cases c with
 |true=>exact isTrue_and_nil e
 |false=>exact e
theorem C0(d:PT X a tA):PW X (.BoolOp .Or [a] pos) tA:=by
 intro f aa s Y H Q I h;refine isTrue_or (br (d aa s Y H Q I h) λ c g e=>?_);cases c with
 |false=>exact isTrue_or_nil e
 |true=>exact e
theorem C1(k:PT X a tA)(j:PW X (.BoolOp .And (b::rest) pos) Jc):PW X (.BoolOp .And (a::b::rest) pos) (JN tA Jc):=by
 intro g aa s Y H Q I h;refine isTrue_and (br (k aa s Y H _ I h) λ c i ⟨f,e,d⟩=>?_);cases c with
 |true=>exact j g aa i Y f Q e d
 |false=>exact⟨f,e,d⟩
theorem GL(k:PT X a tA)(j:PW X (.BoolOp .Or (b::rest) pos) Jc):PW X (.BoolOp .Or (a::b::rest) pos) (LR tA Jc):=by
 intro g aa s Y H Q I h;refine isTrue_or (br (k aa s Y H _ I h) λ c i ⟨f,e,d⟩=>?_);cases c with
 |true=>exact⟨f,e,d⟩
 |false=>exact j g aa i Y f Q e d
theorem C2(d:PT X a tA):PT X (.UnaryOp .Not a pos) (JO tA):=by
 intro aa s Y H Q I h;exact isTrue_not (d aa s Y H (λ c e=>Q (!c) e) I h)
def GN(ta tb:TE):TE:=fun Y H Q=>ta Y H λ x d=>∃c,x=.bl c/\if c=true then tb Y d Q else Q (.bl false) d
def GO(ta:TE):TE:=fun Y H Q=>ta Y H λ x d=>∃c,x=.bl c/\Q (.bl (!c)) d
theorem vU{op}{t:TE}(h:PE X a t):PE X (.BoolOp op [a] pos) t:=λ aa s Y H Q I c=>BoolOp_one (h aa s Y H Q I c)
theorem C3(k:PE X a ta)(j:PE X (.BoolOp .And (b::rest) pos) tb):PE X (.BoolOp .And (a::b::rest) pos) (GN ta tb):=by
 intro aa s Y H Q I h;refine BoolOp_and (br (k aa s Y H _ I h) λ v g ⟨x,f,e,i,d⟩=>?_);let⟨c,rfl,d⟩:=d;cases i;refine ND ?_;cases c with
 |true=>exact j aa g Y f Q e d
 |false=>exact⟨.bl false,f,e,rfl,d⟩
theorem C4(f:PE X a ta):PE X (.UnaryOp .Not a pos) (GO ta):=by
 intro aa s Y H Q I h;refine UnaryOp_ (br (f aa s Y H _ I h) λ v j ⟨x,i,g,e,d⟩=>?_);let⟨c,rfl,d⟩:=d;cases e;exact not_of (ND ⟨.bl (!c),i,g,rfl,d⟩)
def LS(t:TT)(ta tb:TE):TE:=fun Y H Q=>t Y H λ c d=>if c=true then ta Y d Q else tb Y d Q
theorem vW{c:Expr}(j:PT X c tA)(l:PE X a ta)(k:PE X b tb):PE X (.IfExp c a b pos) (LS tA ta tb):=by
 intro aa s Y H Q I h;refine wpAny_IfExp (br (j aa s Y H _ I h) λ d e ⟨i,g,f⟩=>?_);cases d with
 |true=>exact l aa e Y i Q g f
 |false=>exact k aa e Y i Q g f
end
end L2
namespace L2
open PySem PySem.Spec PyProof.Rows List
variable{K:ae}{P:Program}{X:Cx}{e tg:Expr}{s:Shared}{u:Value}
def gk(K:ae)(H:Hp)(a:Addr)(xs:List V):Prop:=
 Rd H a (.lst xs)\/
  ∃(o:Obj) (b:Array Value) (n:Nat),K.lookup a=some o/\o.cls=.type "list"/\o.dict=none/\o.data=.seq b n/\b.size<=sizeLine/\Vals xs b.toList
def dQ(K:ae)(H:Hp)(a:Addr)(xs:List V):Prop:=
 Rd H a (.tup xs)\/
  ∃(o:Obj) (b:Array Value) (n:Nat),K.lookup a=some o/\o.cls=.type "tuple"/\o.data=.seq b n/\b.size<=sizeLine/\Vals xs b.toList
def JP:Value->Option V
 |.none=>some .non
 |.bool b=>some (.bl b)
 |.int i _=>some (.int i)
 |.str x _=>some (.str x)
 |.bytes b _=>some (.byt b)
 |.float b _=>some (.oH b)
 |.ref a=>some (.ref a)
 |.type n=>some (.ty n)
 |_=>none
theorem RelV.abs{x:V}(r:RelV x u):JP u=some x:=by
 cases x with
 |non=>cases r;rfl
 |bl _=>cases r;rfl
 |int _=>let⟨t,rfl⟩:=r;rfl
 |str _=>let⟨t,rfl⟩:=r;rfl
 |byt _=>let⟨t,rfl⟩:=r;rfl
 |oH _=>let⟨t,rfl⟩:=r;rfl
 |ref _=>cases r;rfl
 |ty _=>cases r;rfl
theorem RelV.inj{x y:V}(r:RelV x u)(q:RelV y u):x=y:=Nd (r.abs.symm.trans q.abs)
theorem Vals.inj{xs ys:List V}{us:List Value}(h:Vals xs us)(g:Vals ys us):xs=ys:=by
 induction h generalizing ys with
 |nil=>cases g;rfl
 |cons r t c=>cases g with | cons b a=>rw[r.inj b,c a]
section
variable{X:Cx}{aa:List (Addr×Obj)}{Y:St}{H:Hp}{s:Shared}{a:Addr}{xs ys:List V}
theorem dQ.of(h:H a=@(.tup xs)):dQ K H a xs:=.inl (.inl h)
theorem Inv.list(I:Inv X aa Y H s)(h:gk X.K H a xs):∃its:List Value,Vals xs its/\PlainL s.heap a its.toArray/\xs.length<=sizeLine:=by
 rcases h with h | ⟨o,its,n,b,hc,hd,hs,c,r⟩
 .let⟨z,its,n,r,e⟩:=h.ok I.hok;exact⟨its,r,⟨_,n,e,rfl,rfl,rfl⟩,z⟩
 .refine⟨its.toList,r,⟨o,n,I.eS a o b,hc,hd,~~~hs⟩,?_⟩;have e:=r.length;erw[Array.length_toList] at e;omega
theorem Inv.tuple(I:Inv X aa Y H s)(h:dQ X.K H a xs):∃its:List Value,Vals xs its/\IsTup s.heap a its.toArray/\xs.length<=sizeLine:=by
 rcases h with h | ⟨o,its,n,b,hc,hs,c,r⟩
 .let⟨z,its,r,p⟩:=h.ok I.hok;exact⟨its,r,p,z⟩
 .refine⟨its.toList,r,⟨o,I.eS a o b,hc,n,~~~hs⟩,?_⟩;have e:=r.length;erw[Array.length_toList] at e;omega
theorem Inv.oQ(I:Inv X aa Y H s)(h:gk X.K H a xs)(h':gk X.K H a ys):xs=ys:=by
 let⟨c,r,⟨o,n,e,_,_,d⟩,_⟩:=I.list h;let⟨b,i,⟨k,l,f,_,_,g⟩,_⟩:=I.list h';rw[e] at f;cases f;rw[d] at g;injection g with j _
 have:c=b:=by simpa using OE Array.toList j
 subst this;exact r.inj i
theorem Inv.lX(I:Inv X aa Y H s)(h:dQ X.K H a xs)(h':dQ X.K H a ys):xs=ys:=by
 let⟨c,r,⟨o,e,_,n,d⟩,_⟩:=I.tuple h;let⟨b,i,⟨k,f,_,l,g⟩,_⟩:=I.tuple h';rw[e] at f;cases f;rw[d] at g;injection g with j _
 have:c=b:=by simpa using OE Array.toList j
 subst this;exact r.inj i
end
abbrev Cx.gO(X:Cx)(E:Value->Shared->Prop):Cx:={X with xe:=E}
abbrev Cx.eN(X:Cx):Cx:=X.gO λ _ _=>False
theorem Cx.Ok.gO(a:X.Ok)(E:Value->Shared->Prop):(X.gO E).Ok:=
 ⟨a.mod,a.kind,a.glob,a.blt,a.above,a.inj,a.has,a.cab,a.hd,a.frames,a.stk,a.exf,a.bs,a.bsz,a.noex,a.exfs,a.g6,a.frf⟩
theorem Cx.Ok.cM{E:Value->Shared->Prop}(a:(X.gO E).Ok):X.Ok:=
 ⟨a.mod,a.kind,a.glob,a.blt,a.above,a.inj,a.has,a.cab,a.hd,a.frames,a.stk,a.exf,a.bs,a.bsz,a.noex,a.exfs,a.g6,a.frf⟩
section
variable{X:Cx}{aa:List (Addr×Obj)}{Y:St}{H:Hp}{s:Shared}{E:Value->Shared->Prop}
theorem Inv.gO(I:Inv X aa Y H s)(E:Value->Shared->Prop):Inv (X.gO E) aa Y H s:=⟨I.ok.gO E,I.os,I.bare,I.base,I.loc,I.cell,I.free,I.freeC,I.pin,I.hok,I.len⟩
theorem Inv.cM(I:Inv (X.gO E) aa Y H s):Inv X aa Y H s:=⟨I.ok.cM,I.os,I.bare,I.base,I.loc,I.cell,I.free,I.freeC,I.pin,I.hok,I.len⟩
theorem SP.cM{D:Ends}{f:Flow}{c:Shared}(h:SP (X.gO E) aa D f c):SP X aa D f c:=by
 cases f with
 |next=>let⟨a,b,I,q⟩:=h;exact⟨a,b,I.cM,q⟩
 |brk=>let⟨a,b,I,q⟩:=h;exact⟨a,b,I.cM,q⟩
 |cont=>let⟨a,b,I,q⟩:=h;exact⟨a,b,I.cM,q⟩
 |ret u=>let⟨v,a,b,I,r,q⟩:=h;exact⟨v,a,b,I.cM,r,q⟩
theorem PE.eN{t:TE}(h:PE X.eN e t):PE X e t:=λ aa s Y H Q I a=>
 MV (h aa s Y H Q (I.gO _) a) (λ _ _ ⟨v,c,b,r,q⟩=>⟨v,c,b.cM,r,q⟩) λ _ _ z=>False.elim z
theorem PT.eN{t:TT}(h:PT X.eN e t):PT X e t:=λ aa s Y H Q I a=>
 MV (h aa s Y H Q (I.gO _) a) (λ _ _ ⟨c,b,q⟩=>⟨c,b.cM,q⟩) λ _ _ z=>False.elim z
theorem gF.eN{st:List Stmt}{t:TS}(h:gF X.eN st t):gF X st t:=λ aa s Y H D I a=>
 MV (h aa s Y H D (I.gO _) a) (λ _ _ q=>q.cM) λ _ _ z=>False.elim z
end
section
variable{X:Cx}{st:Stmt}{rest:List Stmt}{t u:TS}{e:Expr}{te:TE}{pos:Pos}
def BC:TS:=λ D Y H=>D.nx Y H
def JQ(t u:TS):TS:=λ D Y H=>t {D with nx:=u D} Y H
theorem sE:gF X [] BC:=λ _ _ Y H _ I h=>Qi ⟨Y,H,I,h⟩
theorem vX(g:PS X st t)(d:gF X rest u):gF X (st::rest) (JQ t u):=by
 intro b s Y H D I h;refine wpAny_execs_cons (br (g b s Y H {D with nx:=u D} I h) λ f c q=>?_);cases f with
 |next=>
  let⟨a,j,i,q⟩:=q;exact d b c a j D i q
 |ret v=>exact q
 |brk=>exact q
 |cont=>exact q
theorem zA(a:PS X st t):gF X [st] t:=by
 intro b s Y H D I h;refine wpAny_execs_cons (br (a b s Y H D I h) λ f c q=>?_);cases f with
 |next=>exact Qi q
 |ret v=>exact q
 |brk=>exact q
 |cont=>exact q
def C5:TS:=λ D Y H=>D.bk Y H
def GP:TS:=λ D Y H=>D.ct Y H
theorem zB:PS X (.Pass pos) BC:=λ _ _ Y H _ I h=>wpAny_Pass ⟨Y,H,I,h⟩
theorem vY:PS X (.Break pos) C5:=λ _ _ Y H _ I h=>wpAny_Break ⟨Y,H,I,h⟩
theorem oR:PS X (.Continue pos) GP:=λ _ _ Y H _ I h=>wpAny_Continue ⟨Y,H,I,h⟩
theorem Inv.quiet{a:List (Addr×Obj)}{Y:St}{H:Hp}(I:Inv X a Y H s):interactive X.env=false:=by simp[interactive,I.ok.kind]
def GQ(te:TE):TS:=λ D Y H=>te Y H λ _ a=>D.nx Y a
theorem nG(c:PE X e te)(b:swapsWith e none pos.line X.env=pure false:=by rfl):PS X (.Expr e pos) (GQ te):=by
 intro d s Y H D I h;exact wpAny_Expr_any (br (c d s Y H _ I h) λ v i ⟨x,g,f,j,a⟩=>⟨Y,g,f,a⟩) I.quiet b
def JR(te:TE):TS:=λ D Y H=>te Y H D.rt
theorem qO(c:PE X e te):PS X (.Return (some e) pos) (JR te):=by
 intro d s Y H D I h;exact wpAny_Return_some (br (c d s Y H _ I h) λ v i ⟨x,g,f,a,b⟩=>⟨x,Y,g,f,a,b⟩)
def GR:TS:=λ D _ H=>D.rt .non H
theorem zC:PS X (.Return none pos) GR:=λ _ _ Y H _ I h=>wpAny_Return_none ⟨.non,Y,H,I,rfl,h⟩
def JS(c:TT)(t u:TS):TS:=λ D Y H=>c Y H λ b a=>if b=true then t D Y a else u D Y a
theorem GS{c:Expr}{a b:List Stmt}{g:TT}(m:PT X c g)(o:gF X a t)(n:gF X b u):PS X (.If c a b pos) (JS g t u):=by
 intro f s Y H D I h;refine wpAny_If (br (m f s Y H _ I h) λ d i ⟨l,k,j⟩=>?_);cases d with
 |true=>exact o f i Y l D k j
 |false=>exact n f i Y l D k j
def C6:TS:=λ _ _ _=>False
theorem vZ:PS X st C6:=λ _ _ _ _ _ _ h=>h.elim
end
abbrev TG:=V->St->Hp->(St->Hp->Prop)->Prop
abbrev zm:=List V->St->Hp->(St->Hp->Prop)->Prop
def PG(X:Cx)(a:Expr)(t:TG):Prop:=
 ∀(c:List (Addr×Obj)) (s:Shared) (Y:St) (H:Hp) (v:V) (u:Value) (Q:St->Hp->Prop),Inv X c Y H s->RelV v u->t v Y H Q->
  wpAny (model X.prog X.w) X.A (assign a X.env u) (λ _ f=>∃b d,Inv X c b d f/\Q b d) X.xe s
def qK(X:Cx)(ts:List Expr)(t:zm):Prop:=
 ∀(d:List (Addr×Obj)) (s:Shared) (Y:St) (H:Hp) (b:List V) (c:List Value) (Q:St->Hp->Prop),Inv X d Y H s->Vals b c->t b Y H Q->
  wpAny (model X.prog X.w) X.A (assignInOrder ((assignEach ts X.env).map (·.2)) c) (λ _ g=>∃a f,Inv X d a f g/\Q a f) X.xe s
abbrev C7:=V->V->V->Hp->(Hp->Prop)->Prop
def C8(X:Cx)(t:C7):Prop:=
 ∀(c:List (Addr×Obj)) (s:Shared) (Y:St) (H:Hp) (o i v:V) (a b u:Value) (Q:Hp->Prop),Inv X c Y H s->RelV o a->RelV i b->RelV v u->t o i v H Q->
  wpAny (model X.prog X.w) X.A (setItem a b u) (λ _ f=>∃d,Inv X c Y d f/\Q d) X.xe s
section
variable{X:Cx}{pos:Pos}
def BD(i:Nat):TG:=λ v Y H Q=>Q (Y.set i (some v)) H
theorem zD{i:Nat}{x:Str}(d:X.N.Nodup)(b:X.N[i]?=some x)(a:Loc X.env.scope x)(c:X.fn x=true\/X.env.scope.names.lookup x=some .local:=by first | exact .inl rfl | exact .inr rfl | assumption):PG X (.Name x pos) (BD i):=by
 intro j s Y H v u Q I r h;exact wpAny_assign_Name (jV I d b a r (λ g f=>⟨_,H,f,h⟩) c)
def JT:zm:=λ a Y H Q=>a=[]/\Q Y H
def GU(t:TG)(u:zm):zm:=λ b Y H Q=>∃v r,b=v::r/\t v Y H fun a c=>u r a c Q
theorem zE:qK X [] JT:=by
 intro c s Y H a b Q I r h;let⟨e,h⟩:=h;subst e;cases r;exact assignInOrder_nil ⟨Y,H,I,h⟩
theorem v7{es:List Expr}{t:TG}{u:zm}(j:PG X e t)(i:qK X es u)
  (g:(assignEach (e::es) X.env).map (·.2)=assign e X.env::(assignEach es X.env).map (·.2):=by rfl):qK X (e::es) (GU t u):=by
 intro b s Y H n p Q I r h;let⟨v,o,k,h⟩:=h;subst k;cases r with
 |cons r d=>
  rw[g];refine assignInOrder_cons (br (j b s Y H _ _ _ I r h) λ _ c ⟨a,m,l,f⟩=>?_);exact i b c a m _ _ Q l d f
def JU(K:ae)(n:Nat)(t:zm):TG:=λ v Y H Q=>∃a b,v=.ref a/\dQ K H a b/\b.length=n/\t b Y H Q
theorem C9{es:List Expr}{k:Nat}{t:zm}{n:Nat}(x:X.calm=true)(h:qK X es t)
  (q:(assignEach es X.env).length=n:=by rfl) (d:(assignEach es X.env).findIdx? (·.1)=none:=by rfl):PG X (.Tuple es k pos) (JU X.K n t):=by
 intro g s Y H v u Q I r c;let⟨a,i,z,p,w,c⟩:=c;subst z;cases r;let⟨j,f,m,B⟩:=I.tuple p;refine assign_Tuple_tuple (I.ok.hd x) m (by simp[q,<-w,f.length]) d λ y l=>?_;have A:Inv X g Y H {s with heap:=y}:=I.kept (t':=s.toks) λ b o e=>l b o (MQ (MI e)) e;exact h g _ Y H i _ Q A (~~~f) c
def JV(a b:TE)(t:C7):TG:=λ v Y H Q=>a Y H λ o f=>b Y f λ i d=>t o i v d λ c=>Q Y c
theorem Dc{o i:Expr}{d f:TE}{t:C7}(ho:PE X o d)(w:PE X i f)(q:C8 X t)
  (z:∀v,assign (.Subscript o i pos) X.env v=(do
   let a <-holding [v] (eval o X.env)
   let b <-holding [v,a] (eval i X.env)
   standAt pos
   holding [v,a,b] (setItem a b v)
   release [v,a,b] []):=by intro _;rfl):PG X (.Subscript o i pos) (JV d f t):=by
 intro c s Y H v u Q I r h;rw[z];refine MF (NG (br (ho c s Y H _ I h) λ a j ⟨x,F,C,l,p⟩=>?_));refine MF (NG (br (w c j Y F _ C p) λ b g ⟨y,E,B,k,n⟩=>?_));refine MF (NC (MF (NG (br (q c g Y E x y v a b u _ B l k r n) λ _ G ⟨D,A,m⟩=>?_))));exact wpAny_release ⟨Y,D,A,m⟩
def GV(a:TE)(g:TG):TS:=λ D Y H=>a Y H λ x b=>g x Y b D.nx
theorem qP{a:TE}{g:TG}(l:PE X e a)(k:PG X tg g)(j:swapsWithSole [tg] e pos.line X.env=pure false:=by rfl)(i:swappedStores [tg] e X.env=pure none:=by rfl)
  (m:(assignEach [tg] X.env).map (·.2)=[assign tg X.env]:=by rfl):PS X (.Assign [tg] e pos) (GV a g):=by
 intro b s Y H D I h;refine wpAny_Assign_stores (br (l b s Y H _ I h) λ v c ⟨x,o,n,d,f⟩=>?_) j i;rw[m];exact br (k b c Y o x v _ n d f) λ _ p q=>q
theorem Df{i:Nat}{x:Str}{b:TE}{a:Pos}(m:X.N.Nodup)(j:X.N[i]?=some x)(f:Loc X.env.scope x)(l:PE X e b)(g:swapsWith e @(.Name x a) pos.line X.env=pure false:=by rfl)(k:X.fn x=true\/X.env.scope.names.lookup x=some .local:=by first | exact .inl rfl | exact .inr rfl | assumption) :
  PS X (.Assign [.Name x a] e pos) (GV b (BD i)):=by
 intro n s Y H D I h;refine wpAny_Assign_Name (br (l n s Y H _ I h) λ v t ⟨y,q,p,c,d⟩=>?_) g;exact jV p m j f c (λ r o=>⟨_,q,o,d⟩) k
end
set_option genInjectivity false in
structure It where
 go:Nat->Hp->Prop
 yld:Nat->Hp->V->Hp->Prop
 stop:Nat->Hp->Prop
def iW(X:Cx)(a:List (Addr×Obj))(H:Hp)(b:Addr):Prop:=
 H b=none/\b≠X.env.locals/\b∉X.fs/\(b∈X.ex\/X.s₀⁻¹<=b)/\(∀x c,X.env.cells.lookup x=some c->c≠b)/\∀p∈X.pn++a,p.1≠b
theorem Inv.oS{d:List (Addr×Obj)}{Y:St}{H f:Hp}{b:Addr}(I:Inv X d Y H s)(a:s⁻¹<=b)(h:f b=none):iW X d f b:=by
 refine⟨h,NS (MO I.lt a),I.JL a,.inr (Na I.sz a),λ x c e z=>?_,λ p g z=>?_⟩
 .let⟨v,q⟩:=I.cell x c e;exact absurd (MO q.lt (by rw[z];exact a)) (Ol _)
 .exact absurd (MO (MI (I.pin p g).1) (by rw[z];exact a)) (Ol _)
structure Turn(P:Program)(w:World)(K:ae)(tg:Expr)(MD:It)(fp:List Addr)(it:Addr)(tn:Nat->Heap->Prop):Prop where
 mem:it∈fp
 obj:∀i h,tn i h->∀b∈fp,∃o,h.get? b=some o/\∀v,o.data≠.cell v
 keep:∀i h h',tn i h->(∀b∈fp,∀o,h.get? b=some o->h'.get? b=some o)->tn i h'
 item:∀(X:Cx),X.prog=P->X.w=w->X.K=K->X.calm=true->∀(i:Nat) (aa:List (Addr×Obj)) (s:Shared) (Y:St) (H:Hp) (E:Value->Shared->Prop),Inv X aa Y H s->(∀b∈fp,iW X aa H b)->tn i s.heap->MD.go i H->
  wpAny (model P w) X.A (pyNext (.ref it)) (λ r s1=>∃u,r=some u/\
   wpAny (model P w) X.A (letOwnedTupleGo tg (.ref it) u) (λ _ s2=>∃x H',Inv X aa Y H' s2/\RelV x u/\MD.yld i H x H'/\tn (i+1) s2.heap/\∀b∈fp,H' b=none) E s1) E s
 done:∀(X:Cx),X.prog=P->X.w=w->X.K=K->X.calm=true->∀(i:Nat) (aa:List (Addr×Obj)) (s:Shared) (Y:St) (H:Hp) (E:Value->Shared->Prop),Inv X aa Y H s->(∀b∈fp,iW X aa H b)->tn i s.heap->MD.stop i H->
  wpAny (model P w) X.A (pyNext (.ref it)) (λ r s1=>r=none/\Inv X aa Y H s1) E s
 self:∀(A:Around) (i:Nat) (s:Shared) (Q:Value->Shared->Prop) (E:Value->Shared->Prop),tn i s.heap->Q (.ref it) s->wpAny (model P w) A (pyIter (.ref it)) Q E s
abbrev TI:=St->Hp->(It->Hp->Prop)->Prop
def Ld(X:Cx)(i:List (Addr×Obj))(Y:St)(tg:Expr)(R:It->Hp->Prop)(a:Value)(f:Shared):Prop:=
 ∃(g:Addr) (h:List Addr) (d:Nat->Heap->Prop) (j:It) (c:Hp),a=.ref g/\Inv X i Y c f/\Turn X.prog X.w X.K tg j h g d/\d 0 f.heap/\(∀b∈h,iW X i c b)/\R j c
def PI(X:Cx)(tg a:Expr)(c:TI):Prop:=
 ∀(b:List (Addr×Obj)) (s:Shared) (Y:St) (H:Hp) (R:It->Hp->Prop),Inv X b Y H s->c Y H R->
  wpAny (model X.prog X.w) X.A (eval a X.env) (λ v d=>wpAny (model X.prog X.w) X.A (pyIter v) (Ld X b Y tg R) X.xe d) X.xe s
theorem sF{M:Model}{A:Around}{E:Value->Shared->Prop}{it:Addr}{o:Obj}{n:String}{vs:Array Value}{Q:Unit->Shared->Prop}(ho:s.heap.get? it=some o)(d:o.cls=.type n)(c:o.data=.fields vs)
  (b:["enumerate","zip","dict_itemiterator","dict_reverseitemiterator","odict_iterator","itertools.zip_longest","itertools.pairwise"].contains n=false) (a:Q () s):wpAny M A (letOwnedTupleGo tg (.ref it) u) Q E s:=by
 unfold letOwnedTupleGo;cases tg<;>first
  |exact MP a
  |(cases u<;>first
    |exact MP a
    |(refine MF (wpAny_load ho ?_);rw[d,c];show wpAny M A (if (["enumerate","zip","dict_itemiterator","dict_reverseitemiterator","odict_iterator","itertools.zip_longest","itertools.pairwise"].contains n&&vs[0]?==@(rawInt _))=true then _ else _) Q E s;rw[M8 (by intro h;rw[b,Bool.false_and] at h;cases h)];exact MP a))
def Jd(K:ae)(a:Addr):It:=
 ⟨λ i H=>∃b x,gk K H a b/\b[i]?=some x,λ i H x c=>c=H/\∀b,gk K H a b->b[i]?=some x,λ i H=>∃b,gk K H a b/\b.length<=i⟩
def JW(K:ae)(a:Addr):It:=
 ⟨λ i H=>∃b x,dQ K H a b/\b[i]?=some x,λ i H x c=>c=H/\∀b,dQ K H a b->b[i]?=some x,λ i H=>∃b,dQ K H a b/\b.length<=i⟩
def GW(lo:Int)(n:Nat):It:=⟨λ i _=>i<n,λ i H x a=>a=H/\x=.int (lo+i),λ i _=>n<=i⟩
theorem uu{w:World}(a it:Addr):Turn P w K tg (Jd K a) [it] it (λ i h=>h.IsListIter it a i) where
 mem:=by simp
 obj:=λ i h st b f=>by
  have e:b=it:=by simpa using f
  subst e;let⟨o,e,c,d⟩:=st;exact⟨o,e,λ v z=>by rw[d] at z;cases z⟩
 keep:=λ i h l st k=>st.at λ o e=>k it 's' o e
 item:=by
  intro X r hw t hc i B s Y H E I hf st q;subst r hw t;let⟨xs,x,j,n⟩:=q;let⟨its,m,p,F⟩:=I.list j;let⟨u,J,D⟩:=m.get n;let⟨f0,f1,f2,A,f4,y⟩:=hf it 's';refine PZ st p.isList (x:=u) (~~~J) λ l g C=>?_;have M:Inv X B Y H {s with heap:=l}:=I.turned (t':=s.toks) (λ b o f e=>(C.2 b f).trans e) f0 f1 A f4 y;let⟨o,e,c,d⟩:=id g;exact⟨u,rfl,sF (s:={s with heap:=l}) e c d 'd' ⟨x,H,M,D,⟨rfl,λ N G=>by rw[I.oQ G j];exact n⟩,g,λ b f=>(hf b f).1⟩⟩
 done:=by
  intro X r hw t hc i B s Y H E I hf st q;subst r hw t;let⟨xs,j,n⟩:=q;let⟨its,m,p,F⟩:=I.list j;let⟨f0,f1,f2,A,f4,y⟩:=hf it 's';have O:=m.length;exact wpAny_pyNext_list_end (I.ok.hd hc) st p.isList (by simp;omega) λ l L=>⟨rfl,I.turned (t':=s.toks) (λ b o f e=>L b o f e) f0 f1 A f4 y⟩
 self:=λ _ _ _ _ _ st h=>wpAny_pyIter_listiter st h
theorem qQ{w:World}(a it:Addr):Turn P w K tg (JW K a) [it] it (λ i h=>h.IsTupleIter it a i) where
 mem:=by simp
 obj:=λ i h st b f=>by
  have e:b=it:=by simpa using f
  subst e;let⟨o,e,c,d⟩:=st;exact⟨o,e,λ v z=>by rw[d] at z;cases z⟩
 keep:=λ i h l st k=>st.at λ o e=>k it 's' o e
 item:=by
  intro X r hw t hc i B s Y H E I hf st q;subst r hw t;let⟨xs,x,j,n⟩:=q;let⟨its,m,p,F⟩:=I.tuple j;let⟨u,J,D⟩:=m.get n;let⟨f0,f1,f2,A,f4,y⟩:=hf it 's';refine wpAny_pyNext_tuple_item st (show s.heap.IsTuple a its.toArray from p) (x:=u) (~~~J) λ l g C=>?_;have M:Inv X B Y H {s with heap:=l}:=I.turned (t':=s.toks) (λ b o f e=>(C.2 b f).trans e) f0 f1 A f4 y;let⟨o,e,c,d⟩:=id g;exact⟨u,rfl,sF (s:={s with heap:=l}) e c d 'd' ⟨x,H,M,D,⟨rfl,λ N G=>by rw[I.lX G j];exact n⟩,g,λ b f=>(hf b f).1⟩⟩
 done:=by
  intro X r hw t hc i B s Y H E I hf st q;subst r hw t;let⟨xs,j,n⟩:=q;let⟨its,m,p,F⟩:=I.tuple j;let⟨f0,f1,f2,A,f4,y⟩:=hf it 's';have O:=m.length;exact wpAny_pyNext_tuple_end (I.ok.hd hc) st (show s.heap.IsTuple a its.toArray from p) (by simp;omega) λ l L=>⟨rfl,I.turned (t':=s.toks) (λ b o f e=>L b o f e) f0 f1 A f4 y⟩
 self:=λ _ _ _ _ _ st h=>wpAny_pyIter_tupleiter st h
theorem qR{w:World}(it:Addr)(lo:Int)(n:Nat):Turn P w K tg (GW lo n) [it] it (λ i h=>IsRangeIter h it (lo+(i:Nat)*1) ((n:Int) - (i:Nat)) 1) where
 mem:=by simp
 obj:=λ i h st b a=>by
  have e:b=it:=by simpa using a
  subst e;exact⟨_,st,λ v z=>by
   have r:Data.fields _=Data.cell v:=z;cases r⟩
 keep:=λ i h d st k=>k it 's' _ st
 item:=by
  intro X g hw j hc i q s Y H E I hf st f;subst g hw j;let⟨f0,f1,f2,m,f4,l⟩:=hf it 's';have W:=Walks.range (prog:=X.prog) (w:=X.w) (I.ok.hd hc) it lo 1 n;refine W.item i s _ _ f st λ v d p x c kk=>?_;let⟨t,rfl⟩:=x;have A:Inv X q Y H {s with heap:=d,toks:=p}:=I.turned (λ b o a e=>kk b o (~~~a) e) f0 f1 m f4 l;refine⟨_,rfl,sF (s:={s with heap:=d,toks:=p}) (n:="range_iterator") c rfl rfl 'd' ⟨.int (lo+i),H,A,⟨t,?_⟩,⟨rfl,rfl⟩,c,λ b a=>(hf b a).1⟩⟩;rw[Int.mul_one]
 done:=by
  intro X g hw j hc i q s Y H E I hf st f;subst g hw j;let⟨f0,f1,f2,m,f4,l⟩:=hf it 's';exact wpAny_pyNext_range_end (I.ok.hd hc) st (by have:n<=i:=f;omega) λ d y=>⟨rfl,I.turned (t':=s.toks) (λ b o a e=>y b o a e) f0 f1 m f4 l⟩
 self:=λ _ _ _ _ _ st h=>wpAny_pyIter_rangeiter st h
end L2
namespace L2
open PySem PySem.Spec PyProof.Rows List
variable{H:Hp}{fp:List Addr}{aa:List (Addr×Obj)}{pos:Pos}{s:Shared}{Y:St}
section
variable{X:Cx}{tg:Expr}
def GX(K:ae)(d:TE):TI:=fun Y H R=>d Y H λ x b=>∃a,x=.ref a/\(∃c,gk K b a c)/\R (Jd K a) b
def JX(K:ae)(d:TE):TI:=fun Y H R=>d Y H λ x b=>∃a,x=.ref a/\(∃c,dQ K b a c)/\R (JW K a) b
theorem zF{l:Expr}{f:TE}(m:PE X l f):PI X tg l (GX X.K f):=by
 intro aa s Y H R I h;refine br (m aa s Y H _ I h) λ v c ⟨x,r,d,g,i⟩=>?_;let⟨a,e,⟨t,k⟩,q⟩:=i;subst e;cases g;let⟨j,u,p,w⟩:=d.list k;refine OS p.isList ?_;refine⟨c⁻¹,[c⁻¹],_,_,r,rfl,d.kept (t':=c.toks) λ b o e=>MH _ e,uu a _,⟨_,MR _ rfl,rfl,rfl⟩,λ b n=>?_,q⟩;have e:b=c⁻¹:=by simpa using n
 subst e;exact d.oS (MK _) (d.hok.fresh (MK _))
theorem Dg{l:Expr}{g:TE}(m:PE X l g):PI X tg l (JX X.K g):=by
 intro aa s Y H R I h;refine br (m aa s Y H _ I h) λ v c ⟨x,r,d,i,j⟩=>?_;let⟨a,e,⟨t,k⟩,q⟩:=j;subst e;cases i;let⟨f,u,p,w⟩:=d.tuple k;refine Pr (show c.heap.IsTuple a f.toArray from p) ?_;refine⟨c⁻¹,[c⁻¹],_,_,r,rfl,d.kept (t':=c.toks) λ b o e=>MH _ e,qQ a _,⟨_,MR _ rfl,rfl,rfl⟩,λ b n=>?_,q⟩;have e:b=c⁻¹:=by simpa using n
 subst e;exact d.oS (MK _) (d.hok.fresh (MK _))
theorem oU{R:It->Hp->Prop}{E:Value->Shared->Prop}{lo a:Int}{t u v:Tok}{tk:Nat}(I:Inv X aa Y H s)(i:-(2^62)<=lo)(h:lo<2^62)(g:-(2^62)<=a)(f:a<2^62)
  (q:R (GW lo (a - lo).toNat) H):wpAny (model X.prog X.w) X.A (pyIter (.ref s⁻¹)) (Ld X aa Y tg R) E {s with heap:=s.heap.push {cls:=.type "range",data:=.fields #[.int lo t,.int a u,.int 1 v]},toks:=tk}:=by
 refine wpAny_pyIter_range (IsRange.new ..) (small_one i h g f) ?_;have c:Inv X aa Y H {s with heap:=s.heap.push {cls:=.type "range",data:=.fields #[.int lo t,.int a u,.int 1 v]},toks:=tk}:=I.kept λ b o e=>MH _ e;refine⟨(s.heap.push {cls:=.type "range",data:=.fields #[.int lo t,.int a u,.int 1 v]}).objs.size,[(s.heap.push {cls:=.type "range",data:=.fields #[.int lo t,.int a u,.int 1 v]}).objs.size],_,_,H,rfl,
  c.kept (t':=tk) λ b o e=>MH _ e,qR _ lo (a - lo).toNat,?_,λ b d=>?_,q⟩
 .have k:lo+((0:Nat):Int)*1=lo:=by simp
  have j:(((a - lo).toNat:Nat):Int) - ((0:Nat):Int)=Builtin.Range.rangeSize lo a 1:=by rw[rangeSize_one];split<;>omega
  show IsRangeIter _ _ (lo+((0:Nat):Int)*1) ((((a - lo).toNat:Nat):Int) - ((0:Nat):Int)) 1;rw[k,j];exact MR _ rfl
 .have e:b=(s.heap.push {cls:=.type "range",data:=.fields #[.int lo t,.int a u,.int 1 v]}).objs.size:=by simpa using d
  subst e;exact c.oS (MK _) (c.hok.fresh (MK _))
def GY(b:TA):TI:=fun Y H R=>b Y H λ a c=>∃j:Int,a=[.int j]/\-(2^62)<=j/\j<2^62/\R (GW 0 j.toNat) c
def GZ(b:TA):TI:=fun Y H R=>b Y H λ a c=>∃i j:Int,a=[.int i,.int j]/\(-(2^62)<=i/\i<2^62/\-(2^62)<=j/\j<2^62)/\R (GW i (j - i).toNat) c
theorem uv{a:Expr}{c:TA}{p:Pos}(l:Gl X "range")(k:X.mg "range"=none)(m:PA X [a] c)(i:starEach [a] X.env=[(false,eval a X.env)]:=by rfl):PI X tg (.Call (.Name "range" p) [a] [] pos) (GY c):=by
 intro aa s Y H R I h;refine Call_ (gm I l k boot_range (NJ (br (m pos aa s Y H _ I h) λ u v ⟨o,w,n,f,b⟩=>?_) i rfl));let⟨j,e,b,g,q⟩:=b;subst e;cases f with
 |cons r d=>
  cases d;let⟨t,rfl⟩:=r;exact call_range_1 (oU n 'o' 'o' b g (~~~q))
theorem uw{a b:Expr}{g:TA}{p:Pos}(w:Gl X "range")(v:X.mg "range"=none)(x:PA X [a,b] g)(u:starEach [a,b] X.env=[(false,eval a X.env),(false,eval b X.env)]:=by rfl)(c:starEach [b] X.env=[(false,eval b X.env)]:=by rfl) :
  PI X tg (.Call (.Name "range" p) [a,b] [] pos) (GZ g):=by
 intro aa s Y H R I h;refine Call_ (gm I w v boot_range (NJ (br (x pos aa s Y H _ I h) λ A C ⟨z,D,y,k,f⟩=>?_) (by rw[u,c]) (by rw[c];rfl)));let⟨i,j,e,⟨f,o,n,m⟩,q⟩:=f;subst e;cases k with
 |cons r d=>
  cases d with
  |cons l d=>
   cases d;let⟨t,rfl⟩:=r;let⟨B,rfl⟩:=l;exact call_range_2 (oU y f o n m q)
def JY(f:TI)(g:TG)(tb:TS):TS:=λ D Y H=>f Y H λ d j=>∃W:Nat->Nat->St->Hp->Prop,(∃m,W 0 m Y j)/\∀i m Y H,W i m Y H->
 (d.stop i H/\D.nx Y H)\/(d.go i H/\∃N:St->Hp->Prop,(∀a b,N a b->∃e,e<m/\W (i+1) e a b)/\∀x b,d.yld i H x b->g x Y b fun c h=>tb {D with nx:=N,ct:=N,bk:=D.nx} c h)
def jW(fp:List Addr)(h:Heap):List (Addr×Obj):=fp.filterMap λ b=>(h.get? b).map λ o=>(b,o)
theorem fV{h:Heap}{b:Addr}{o:Obj}(a:b∈fp)(e:h.get? b=some o):(b,o)∈jW fp h:=List.mem_filterMap.mpr ⟨b,a,by rw[e];rfl⟩
theorem ux{h:Heap}{p:Addr×Obj}(a:p∈jW fp h):p.1∈fp/\h.get? p.1=some p.2:=by
 let⟨b,c,e⟩:=List.mem_filterMap.mp a;cases q:h.get? b with
 |none=>rw[q] at e;cases e
 |some o=>
  rw[q] at e;have d:(b,o)=p:=Nd e;subst d;exact⟨c,q⟩
theorem Inv.pinned(I:Inv X aa Y H s)(g:∀b∈fp,iW X aa H b)(ho:∀b∈fp,∃o,s.heap.get? b=some o/\∀v,o.data≠.cell v):Inv X (aa++jW fp s.heap) Y H s:=
 I.sD λ p f=>(Nc.mp f).elim (λ z=>I.pin p (Nq _ z)) λ z=>by
  let⟨a,e⟩:=ux z;let⟨j,i,h,_⟩:=g p.1 a;let⟨o,c,d⟩:=ho p.1 a;rw[e] at c;cases c;exact⟨e,j,i,h,d⟩
theorem Inv.iy{a:List (Addr×Obj)}(I:Inv X (aa++a) Y H s):Inv X aa Y H s:=I.sD λ p b=>I.pin p (Nq _ (NY _ b))
theorem Dh{j:Expr}{body:List Stmt}{R:TI}{g:TG}{tb:TS}(G:PassesOwn (model X.prog X.w) X.A X.env X.xe)(hc:X.calm=true)(hi:PI X tg j R)(hg:PG X tg g)(k:gF X body tb)
  (hs:∀x,foldedSetIterable j X.env x=pure x:=by intro _;rfl):PS X (.For tg j body [] pos) (JY R g tb):=by
 intro aa s Y H D I h;refine wpAny_For (br (hi aa s Y H _ I h) λ v s1 h1=>br h1 λ itv s2 h2=>?_) hs;let⟨it,fp,S,MD,H2,e,I2,T,M,f2,W,⟨m0,w0⟩,C⟩:=h2;subst e;have c:∀{y:Hp},(∀b∈fp,y b=none)->∀b∈fp,iW X aa y b:=λ hn b k=>⟨hn b k,(f2 b k).2⟩;refine codeAny_forLoop_any (λ n Z=>∃i a y,Inv X aa a y Z/\S i Z.heap/\(∀b∈fp,y b=none)/\W i n a y) ?_ m0 ⟨0,Y,H2,I2,M,λ b k=>(f2 b k).1,w0⟩;rintro n V ⟨i,K,L,I3,E,J,w3⟩;rcases C i n K L w3 with⟨stop,qn⟩ | ⟨go,N,hN,step⟩
 .refine OI G (br (T.done X rfl rfl rfl hc i aa V K L X.xe I3 (c J) E stop) λ r s4 ⟨P,I4⟩=>?_);subst P;exact Qi ⟨K,L,I4,qn⟩
 .refine OI G (br (T.item X rfl rfl rfl hc i aa V K L X.xe I3 (c J) E go) λ r s4 ⟨u,P,h4⟩=>?_);subst P;refine OI G (br h4 λ _ U ⟨x,H5,I5,r5,y5,B,Q⟩=>?_);have LU:=I5.pinned (c Q) (T.obj _ _ B);refine OI G (br (hg _ U K H5 x u _ LU r5 (step x H5 y5)) λ _ s6 ⟨Y6,H6,I6,q6⟩=>?_);refine OI G (br (k _ s6 Y6 H6 _ I6 q6) λ f O z=>?_);have l:∀{p:St} {t:Hp},Inv X (aa++jW fp U.heap) p t O->N p t->Exists λ m=>m<n/\∃i a y,Inv X aa a y O/\S i O.heap/\(∀b∈fp,y b=none)/\W i m a y:=λ {p t} q F=>by
   let⟨m',hm,w7⟩:=hN p t F;refine⟨m',hm,i+1,p,t,q.iy,T.keep _ _ _ B λ b k o e=>(q.pin (b,o) (Nq _ (Nq _ (fV k e)))).1,λ b k=>?_,w7⟩;let⟨o,e,d⟩:=T.obj _ _ B b k;exact(q.pin (b,o) (Nq _ (Nq _ (fV k e)))).2.1
  cases f with
  |next=>let⟨p,t,q,F⟩:=z;exact l q F
  |cont=>let⟨p,t,q,F⟩:=z;exact l q F
  |brk=>let⟨p,t,q,z⟩:=z;exact⟨p,t,q.iy,z⟩
  |ret v=>let⟨x7,p,t,q,r7,z⟩:=z;exact⟨x7,p,t,q.iy,r7,z⟩
end
end L2
namespace L2
open PySem PySem.Spec PyProof.Rows List
variable{f:Value->Value->Sem Value}{op:CmpOp}
abbrev R2:=V->V->Hp->VK->Prop
def fu(X:Cx)(f:Value->Value->Sem Value)(r:R2):Prop:=
 ∀(a:List (Addr×Obj)) (s:Shared) (Y:St) (H:Hp) (x y:V) (v u:Value) (Q:VK),Inv X a Y H s->RelV x v->RelV y u->r x y H Q->
  wpAny (model X.prog X.w) X.A (f v u) (EP X a Y Q) X.xe s
def JZ(X:Cx)(f:Value->Sem Value)(r:V->Hp->VK->Prop):Prop:=
 ∀(a:List (Addr×Obj)) (s:Shared) (Y:St) (H:Hp) (x:V) (v:Value) (Q:VK),Inv X a Y H s->RelV x v->r x H Q->
  wpAny (model X.prog X.w) X.A (f v) (EP X a Y Q) X.xe s
def cg(X:Cx)(f:Value)(r:List V->Hp->VK->Prop):Prop:=
 ∀(c:List (Addr×Obj)) (s:Shared) (Y:St) (H:Hp) (a:List V) (b:List Value) (Q:VK),Inv X c Y H s->Vals a b->r a H Q->
  wpAny (model X.prog X.w) X.A (call f b) (EP X c Y Q) X.xe s
def J0(X:Cx)(r:V->Hp->(Bool->Hp->Prop)->Prop):Prop:=
 ∀(a:List (Addr×Obj)) (s:Shared) (Y:St) (H:Hp) (x:V) (v:Value) (Q:Bool->Hp->Prop),Inv X a Y H s->RelV x v->r x H Q->
  wpAny (model X.prog X.w) X.A (truthy v) (TP X a Y Q) X.xe s
def Je(r:R2)(a tb:TE):TE:=fun Y H Q=>a Y H λ x c=>tb Y c λ y b=>r x y b Q
def LV(r:V->Hp->VK->Prop)(a:TE):TE:=fun Y H Q=>a Y H λ x b=>r x b Q
def rI(C:Int->Int->Prop)(g:Int->Int->V):R2:=λ x y H Q=>∃i j,x=.int i/\y=.int j/\C i j/\Q (g i j) H
def zG(g:Int->Int->V):R2:=λ x y H Q=>∃i j,x=.int i/\y=.int j/\Q (g i j) H
def rU(g:Int->V):V->Hp->VK->Prop:=λ x H Q=>∃i,x=.int i/\Q (g i) H
section
variable{X:Cx}{a b c:Expr}{ta tb tc:TE}{pos:Pos}
theorem Di(t:PE X a ta)(r:PE X b tb){j:List (Addr×Obj)}{s:Shared}{Y:St}{H:Hp}{R:V->V->Hp->Prop}(I:Inv X j Y H s)
  (h:ta Y H λ x k=>tb Y k λ y d=>R x y d) {Q:Value->Shared->Prop}
  (q:∀v u i x y d,Inv X j Y d i->RelV x v->RelV y u->R x y d->wpAny (model X.prog X.w) X.A (f v u) Q X.xe i) :
  wpAny (model X.prog X.w) X.A (eval a X.env) (λ v g=>wpAny (model X.prog X.w) X.A (eval b X.env) (λ u e=>wpAny (model X.prog X.w) X.A (f v u) Q X.xe e) X.xe g) X.xe s:=by
 refine br (t j s Y H _ I h) λ v l ⟨x,k,B,n,p⟩=>?_;refine br (r j l Y k _ B p) λ u i ⟨y,d,z,m,o⟩=>?_;exact q v u i x y d z n m o
theorem G0{op:Operator}{r:R2}(ho:fu X (binaryOp op) r)(j:PE X a ta)(i:PE X b tb):PE X (.BinOp a op b pos) (Je r ta tb):=by
 intro k s Y H Q I h;exact wpAny_BinOp (Di j i I h λ v u d x y m l g e q=>ho k d Y m x y v u Q l g e q)
theorem G1{op:UnaryOp}{r:V->Hp->VK->Prop}(ho:JZ X (unaryOp op) r)(j:PE X a ta):PE X (.UnaryOp op a pos) (LV r ta):=by
 intro d s Y H Q I h;exact UnaryOp_ (br (j d s Y H _ I h) λ v e ⟨x,l,k,g,i⟩=>ho d e Y l x v Q k g i)
theorem Fx{C:Int->Int->Prop}{g:Int->Int->Int}
  (d:∀(i j:Int) (t u:Tok) (s:Shared) (Q:Value->Shared->Prop) (E:Value->Shared->Prop),C i j->Q (.int (g i j) s.toks) {s with toks:=s.toks+1}->wpAny (model X.prog X.w) X.A (f (.int i t) (.int j u)) Q E s) :
  fu X f (rI C λ i j=>.int (g i j)):=by
 intro n s Y H x y v u Q I l k h;let⟨i,j,rfl,rfl,m,q⟩:=h;let⟨t,rfl⟩:=l;let⟨e,rfl⟩:=k;exact d i j t e s _ _ m ⟨.int (g i j),H,I.tok _,⟨_,rfl⟩,q⟩
theorem Dj{g:Int->Int->Int}
  (d:∀(i j:Int) (t u:Tok) (s:Shared) (Q:Value->Shared->Prop) (E:Value->Shared->Prop),Q (.int (g i j) s.toks) {s with toks:=s.toks+1}->wpAny (model X.prog X.w) X.A (f (.int i t) (.int j u)) Q E s) :
  fu X f (zG λ i j=>.int (g i j)):=by
 intro m s Y H x y v u Q I l k h;let⟨i,j,rfl,rfl,q⟩:=h;let⟨t,rfl⟩:=l;let⟨e,rfl⟩:=k;exact d i j t e s _ _ ⟨.int (g i j),H,I.tok _,⟨_,rfl⟩,q⟩
theorem zH{g:Int->Int->Bool}
  (d:∀(i j:Int) (t u:Tok) (s:Shared) (Q:Value->Shared->Prop) (E:Value->Shared->Prop),Q (.bool (g i j)) s->wpAny (model X.prog X.w) X.A (f (.int i t) (.int j u)) Q E s) :
  fu X f (zG λ i j=>.bl (g i j)):=by
 intro m s Y H x y v u Q I l k h;let⟨i,j,rfl,rfl,q⟩:=h;let⟨t,rfl⟩:=l;let⟨e,rfl⟩:=k;exact d i j t e s _ _ ⟨.bl (g i j),H,I,rfl,q⟩
def G2(i j:Int):Prop:=0<j/\j<1073741824
def G3(i j:Int):Prop:=0<=j/\j<=1000000/\i.natAbs<2^64
def zI(i j:Int):Prop:=(-(2^64)<i/\i<2^64)\/(-(2^64)<j/\j<2^64)
theorem zI.ok{i j:Int}(h:zI i j):IntMulOk i j:=by
 rcases h with⟨e,d⟩ | ⟨e,d⟩
 .exact .of_left (intBits_le_64 e d)
 .exact .of_right (intBits_le_64 e d)
theorem qS(k:Nat):(0:Int)<=2^k:=by
 rw[two_pow_cast];exact Int.natCast_nonneg _
theorem Dk:fu X (binaryOp .Add) (zG λ i j=>.int (i+j)):=Dj λ _ _ _ _ _ _ _ q=>add_int q
theorem Dm:fu X (binaryOp .Sub) (zG λ i j=>.int (i - j)):=Dj λ _ _ _ _ _ _ _ q=>sub_int q
theorem Dn:fu X (binaryOp .Mult) (rI zI λ i j=>.int (i*j)):=Fx λ _ _ _ _ _ _ _ d q=>mul_int q d.ok
theorem zJ:fu X (binaryOp .FloorDiv) (rI G2 λ i j=>.int (i / j)):=Fx λ i j _ _ _ _ _ d q=>by
 have g:(0:Int)<j:=d.1;have e:j<1073741824:=d.2;exact floordiv_int 'o' (by rw[Ow i 'o'];exact q) (.inl (P9 'o'))
theorem Dp:fu X (binaryOp .Mod) (rI (λ _ j=>0<j) λ i j=>.int (i%j)):=Fx λ i j _ _ _ _ _ d q=>by
 have e:(0:Int)<j:=d;exact mod_int' 'o' (by rw[Pu i 'o'];exact q)
theorem Dq:fu X (binaryOp .Pow) (rI G3 λ i j=>.int (i^j.toNat)):=Fx λ _ _ _ _ _ _ _ d q=>pow_int_small d.1 d.2.1 d.2.2 q
theorem Dr:fu X (binaryOp .LShift) (rI G3 λ i j=>.int (i*2^j.toNat)):=Fx λ _ _ _ _ _ _ _ d q=>lshift_int_small d.1 d.2.1 d.2.2 q
theorem Ds:fu X (binaryOp .RShift) (rI (λ _ j=>0<=j) λ i j=>.int (i / 2^j.toNat)):=Fx λ i j _ _ _ _ _ d q=>
 rshift_int d (by rw[Ow i (qS _)];exact q)
theorem Du:fu X (binaryOp .BitAnd) (zG λ i j=>.int (Builtin.bitAnd i j)):=Dj λ _ _ _ _ _ _ _ q=>and_int q
theorem LW{f:Value->Sem Value}{g:Int->Int}
  (d:∀(i:Int) (t:Tok) (s:Shared) (Q:Value->Shared->Prop) (E:Value->Shared->Prop),Q (.int (g i) s.toks) {s with toks:=s.toks+1}->wpAny (model X.prog X.w) X.A (f (.int i t)) Q E s) :
  JZ X f (rU λ i=>.int (g i)):=by
 intro j s Y H x v Q I e h;let⟨i,rfl,q⟩:=h;let⟨t,rfl⟩:=e;exact d i t s _ _ ⟨.int (g i),H,I.tok _,⟨_,rfl⟩,q⟩
theorem Dv:JZ X (unaryOp .USub) (rU λ i=>.int (-i)):=LW λ _ _ _ _ _ q=>neg_int q
end
section
variable{X:Cx}{a b c:Expr}{ta tb tc:TE}{pos:Pos}
theorem jX{g:List (Addr×Obj)}{Y:St}{H:Hp}{s:Shared}{Q:VK}{k d:Bool}(I:Inv X g Y H s)(q:Q (.bl k) H)(e:k=d):EP X g Y Q (.bool d) s:=by
 subst e;exact⟨.bl k,H,I,rfl,q⟩
theorem G4:fu X (compareOp .Lt) (zG λ i j=>.bl (decide (i<j))):=zH λ _ _ _ _ _ _ _ q=>lt_int q
theorem G5:fu X (compareOp .LtE) (zG λ i j=>.bl (decide (i<=j))):=zH λ _ _ _ _ _ _ _ q=>le_int q
theorem G6:fu X (compareOp .Gt) (zG λ i j=>.bl (decide (j<i))):=zH λ _ _ _ _ _ _ _ q=>gt_int q
theorem G7:fu X (compareOp .GtE) (zG λ i j=>.bl (decide (j<=i))):=zH λ _ _ _ _ _ _ _ q=>ge_int q
theorem uy:fu X (compareOp .Lt) (λ x y H Q=>∃i j,x=.str i/\y=.str j/\Q (.bl (decide (i.cps.toList<j.cps.toList))) H):=by
 intro k s Y H x y v u Q I e d h;let⟨i,j,rfl,rfl,q⟩:=h;let⟨t,rfl⟩:=e;let⟨g,rfl⟩:=d;exact lt_str (jX I q rfl)
theorem uz:fu X (compareOp .In) (λ x y H Q=>∃i j,x=.str i/\y=.str j/\Q (.bl (!(Builtin.Str.occurrences j i 0 j.length 1).isEmpty)) H):=by
 intro k s Y H x y v u Q I e d h;let⟨i,j,rfl,rfl,q⟩:=h;let⟨t,rfl⟩:=e;let⟨g,rfl⟩:=d;exact in_str (jX I q rfl)
theorem Dw:fu X (compareOp .Is) (λ x y H Q=>y=.non/\Q (.bl (decide (x=.non))) H):=by
 intro g s Y H x y v u Q I d e h;let⟨rfl,q⟩:=h;cases e;refine is_none_gen (jX I q ?_);cases x<;>first
  |(cases d;rfl)
  |(let⟨t,rfl⟩:=d;rfl)
theorem zK:fu X (compareOp .IsNot) (λ x y H Q=>y=.non/\Q (.bl (!decide (x=.non))) H):=by
 intro g s Y H x y v u Q I d e h;let⟨rfl,q⟩:=h;cases e;refine isnot_none_gen (jX I q ?_);cases x<;>first
  |(cases d;rfl)
  |(let⟨t,rfl⟩:=d;rfl)
theorem sG{r:R2}(ho:fu X (compareOp op) r)(k:PE X a ta)(j:PE X b tb)(i:behindInMarks op b=false):PE X (.Compare a [op] [b] pos) (Je r ta tb):=by
 intro l s Y H Q I h;exact wpAny_Compare1 (Di k j I h λ v u d x y n m g e q=>ho l d Y n x y v u Q m g e q) i
def BE(t:TE):TT:=fun Y H Q=>t Y H λ x d=>∃k,x=.bl k/\Q k d
theorem sH{r:R2}(ho:fu X (compareOp op) r)(w:PE X a ta)(t:PE X b tb)(q:behindInMarks op b=false):PT X (.Compare a [op] [b] pos) (BE (Je r ta tb)):=by
 intro d s Y H Q I h;refine wpAny_isTrue_Compare1 (br (w d s Y H _ I h) λ v i ⟨x,F,C,m,p⟩=>br (t d i Y F _ C p) λ u g ⟨y,E,B,l,o⟩=>
  br (ho d g Y E x y v u _ B m l o) λ c G ⟨z,D,A,j,k,e,n⟩=>?_) q
 subst e;cases j;exact ND ⟨D,A,n⟩
def qT(r g:R2)(ta tb tc:TE):TE:=fun Y H Q=>ta Y H λ x j=>tb Y j λ y i=>r x y i λ z d=>∃k,z=.bl k/\
 (if k=true then tc Y d λ e h=>g y e h Q else Q (.bl false) d)
theorem v9{g:CmpOp}{r m:R2}(ho:fu X (compareOp op) r)(j:fu X (compareOp g) m)(O:PE X a ta)(N:PE X b tb)(M:PE X c tc)
  (L:lastMarks [op,g] [b,c]=false:=by with_unfolding_all rfl):PE X (.Compare a [op,g] [b,c] pos) (qT r m ta tb tc):=by
 intro i s Y H Q I h;refine Compare_chain (br (O i s Y H _ I h) λ v C ⟨x,V,S,F,K⟩=>chain_link (br (N i C Y V _ S K) λ u B ⟨y,U,R,l,J⟩=>
  br (ho i B Y U x y v u _ R F l J) λ d A ⟨z,p,o,E,k,e,n⟩=>?_)) L
 subst e;cases E;refine ND ?_;cases k with
 |false=>exact ite_ff ⟨.bl false,p,o,rfl,n⟩
 |true=>exact ite_tt (chain_last (br (M i A Y p _ o n) λ t w ⟨q,T,P,D,G⟩=>j i w Y T y q u t Q P l D G))
theorem wc{g:CmpOp}{r m:R2}(ho:fu X (compareOp op) r)(j:fu X (compareOp g) m)(S:PE X a ta)(R:PE X b tb)(P:PE X c tc)
  (O:lastMarks [op,g] [b,c]=false:=by with_unfolding_all rfl):PT X (.Compare a [op,g] [b,c] pos) (BE (qT r m ta tb tc)):=by
 intro i s Y H Q I h;refine isTrue_chain (br (S i s Y H _ I h) λ v C ⟨x,H1,I1,G,M⟩=>test_link (br (R i C Y H1 _ I1 M) λ u B ⟨y,H2,Z,l,L⟩=>
  br (ho i B Y H2 x y v u _ Z G l L) λ d A ⟨z,p,o,F,k,e,n⟩=>?_)) O
 subst e;cases F;refine ND ?_;cases k with
 |false=>
  let⟨k',U,N⟩:=n;cases U;exact ite_ff ⟨p,o,N⟩
 |true=>
  refine ite_tt (test_last (br (P i A Y p _ o n) λ t w ⟨q,H4,W,E,K⟩=>br (j i w Y H4 y q u t _ W l E K) λ d' s5 ⟨z2,H5,V,D,k2,T,J⟩=>?_));subst T;cases D;exact ND ⟨H5,V,J⟩
def zL(K:ae)(x:V)(H:Hp)(k:Bool):Prop:=
 match x with
 |.non=>k=false
 |.bl b=>k=b
 |.int i=>k=(i != 0)
 |.str y=>y.length<=sizeLine/\k=((y.length:Int) != 0)
 |.byt y=>y.size<=sizeLine/\k=((y.size:Int) != 0)
 |.ref p=>(∃d,gk K H p d/\k=!d.isEmpty)\/(∃d,dQ K H p d/\k=!d.isEmpty)\/∃e,H p=some (.dK e)/\k=!e.isEmpty
 |_=>False
theorem qU{e:Type}{d:List (e×V)}{vs:List (e×Value)}(r:KV d vs):(!vs.isEmpty)=!d.isEmpty:=by
 cases r<;>rfl
theorem jY{xs:List V}{its:List Value}(r:Vals xs its):(!its.toArray.isEmpty)=!xs.isEmpty:=by
 cases r<;>simp
theorem g7:(sizeLine:Nat)<2^63:=by rw[N6];decide
theorem we:J0 X (λ x H Q=>∃k,zL X.K x H k/\Q k H):=by
 intro G s Y H x v Q I n h;let⟨k,e,q⟩:=h;have F:=g7;have E:sizeLine=16777216:=N6;cases x with
 |non=>
  cases n;have d:k=false:=e;subst d;exact truthy_none ⟨H,I,q⟩
 |bl b=>
  cases n;have d:k=b:=e;subst d;exact ND ⟨H,I,q⟩
 |int i=>
  let⟨t,rfl⟩:=n;have d:k=(i != 0):=e;subst d;exact PySem.P.truthy_int ⟨H,I,q⟩
 |str y=>
  let⟨t,rfl⟩:=n;obtain⟨C,d⟩:y.length<=sizeLine/\k=((y.length:Int) != 0):=e;subst d;exact PySem.P.truthy_str 'o' ⟨H,I.tok _,q⟩
 |byt y=>
  let⟨t,rfl⟩:=n;obtain⟨C,d⟩:y.size<=sizeLine/\k=((y.size:Int) != 0):=e;subst d;exact PySem.W.truthy_bytes 'o' ⟨H,I.tok _,q⟩
 |ref p=>
  cases n;have d:(∃l,gk X.K H p l/\k=!l.isEmpty)\/(∃l,dQ X.K H p l/\k=!l.isEmpty)\/∃g,H p=some (.dK g)/\k=!g.isEmpty:=e;rcases d with⟨l,o,d⟩ | ⟨l,o,d⟩ | ⟨g,o,d⟩
  .subst d;let⟨A,r,z,B⟩:=I.list o;have j:=r.length;exact wpAny_truthy_list z.isList (by erw[MS];omega) ⟨H,I.tok _,by rw[jY r];exact q⟩
  .subst d;let⟨A,r,z,B⟩:=I.tuple o;have j:=r.length;exact truthy_tuple z (by erw[MS];omega) ⟨H,I.tok _,by rw[jY r];exact q⟩
  .subst d;obtain⟨B,D,u,r,m⟩:g.length<=sizeLine/\(p==sysModules)=false/\∃u,KV g u/\s.heap.DictOf (aV X.prog X.w) p u:=I.hok p _ o;have j:g.length=u.length:=PN r;exact wpAny_truthy_dict D m 'o' ⟨H,I.tok _,by rw[qU r];exact q⟩
 |_=>exact(show False from e).elim
theorem wg(n:PE X a ta)(m:∀d,isTrue a X.env d=(do let v <-d;standAt a.pos;holding [v] (truthy v))) :
  PT X a (fun Y H Q=>ta Y H λ x g=>∃k,zL X.K x g k/\Q k g):=by
 intro e s Y H Q I h;exact isTrue_plain (br (n e s Y H _ I h) λ v i ⟨x,p,o,j,l⟩=>we e i Y p x v Q o j l) (m _)
theorem qV:fu X (binaryOp .Add) (λ x y H Q=>∃i j,x=.str i/\y=.str j/\i.length+j.length<=sizeLine/\Q (.str (i++j)) H):=by
 intro m s Y H x y v u Q I g e h;let⟨i,j,rfl,rfl,k,q⟩:=h;let⟨t,rfl⟩:=g;let⟨d,rfl⟩:=e;exact add_str (λ d l=>⟨.str (i++j),H,I.tok _,⟨_,rfl⟩,q⟩) k
theorem vals1{x:V}{us:List Value}(r:Vals [x] us):∃u,us=[u]/\RelV x u:=by
 cases r with
 |cons e d=>cases d;exact⟨_,rfl,e⟩
theorem vals2{x y:V}{us:List Value}(r:Vals [x,y] us):∃u d,us=[u,d]/\RelV x u/\RelV y d:=by
 cases r with
 |cons i h=>
  cases h with
  |cons g e=>cases e;exact⟨_,_,rfl,i,g⟩
theorem wj:cg X (.builtin "abs") (λ xs H Q=>∃i,xs=[.int i]/\Q (.int (if i<0 then -i else i)) H):=by
 intro g s Y H xs d Q I r h;let⟨i,rfl,q⟩:=h;let⟨u,rfl,t,rfl⟩:=vals1 r;exact call_abs_int λ u e=>⟨.int (if i<0 then -i else i),H,I.tok _,⟨_,rfl⟩,q⟩
theorem uA(e:X.calm=true):cg X (.builtin "max") (λ xs H Q=>∃i j,xs=[.int i,.int j]/\Q (.int (if j>i then j else i)) H):=by
 intro p s Y H xs l Q I r h;let⟨i,j,rfl,q⟩:=h;let⟨u,g,rfl,⟨t,rfl⟩,⟨n,rfl⟩⟩:=vals2 r;refine max_two_ints (I.ok.hd e) λ o m k=>⟨_,H,I.kept k,?_,q⟩
 by_cases d:j>i
 .rw[MW d,MW d];exact⟨_,rfl⟩
 .rw[M8 d,M8 d];exact⟨_,rfl⟩
theorem uB(e:X.calm=true):cg X (.builtin "min") (λ xs H Q=>∃i j,xs=[.int i,.int j]/\Q (.int (if j<i then j else i)) H):=by
 intro p s Y H xs l Q I r h;let⟨i,j,rfl,q⟩:=h;let⟨u,g,rfl,⟨t,rfl⟩,⟨n,rfl⟩⟩:=vals2 r;refine min_two_ints (I.ok.hd e) λ o m k=>⟨_,H,I.kept k,?_,q⟩
 by_cases d:j<i
 .rw[MW d,MW d];exact⟨_,rfl⟩
 .rw[M8 d,M8 d];exact⟨_,rfl⟩
theorem lY:cg X (.type "int") (λ xs H Q=>(∃i,xs=[.int i]/\Q (.int i) H)\/∃k,xs=[.bl k]/\Q (.int (if k then 1 else 0)) H):=by
 intro g s Y H xs e Q I r h;rcases h with⟨i,rfl,q⟩ | ⟨k,rfl,q⟩
 .let⟨u,rfl,t,rfl⟩:=vals1 r;exact call_int_int ⟨.int i,H,I,⟨_,rfl⟩,q⟩
 .let⟨u,rfl,d⟩:=vals1 r;cases d;exact call_int_bool ⟨.int (if k then 1 else 0),H,I.tok _,⟨_,rfl⟩,q⟩
theorem oV:cg X (.builtin "divmod") (λ xs H Q=>∃i j,xs=[.int i,.int j]/\G2 i j/\∀p,H p=none->Q (.ref p) (upd H p (.tup [.int (i / j),.int (i%j)]))):=by
 intro v s Y H xs k Q I r h;let⟨i,j,rfl,⟨n,m⟩,q⟩:=h;let⟨u,g,rfl,⟨t,rfl⟩,⟨l,rfl⟩⟩:=vals2 r;refine divmod_int 'o' ?_ (.inl (P9 'o'));rw[Ow i 'o',Pu i 'o'];have d:H s⁻¹=none:=I.hok.fresh (MK _);refine⟨.ref s⁻¹,_,?_,rfl,q _ d⟩;refine I.laid (λ b o e=>MH _ e) (MK _) ⟨by erw[Nh,Ox];rw[N6];decide,[.int (i / j) s.toks,.int (i%j) (s.toks+1)],.cons ⟨_,rfl⟩ %[|⟨_,rfl⟩],?_⟩;exact⟨_,MR s.heap rfl,rfl,0,rfl⟩
end
end L2
namespace L2
open PySem PySem.Spec PyProof.Rows List
variable{C:Addr}
structure oW(h:Heap)(x dx C:Addr)(mA:Str->Option Value):Prop where
 obj:h.get? x=@(PySem.W.instObj C dx)
 ns:h.Ns1 dx mA
 ne:dx≠x
theorem uC{h:Heap}{dx:Addr}{d:Str->Option Value}(n:h.Ns1 dx d):∃c,h.get? dx=some c/\∀name,PySem.W.lookIn name c=some (d name):=by
 let⟨o,f,p,i,l,k,_,j⟩:=n;refine⟨o,i,λ name=>?_⟩;have e:=j name;unfold nsFind findBy at e;rw[<-Array.find?_toList] at e;unfold PySem.W.lookIn;rw[l];dsimp only;split
 .ext y q;rw[q] at e;exact OE some e
 .ext q;rw[q] at e;have a:f.toList.any (·.refKey)=false:=by
   rw[any_eq_false];intro y g;let⟨z,t,b⟩:=k y (Array.mem_toList_iff.mp g);simp[DictEntry.refKey,b]
  have m:¬f.toList.any (·.refKey)=true:=by rw[a];exact Pw
  rw[M8 m];exact OE some e
theorem oW.look{h:Heap}{x dx:Addr}{b:Str->Option Value}(I:oW h x dx C b):∃a,PySem.W.InstAt h x (PySem.W.instObj C dx) C (some a)/\∀name,PySem.W.lookIn name a=some (b name):=
 let ⟨a,c,d⟩:=uC I.ns
 ⟨a,⟨I.obj,rfl,rfl,c⟩,d⟩
section
variable{prog:Program}{w:World}{A:Around}{E:Value->Shared->Prop}{s:Shared}{K:ae}{x dx C f:Addr}{mA:Str->Option Value}{name:Str}{v:Value}
theorem get_map{a:Bool}{Q:Value->Shared->Prop}(X:K.In s.heap)(I:oW s.heap x dx C mA)(g:PySem.W.plainGet K C name=true)(e:PySem.W.hasDictIn K C=true)
  (i:PySem.W.findIn K (.ref C) name=some none) (c:mA name=some v) (b:PySem.W.handedIn v=true) (h:Q v {s with toks:=s.toks+1}) :
  wpAny (model prog w) A (getAttr (.ref x) name a) Q E s:=by
 let⟨k,j,d⟩:=I.look;exact PySem.W.get_value X j (Pd g).1 (PySem.W.findObj_own e i rfl (by rw[d,c])) b h
theorem wk{b:Sem Bool}{Q:Value×List Value->Shared->Prop}(X:K.In s.heap)(I:oW s.heap x dx C mA)(a:PySem.W.plainGet K C name=true)
  (i:PySem.W.findIn K (.ref C) name=@(some (.ref f))) (e:PySem.W.isFn K (.ref f)=true) (d:mA name=none) (h:Q (.ref f,[.ref x]) s) :
  wpAny (model prog w) A (getMethod (.ref x) name b) Q E s:=by
 let⟨c,j,g⟩:=I.look;exact PySem.W.method_fn X j (Pd a).1 (Pd a).2 i (Ny.mp e) (by show (PySem.W.lookIn name c).map (·.isSome)=some false;rw[g,d];rfl) h
theorem zM{ns:List Str}{Q:Unit->Shared->Prop}(X:K.In s.heap)(I:oW s.heap x dx C mA)
  (m:PySem.W.findIn K (.ref C) "__setattr__"=@(some (.builtin "object.__setattr__"))) (n:PySem.W.plainOver K C=true) (l:PySem.W.takerIn K C name=some none) (o:PySem.W.hasDictIn K C=true)
  (hw:PySem.Within mA ns) (hsz:ns.length<=sizeLine)
  (h:∀h',oW h' x dx C (λ y=>if y=name then some v else mA y)->Heap.SameBut dx s.heap h'->Q () {s with heap:=h',toks:=s.toks+2}) :
  wpAny (model prog w) A (setAttr (.ref x) name v) Q E s:=by
 let⟨z,j,D⟩:=I.look;refine PySem.W.set_plain X j m (PySem.W.osa_open (s:={s with toks:=s.toks+1}) (r:=none) X j n l λ b=>?_);let⟨F,p,g⟩:=PySem.W.any_some o;have k:s.heap.get? x=some ⟨.ref C,some dx,.plain,#[]⟩:=I.obj;refine MF (MP (MF (MF (wpAny_loadPart k (MF (PySem.W.Looks.here (s:={s with toks:=s.toks+1}) (PySem.W.looks_clsIn X p) ?_))))));rw[g];refine MP (a:=some dx) (MF (MP (MF ?_)));refine wpAny_nsSet1 (s:={s with toks:=s.toks+1}) I.ns λ h' d c=>?_;let⟨B,q,t,e,u,i⟩:=d.count (PySem.Within.cons name v hw);refine MF (wpAny_lookBehind e (by rw[u];exact pastItsLine_dict (Na i (by rw[Nh];omega))) ?_);exact MP (h _ ⟨(c.2 _ (Ne.symm I.ne)).trans I.obj,d,I.ne⟩ c)
theorem oX{R:Result->Shared->Prop}{vs:List Value}{b:List (Str×Value)}(X:K.In s.heap)(c:PySem.W.makesIn K C=true)
  (e:PySem.W.findIn K (.ref C) "__init__"=@(some (.ref f))) (i:PySem.W.typeIn K (.ref f)=@(.type "function"))
  (h:codeAny (model prog w) (A.under (.builtin "type.__call__" ⟨.ref C::vs,b⟩)) (.call (.ref f) ⟨.ref (s⁻¹+1)::vs,b⟩) (PySem.W.InitBack (s⁻¹+1) R)
   {s with heap:=(s.heap.push PySem.W.emptyDict).push (PySem.W.instObj C s⁻¹)}) :
  codeAny (model prog w) A (.call (.ref C) ⟨vs,b⟩) R s:=by
 let⟨k,g,d,t,j⟩:=s;exact PySem.W.make_core (PySem.W.makes_of X c) (Nr X e) (λ a=>PySem.W.bind_fn X a i) (.inl rfl) h
end
def d7(f:Str)(v:V):List (Str×V)->List (Str×V)
 | []=>[(f,v)]
 |(g,x)::r=>if g=f then (g,v)::r else (g,x)::d7 f v r
theorem jo(f g:Str)(v:V):∀c:List (Str×V),(d7 f v c).lookup g=if g=f then some v else c.lookup g
 | []=>by
  show List.lookup g [(f,v)]=_
  by_cases h:g=f
  .have a:(g==f)=true:=Ny.mpr h;erw[List.lookup,a,MW h]
  .have a:(g==f)=false:=N1.mpr h;erw[List.lookup,a,M8 h]
 |(k,x)::r=>by
  have d:=jo f g v r;rw[show d7 f v ((k,x)::r)=(if k=f then (k,v)::r else (k,x)::d7 f v r) from rfl]
  by_cases b:k=f
  .rw[MW b]
   by_cases h:g=k
   .have a:(g==k)=true:=Ny.mpr h;erw[List.lookup,a,MW (h.trans b)]
   .have a:(g==k)=false:=N1.mpr h;erw[List.lookup,a,M8 (λ e:g=f=>h (e.trans b.symm))]
  .rw[M8 b]
   by_cases h:g=k
   .have a:(g==k)=true:=Ny.mpr h;erw[List.lookup,a,M8 (λ e:g=f=>b (h.symm.trans e))]
   .have a:(g==k)=false:=N1.mpr h;erw[List.lookup,a];exact d
theorem iX(f:Str)(v:V):∀b:List (Str×V),f∈(d7 f v b).map (·.1)/\∀g,g∈b.map (·.1)->g∈(d7 f v b).map (·.1)
 | []=>⟨by simp[d7],λ g h=>by simp at h⟩
 |(k,x)::r=>by
  let⟨d,c⟩:=iX f v r;rw[show d7 f v ((k,x)::r)=(if k=f then (k,v)::r else (k,x)::d7 f v r) from rfl]
  by_cases a:k=f
  .rw[MW a];subst a;exact⟨by simp,λ g h=>by simpa using h⟩
  .rw[M8 a];refine⟨?_,λ g h=>?_⟩
   .rw[Ni];exact M3 _ d
   .rw[Ni] at h ⊢;rcases MX.mp h with e | e
    .exact MX.mpr (.inl e)
    .exact M3 _ (c g e)
theorem jq(f:Str)(v:V):∀b:List (Str×V),(d7 f v b).length<=b.length+1
 | []=>by simp[d7]
 |(k,x)::r=>by
  have c:=jq f v r;rw[show d7 f v ((k,x)::r)=(if k=f then (k,v)::r else (k,x)::d7 f v r) from rfl]
  by_cases a:k=f
  .rw[MW a,Nh,Nh];omega
  .rw[M8 a,Nh,Nh];omega
theorem eO.some_of{v:V}{o:Option Value}(r:eO (some v) o):∃u,o=some u/\RelV v u:=by
 cases o with
 |none=>exact(show False from r).elim
 |some u=>exact⟨u,rfl,r⟩
theorem eO.none_of{o:Option Value}(r:eO none o):o=none:=by
 cases o with
 |none=>rfl
 |some u=>exact(show False from r).elim
theorem lZ{v:V}{u:Value}(r:RelV v u):PySem.W.handedIn u=true:=by
 cases v with
 |non=>cases (show u=Value.none from r);rfl
 |bl b=>cases (show u=Value.bool b from r);rfl
 |int i=>let⟨t,e⟩:=(show ∃t,u=Value.int i t from r);cases e;rfl
 |str x=>let⟨t,e⟩:=(show ∃t,u=Value.str x t from r);cases e;rfl
 |byt b=>let⟨t,e⟩:=(show ∃t,u=Value.bytes b t from r);cases e;rfl
 |oH b=>let⟨t,e⟩:=(show ∃t,u=Value.float b t from r);cases e;rfl
 |ref a=>cases (show u=Value.ref a from r);rfl
 |ty n=>cases (show u=Value.type n from r);rfl
section
variable{P:Program}{w:World}{H H':Hp}{h h':Heap}{a C dx:Addr}{fs fs':List (Str×V)}
theorem zN(c:fD P w H h)(e:H a=@(.ins C dx fs)):∃b,oW h a dx C b/\(∀f,eO (fs.lookup f) (b f))/\PySem.Within b (fs.map (·.1))/\fs.length<=1000/\H dx=some (.own a):=by
 let⟨d,z,i,g,b,n,r,q⟩:=(show aW P w H h a (.ins C dx fs) from c a _ e);exact⟨b,⟨g,n,i⟩,r,q,z,d⟩
end
structure vI(K:ae)(C:Addr):Prop where
 pg:PySem.W.plainGet K C Str.empty=true
 hd:PySem.W.hasDictIn K C=true
 po:PySem.W.plainOver K C=true
 sa:PySem.W.findIn K (.ref C) "__setattr__"=@(some (.builtin "object.__setattr__"))
theorem vI.get{K:ae}(c:vI K C)(f:Str):PySem.W.plainGet K C f=true:=c.pg
def gn(K:ae)(C:Addr)(f:Str):Prop:=PySem.W.findIn K (.ref C) f=some none
theorem gn.G8{K:ae}{f:Str}(n:gn K C f):PySem.W.takerIn K C f=some none:=by
 unfold PySem.W.takerIn;rw[show PySem.W.findIn K (.ref C) f=some none from n];rfl
structure Meth(K:ae)(C:Addr)(m:Str)(f:Addr):Prop where
 at_:PySem.W.findIn K (.ref C) m=@(some (.ref f))
 fn:PySem.W.isFn K (.ref f)=true
 kp:PySem.W.keepIn K (.ref f)=true
section
variable{X:Cx}{aa:List (Addr×Obj)}{Y:St}{H:Hp}{s:Shared}{a C dx:Addr}{fs:List (Str×V)}{f:Str}{v:V}{A:Around}{E:Value->Shared->Prop}
theorem qW{y:V}{u:Value}{Q:Unit->Shared->Prop}(I:Inv X aa Y H s)(e:H a=@(.ins C dx fs))(c:vI X.K C)(n:gn X.K C f)(L:fs.length<1000)(p:RelV y u)
  (h:∀j,Inv X aa Y (upd H a (.ins C dx (d7 f y fs))) j->Q () j):wpAny (model X.prog X.w) A (setAttr (.ref a) f u) Q E s:=by
 let⟨k,O,r,i,_,l⟩:=zN I.hok e;have t:(fs.map (·.1)).length<=sizeLine:=by rw[M0,N6];omega
 refine zM I.eS O c.sa c.po n.G8 c.hd i t λ G d m=>h _ ?_;have D:∃o,G.get? dx=some o:=let ⟨o,_,_,J,_⟩:=d.ns;⟨o,J⟩;refine I.write (x:=a) (e:=dx) (by rw[e];exact True.intro) (.inr l) (λ b q F z=>(m.2 b F).trans z) D ?_;refine⟨by rw[ai O.ne];exact l,?_,O.ne,d.obj,_,d.ns,λ g=>?_,λ g B=>?_⟩
 .have:=jq f y fs;omega
 .show eO ((d7 f y fs).lookup g) (if g=f then some u else k g);rw[jo]
  by_cases q:g=f
  .rw[MW q,MW q];exact p
  .rw[M8 q,M8 q];exact r g
 .by_cases q:g=f
  .rw[q];exact(iX f y fs).1
  .refine(iX f y fs).2 g (i g λ z=>B ?_);show (if g=f then some u else k g)=none;rw[M8 q];exact z
theorem Inv.made(I:Inv X aa Y H s):Inv X aa Y (upd (upd H s⁻¹ (.own (s⁻¹+1))) (s⁻¹+1) (.ins C s⁻¹ []))
  {s with heap:=(s.heap.push PySem.W.emptyDict).push (PySem.W.instObj C s⁻¹)}:=by
 have d:(s.heap.push PySem.W.emptyDict).get? s⁻¹=some PySem.W.emptyDict:=MR s.heap rfl;have j:((s.heap.push PySem.W.emptyDict).push (PySem.W.instObj C s⁻¹)).get? (s⁻¹+1)=some (PySem.W.instObj C s⁻¹):=by
  have:=MR (s.heap.push PySem.W.emptyDict) (o:=PySem.W.instObj C s⁻¹) rfl
  rwa [NV] at this
 have i:(s.heap.push PySem.W.emptyDict).Ns s⁻¹ (λ _=>none):=⟨PySem.W.emptyDict,#[],_,d,rfl,(λ e h=>absurd h 's'),λ _=>rfl⟩;have k:=I.laid (a:=s⁻¹) (o:=.own (s⁻¹+1)) (h':=s.heap.push PySem.W.emptyDict) (t':=s.toks) (λ b u q=>MH _ q) (MK _) ⟨_,d⟩;refine k.laid (a:=s⁻¹+1) (o:=.ins C s⁻¹ []) (t':=s.toks) (λ b u q=>MH _ q) (Qy (NV _ _)) ?_;have c:s⁻¹≠s⁻¹+1:=MQ (Ob _);refine⟨by rw[ai c,av],N7 _,c,j,λ _=>none,(Heap.Ns1.of_empty i).at λ o q=>MH _ q,λ _=>True.intro,λ y g=>absurd rfl g⟩
theorem sI{prog:Program}{w:World}{env:Env}{e:Expr}{pos:Pos}{Q:Value->Shared->Prop}(c:attributeBase e f env (eval e env)=eval e env)
  (h:wpAny (model prog w) A (eval e env) (λ o b=>wpAny (model prog w) A (getAttr o f true) Q E b) E s):wpAny (model prog w) A (eval (.Attribute e f pos) env) Q E s:=
 Attribute_any_ h (by rw[arm_eval_Attribute,c])
end
def J1(K:ae)(g e:TE)(f:Str):TS:=λ D Y H=>e Y H λ y h=>g Y h λ x d=>∃a C c b,x=.ref a/\d a=some (.ins C c b)/\vI K C/\gn K C f/\b.length<1000/\
 D.nx Y (upd d a (.ins C c (d7 f y b)))
section
variable{X:Cx}{o e value:Expr}{f:Str}{pos pos' tpos:Pos}{ta tv:TE}
theorem Dy(r:PE X o ta)(m:PE X value tv)(p:swapsWith value @(.Attribute o f pos') pos.line X.env=pure false):PS X (.Assign [.Attribute o f pos'] value pos) (J1 X.K ta tv f):=by
 intro b s Y H D I h;refine O0 (br (m b s Y H _ I h) λ u d ⟨y,B,A,g,q⟩=>br (r b d Y B _ A q) λ k F ⟨x,L,z,i,a,C,J,G,t,v,c,n,l,j⟩=>?_) p;subst t;obtain rfl:k=Value.ref a:=i;exact qW z v c n l g λ E w=>⟨Y,_,w,j⟩
end
end L2
namespace L2
open PySem PySem.Spec PyProof.Rows List
variable{C f:Addr}{H:Hp}{K:ae}{P:Program}{Q:VK}{kindOf:Str->Option NameKind}{kw:List (Str×Value)}{mg:Str->Option Value}{s:Shared}{us:List Value}{vs:List V}
structure bI(k:Nat)(A:Around):Prop where
 hd:A.handled=none
 dp:A.depth+3*k+5<recursionLimit
 un:A.units+16*k+200<cLine
 gd:A.guards=some []:=by rfl
theorem bI.mono{j k:Nat}{A:Around}(r:bI k A)(h:j<=k):bI j A:=⟨r.hd,by have:=r.dp;omega,by have:=r.un;omega,r.gd⟩
theorem bI.deeper{k:Nat}{A:Around}(r:bI (k+1) A)(env:Env):bI k (A.deeper env):=
 ⟨r.hd,by have:=r.dp;show A.depth+1+3*k+5<_;omega,by have:=r.un;show A.units+3+16*k+200<_;omega,r.gd⟩
theorem qX{A:Around}:(A.under (.builtin "type.__call__" ⟨.ref C::us,kw⟩)).depth=A.depth+1:=by
 first | rfl | simp[Around.under,Code.weight,Code.isCreation,Code.isGuard,Code.isCaller,Code.frames,Code.isFrame,guardIds]
theorem qY{A:Around}:(A.under (.builtin "type.__call__" ⟨.ref C::us,kw⟩)).units=A.units+1:=by
 first | rfl | simp[Around.under,Code.cUnits,Code.frames,Code.isFrame]
theorem oY{A:Around}:(A.under (.builtin "type.__call__" ⟨.ref C::us,kw⟩)).guards=A.guards:=by
 first | rfl | (simp[Around.under,Code.guards,Code.isGuard,guardIds,pushGuards];done) | (cases h:A.guards<;>simp[Around.under,Code.guards,Code.isGuard,guardIds,pushGuards,h])
theorem bI.make{k:Nat}{A:Around}(r:bI (k+1) A)(C:Addr)(us:List Value)(kw:List (Str×Value)):bI k (A.under (.builtin "type.__call__" ⟨.ref C::us,kw⟩)):=
 ⟨r.hd,by have:=r.dp;rw[qX];omega,by have:=r.un;rw[qY];omega,by rw[oY];exact r.gd⟩
theorem bI.depth{k:Nat}{A:Around}(r:bI k A):A.depth<recursionLimit:=by have:=r.dp;omega
theorem bI.units{k:Nat}{A:Around}(r:bI k A):A.units+64<cLine:=by have:=r.un;omega
def wm:TA:=λ _ H Q=>Q [] H
def wu(c:TE)(b:TA):TA:=fun Y H Q=>c Y H λ x e=>b Y e λ a d=>Q (x::a) d
section
variable{X:Cx}{e:Expr}{es:List Expr}{te:TE}{t:TA}{pos:Pos}
theorem eZ:PA X [] wm:=λ _ _ _ _ H Q I h=>Calls.spliced_nil ⟨[],H,I,.nil,h⟩
theorem bW(m:PE X e te)(l:PA X es t)(k:starEach (e::es) X.env=(false,eval e X.env)::starEach es X.env:=by rfl):PA X (e::es) (wu te t):=by
 intro pos a s Y H Q I h;rw[k];show wpAny _ _ (spliced ((false,eval e X.env)::backTo pos (starEach es X.env))) _ _ s;refine Calls.spliced_cons (br (m a s Y H _ I h) λ u c ⟨x,q,o,g,j⟩=>?_);exact br (l pos a c Y q _ o j) λ us r ⟨b,p,n,d,i⟩=>⟨x::b,p,n,.cons g d,i⟩
def J2(t:TA):TE:=fun Y H Q=>t Y H λ a b=>a.length<=sizeLine/\∀p,b p=none->Q (.ref p) (upd b p (.tup a))
def J3(t:TA):TE:=fun Y H Q=>t Y H λ a b=>a.length<=sizeLine/\∀p,b p=none->Q (.ref p) (upd b p (.lst a))
theorem wA{i}(h:PA X es t):PE X (.Tuple es i pos) (J2 t):=by
 intro l s Y H Q I j;refine wpAny_Tuple_spliced (br (h pos l s Y H _ I j) λ us a ⟨g,d,c,r,z,q⟩=>⟨by rw[<-r.length];exact z,?_⟩);have k:d a⁻¹=none:=c.hok.fresh (MK _);refine⟨.ref a⁻¹,upd d a⁻¹ (.tup g),c.laid (t':=a.toks) (λ b u e=>MH _ e) (MK _) ?_,rfl,q _ k⟩;exact⟨z,us,r,⟨_,MR _ rfl,rfl,_,rfl⟩⟩
theorem Dz(h:PA X es t):PE X (.List es pos) (J3 t):=by
 intro k s Y H Q I i;refine wpAny_List_spliced (br (h pos k s Y H _ I i) λ us a ⟨g,d,c,r,z,q⟩=>⟨by rw[<-r.length];exact z,?_⟩);have j:d a⁻¹=none:=c.hok.fresh (MK _);refine⟨.ref a⁻¹,upd d a⁻¹ (.lst g),c.laid (t':=a.toks) (λ b u e=>MH _ e) (MK _) ?_,rfl,q _ j⟩;exact⟨z,us,0,r,MR _ rfl⟩
end
abbrev Sp:=List V->Hp->VK->XK->Prop
abbrev sJ:=List Env->Hp->Shared->XK->Value->Shared->Prop
structure qZ(P:Program)(w:World)(K:ae)(mg:Str->Option Value)(base:Heap)(A:Around)(outer:List Env)(s:Shared)(H:Hp):Prop where
 frames:A.frames=some outer
 mod:Mod K mg base
 bs:∀b o,base.get? b=some o->s.heap.get? b=some o/\H b=none
 bsz:base.objs.size<=s⁻¹
 g6:s.heap.FunFrames base outer
 frf:∀b∈frs outer,H b=none
 hok:fD P w H s.heap
 bare:AllBare s.gens
def CE(outer:List Env)(P:Program)(w:World)(H:Hp)(s:Shared)(Q:VK)(u:Value)(a:Shared):Prop:=
 ∃v b,a.os=s.os/\AllBare a.gens/\Un (frs outer) [] H b s.heap a.heap/\fD P w b a.heap/\RelV v u/\Q v b
def CR(CX:sJ)(outer:List Env)(P:Program)(w:World)(H:Hp)(s:Shared)(Q:VK)(E:XK)(r:Result)(a:Shared):Prop:=
 match r with
 |.ok (.ret u)=>CE outer P w H s Q u a
 |.ok _=>False
 |.error e=>CX outer H s E e a
structure bQ(P:Program)(w:World)(K:ae)(mg:Str->Option Value)(base:Heap)(CX:sJ)(k:Nat)(f:Addr)(fd:FuncData)(ps:List Str)(sp:Sp):Prop where
 len:∀vs H Q E,sp vs H Q E->vs.length=ps.length
 run:∀(A:Around) (outer:List Env) (s:Shared) (H:Hp) (args:Args) (us:List Value) (vs:List V) (Q:VK) (E:XK),bI k A->qZ P w K mg base A outer s H->BindsTo s fd args (ps.zip us)->Vals vs us->sp vs H Q E->
  codeAny (model P w) A (.call (.ref f) args) (CR CX outer P w H s Q E) s
theorem bQ.imp{w:World}{base:Heap}{CX:sJ}{k:Nat}{d:FuncData}{c:List Str}{sp e:Sp}(F:bQ P w K mg base CX k f d c sp)
  (h:∀vs H Q E,e vs H Q E->sp vs H Q E):bQ P w K mg base CX k f d c e:=
 ⟨λ vs H Q E q=>F.len vs H Q E (h _ _ _ _ q),λ A a s H b us vs Q E j l m g i=>F.run A a s H b us vs Q E j l m g (h _ _ _ _ i)⟩
theorem qZ.make{w:World}{base:Heap}{A:Around}{outer:List Env}(e:qZ P w K mg base A outer s H)(C:Addr)(us:List Value)(kw:List (Str×Value)) :
  qZ P w K mg base (A.under (.builtin "type.__call__" ⟨.ref C::us,kw⟩)) outer s H:=⟨by first | exact e.frames | (simpa[Around.under,Code.envs,Code.isFrame,pushEnvs] using e.frames),e.mod,e.bs,e.bsz,e.g6,e.frf,e.hok,e.bare⟩
section
variable{X:Cx}{aa:List (Addr×Obj)}{Y:St}{H:Hp}{s s':Shared}
theorem Inv.wB(I:Inv X aa Y H s):qZ X.prog X.w X.K X.mg X.base X.A X.stack s H:=
 ⟨I.ok.frames,I.ok.mod,I.bs,Na I.ok.bsz I.sz,I.stack,I.jI,I.hok,I.bare⟩
theorem Inv.after{u:Value}(I:Inv X aa Y H s)(h:CE X.stack X.prog X.w H s Q u s'):EP X aa Y Q u s':=by
 let⟨v,l,j,a,i,e,r,q⟩:=h;let⟨k,g,d,t,c⟩:=s';obtain rfl:c=s.os:=j;exact⟨v,l,I.call (h':=k) (g':=g) (d':=d) (t':=t) (ch:=[]) i e a (λ b z=>absurd z 's'),r,q⟩
end
def BF(sp:Sp)(a:List V)(E:XK)(t:TA):TE:=fun Y H Q=>t Y H λ vs b=>sp (vs++a) b Q E
def G9(C:Addr)(sp:Sp)(c:List V)(E:XK)(t:TA):TE:=fun Y H Q=>t Y H λ vs b=>∀x a,b x=none->b a=none->a≠x->
 sp (.ref x::(vs++c)) (upd (upd b a (.own x)) x (.ins C a [])) (λ v d=>v=.non/\Q (.ref x) d) E
def Binds(K:ae)(c:FuncData)(a:List Str)(b:List Value):Prop:=
 ∀(s:Shared) (us:List Value),K.In s.heap->(us++b).length=a.length->BindsTo s c ⟨us,[]⟩ (a.zip (us++b))
theorem Binds.all{c:FuncData}{a:List Str}(h:∀us:List Value,us.length=a.length->bindArgs c ⟨us,[]⟩=pure (a.zip us)):Binds K c a []:=λ s us _ b=>by
 rw[NL] at b ⊢;exact .of_eq (h us b)
def Passes(CX:sJ)(X:Cx)(E:XK):Prop:=∀(b:List (Addr×Obj)) (Y:St) (H:Hp) (s:Shared) (e:Value) (a:Shared),Inv X b Y H s->CX X.stack H s E e a->X.xe e a
section
variable{X:Cx}{CX:sJ}{k:Nat}{f C:Addr}{fd:FuncData}{ps:List Str}{sp:Sp}{gP:List V}{ds:List Value}{E:XK}{x m:Str}{p pos apos:Pos}{e o:Expr}{es:List Expr}{ta:TE}{t:TA}
theorem nH{b:List (Addr×Obj)}{Y:St}(F:bQ X.prog X.w X.K X.mg X.base CX k f fd ps sp)(i:bI k X.A)(n:Binds X.K fd ps ds)(l:Vals gP ds)(g:Passes CX X E)
  (I:Inv X b Y H s) (r:Vals vs us) (h:sp (vs++gP) H Q E):wpAny (model X.prog X.w) X.A (call (.ref f) us) (EP X b Y Q) X.xe s:=by
 have c:Vals (vs++gP) (us++ds):=r.append l;have j:(us++ds).length=ps.length:=by rw[<-c.length];exact F.len _ _ _ _ h
 refine Px (NT (F.run X.A X.stack s H ⟨us,[]⟩ (us++ds) (vs++gP) Q E i I.wB (n s us I.eS j) c h) λ r d a=>?_);cases r with
 |error e=>exact g b Y H s e d I a
 |ok q=>
  cases q with
  |ret u=>exact I.after a
  |next=>exact False.elim a
  |brk=>exact False.elim a
  |cont=>exact False.elim a
theorem zO(F:bQ X.prog X.w X.K X.mg X.base CX k f fd ps sp)(g:bI k X.A)(l:Gl X x)(i:X.mg x=@(.ref f))(j:PySem.W.keepIn X.K (.ref f)=true)(v:Binds X.K fd ps ds)(u:Vals gP ds)(d:Passes CX X E)
  (y:PA X (e::es) t) (b:(x==("__debug__":Str))=false:=by decide) (n:starEach (e::es) X.env=(false,eval e X.env)::starEach es X.env:=by rfl) (a:(backTo pos (starEach es X.env)).any (·.1)=false:=by rfl) :
  PE X (.Call (.Name x p) (e::es) [] pos) (BF sp gP E t):=by
 intro z s Y H Q I h;refine Nt (dG I l i ?_ b);refine NP (h₀:=X.base) I.ok.mod.kin j (br (y pos z s Y H _ I h) λ us B ⟨vs,D,c,r,q⟩=>⟨c.eS,?_⟩) n a;exact nH F g v u d c r q
theorem wC(F:bQ X.prog X.w X.K X.mg X.base CX k f fd ps sp)(c:bI k X.A)(i:Gl X x)(d:X.mg x=@(.ref f))(g:PySem.W.keepIn X.K (.ref f)=true)(l:Binds X.K fd ps ds)(j:Vals gP ds)(b:Passes CX X E)
  (a:(x==("__debug__":Str))=false:=by decide):PE X (.Call (.Name x p) [] [] pos) (BF sp gP E wm):=by
 intro n s Y H Q I h;refine Nt (dG I i d ?_ a);exact PySem.W.callWith_K0 I.eS g (nH (us:=[]) F c l j b I .nil h)
structure Mk(K:ae)(C f:Addr):Prop where
 makes:PySem.W.makesIn K C=true
 init:PySem.W.findIn K (.ref C) "__init__"=@(some (.ref f))
 fn:PySem.W.isFn K (.ref f)=true
 kp:PySem.W.keepIn K (.ref C)=true
theorem wD{c:List (Addr×Obj)}{Y:St}(M:Mk X.K C f)(F:bQ X.prog X.w X.K X.mg X.base CX k f fd ps sp)(q:bI (k+1) X.A)(B:Binds X.K fd ps ds)(z:Vals gP ds)
  (n:Passes CX X E) (I:Inv X c Y H s) (r:Vals vs us)
  (h:∀x dx,H x=none->H dx=none->dx≠x->sp (.ref x::(vs++gP)) (upd (upd H dx (.own x)) x (.ins C dx [])) (λ v L=>v=.non/\Q (.ref x) L) E) :
  wpAny (model X.prog X.w) X.A (call (.ref C) us) (EP X c Y Q) X.xe s:=by
 have g:=h (s⁻¹+1) s⁻¹ (I.hok.fresh (NW _)) (I.hok.fresh (MK _)) (MQ (Ob _));have b:=Inv.made (C:=C) I;have d:Vals (V.ref (s⁻¹+1)::(vs++gP)) (Value.ref (s⁻¹+1)::(us++ds)):=.cons rfl (r.append z);have y:(Value.ref (s⁻¹+1)::us++ds).length=ps.length:=by
  have e:=d.length;rw[F.len _ _ _ _ g] at e;exact e.symm
 refine Px (oX (f:=f) I.eS M.makes M.init (Ny.mp M.fn) (NT (F.run _ X.stack _ _ ⟨Value.ref (s⁻¹+1)::us,[]⟩ (Value.ref (s⁻¹+1)::(us++ds)) _ _ E (q.make C us [])
  (b.wB.make C us []) (B _ (Value.ref (s⁻¹+1)::us) b.eS y) d g) λ r i a=>?_))
 cases r with
 |error e=>exact n c Y _ _ e i b a
 |ok D=>
  cases D with
  |ret u=>
   let⟨v,N,J,j,G,l⟩:=b.after a;subst G;exact⟨j,⟨V.ref (s⁻¹+1),N,J,rfl,l⟩⟩
  |next=>exact False.elim a
  |brk=>exact False.elim a
  |cont=>exact False.elim a
theorem zP(M:Mk X.K C f)(F:bQ X.prog X.w X.K X.mg X.base CX k f fd ps sp)(g:bI (k+1) X.A)(j:Gl X x)(i:X.mg x=@(.ref C))(u:Binds X.K fd ps ds)(n:Vals gP ds)(d:Passes CX X E)
  (v:PA X (e::es) t) (b:(x==("__debug__":Str))=false:=by decide) (l:starEach (e::es) X.env=(false,eval e X.env)::starEach es X.env:=by rfl) (a:(backTo pos (starEach es X.env)).any (·.1)=false:=by rfl) :
  PE X (.Call (.Name x p) (e::es) [] pos) (G9 C sp gP E t):=by
 intro y s Y H Q I h;refine Nt (dG I j i ?_ b);refine NP (h₀:=X.base) I.ok.mod.kin M.kp (br (v pos y s Y H _ I h) λ us z ⟨vs,B,c,r,q⟩=>⟨c.eS,?_⟩) l a;exact wD M F g u n d c r q
end
structure fW(N P:List Str)(sc:Scope):Prop where
 kind:sc.kind=.function
 co:sc.isCoroutine=false
 gen:sc.isGenerator=false
 nd:N.Nodup
 pre:N.take P.length=P
 par:∀x∈P,sc.names.lookup x=some .local\/sc.names.lookup x=some .cell
 nofree:∀y∈sc.names,y.2≠.free
theorem l7{x:Str}:∀{a:List (Str×Value)} {m:Str->Option Value},(∀v,(x,v)∉a)->bindL kindOf a m x=m x
 | [],_,_=>rfl
 |(n,v)::r,m,h=>by
  unfold bindL;rw[l7 λ w hw=>h w (M3 _ hw)];split
  .have:x≠n:=by rintro rfl;exact h v Nk
   simp[this]
  .rfl
theorem l8{x:Str}:∀{a:List (Str×Value)} {m:Str->Option Value},(∀v,(x,v)∉a)->bindC kindOf a m x=m x
 | [],_,_=>rfl
 |(n,v)::r,m,h=>by
  unfold bindC;rw[l8 λ w hw=>h w (M3 _ hw)];split
  .rfl
  .have:x≠n:=by rintro rfl;exact h v Nk
   simp[this]
theorem l9{x:Str}{v:Value}:∀{P:List Str} {vs:List Value} {i:Nat} {m:Str->Option Value},P.Nodup->P[i]?=some x->vs[i]?=some v->kindOf x=some .local->
  bindL kindOf (P.zip vs) m x=some v
 | [],_,_,_,_,h,_,_=>by simp at h
 |_::_,[],_,_,_,_,h,_=>by simp at h
 |p::P,w::vs,0,m,nd,b,a,c=>by
  simp at b a;subst b;subst a;show bindL kindOf ((p,w)::P.zip vs) m p=_;unfold bindL;rw[l7 λ v d=>(OJ.mp nd).1 (of_mem_zip d).1,MW c];simp
 |p::P,w::vs,i+1,m,nd,b,a,c=>by
  show bindL kindOf ((p,w)::P.zip vs) m x=_;unfold bindL;exact l9 (i:=i) (OJ.mp nd).2 (~~~b) (~~~a) c
theorem mh{x:Str}{v:Value}:∀{P:List Str} {vs:List Value} {i:Nat} {m:Str->Option Value},P.Nodup->P[i]?=some x->vs[i]?=some v->kindOf x≠some .local->
  bindC kindOf (P.zip vs) m x=some v
 | [],_,_,_,_,h,_,_=>by simp at h
 |_::_,[],_,_,_,_,h,_=>by simp at h
 |p::P,w::vs,0,m,nd,b,a,c=>by
  simp at b a;subst b;subst a;show bindC kindOf ((p,w)::P.zip vs) m p=_;unfold bindC;rw[l8 λ v d=>(OJ.mp nd).1 (of_mem_zip d).1,M8 c];simp
 |p::P,w::vs,i+1,m,nd,b,a,c=>by
  show bindC kindOf ((p,w)::P.zip vs) m x=_;unfold bindC;exact mh (i:=i) (OJ.mp nd).2 (~~~b) (~~~a) c
def start(N:List Str)(vs:List V):St:=vs.map some++List.replicate (N.length - vs.length) none
def iz(CX:sJ)(P:Program)(w:World)(K:ae)(mg:Str->Option Value)(base:Heap)(N:List Str)(qual:Str)(scope:Scope)(f:Addr)(cd:Value)(A:Around)(outer:List Env)(s:Shared)(H:Hp)(E:XK):Cx where
 prog:=P
 w:=w
 K:=K
 mg:=mg
 base:=base
 A:=A.deeper (envOfC qual scope s⁻¹ f cd)
 N:=N
 s₀:=s
 H₀:=H
 env:=envOfC qual scope s⁻¹ f cd
 outer:=outer
 stack:=envOfC qual scope s⁻¹ f cd::outer
 ex:=[]
 calm:=true
 fn:=λ _=>true
 pn:=[]
 xe:=λ e b=>wpAny (model P w) (A.deeper (envOfC qual scope s⁻¹ f cd)) (leaving (envOfC qual scope s⁻¹ f cd) e) (λ _ a=>CX outer H s E e a) (λ c a=>CX outer H s E c a) b
theorem oZ{a:Scope}{n:Nat}{x:Str}(h:a.names.lookup x=some .cell):∃c,(cellsFrom n a.names []).lookup x=some c:=by
 have q:=OT a.names n [] (.inl h);exact N8.mp q
theorem uD{CX:sJ}{w:World}{base:Heap}{N j:List Str}{qual:Str}{scope:Scope}{B:Value}{A:Around}{outer:List Env}{F:Shared}{E:XK}
  (S:fW N j scope) (O:A.handled=none) (g:qZ P w K mg base A outer s H) (U:vs.length=j.length) (r:Vals vs us)
  (x:InCallC s s⁻¹ (bindL (envOfC qual scope s⁻¹ f B).kindOf (j.zip us) λ _=>none) (cellsFrom (s⁻¹+1) scope.names []) (bindC (envOfC qual scope s⁻¹ f B).kindOf (j.zip us) λ _=>none) F) :
  Inv (iz CX P w K mg base N qual scope f B A outer s H E) [] (start N vs) H F:=by
 have M:j.length<=N.length:=by have:=OE List.length S.pre;rw[Of] at this;omega
 let⟨t,T,rfl,I⟩:=x.done;have D:∀b:Addr,b∉(iz CX P w K mg base N qual scope f B A outer s H E).ex:=λ b z=>absurd (show b∈([]:List Addr) from z) 's';refine⟨⟨g.mod,S.kind,rfl,rfl,MK _,λ y z c t d=>?_,λ y l=>?_,λ y c _ h=>?_,λ _=>O,Around.frames_deeper g.frames,.inr ⟨rfl,rfl⟩,λ b z=>absurd z (D b),g.bs,g.bsz,λ b _ _=>D b,λ b z=>absurd z (D b),g.g6,g.frf⟩,
  rfl,g.bare,Un.kept I,⟨_,x.toInCall.ns,λ i y v t d X=>?_⟩,λ y c h=>⟨_,x.cell y c h⟩,g.hok.fresh (MK _),λ y c h=>?_,λ p m=>absurd (show p∈([]:List (Addr×Obj)) from m) 's',g.hok.kept I,?_⟩
 .exact name_of_addr x.apart (Nl t) (Nl d)
 .have l:scope.names.lookup y=some .cell\/scope.names.lookup y=some .free:=l;rcases l with l | l
  .exact oZ l
  .exact absurd rfl (S.nofree _ (Nl l))
 .exact OR (x.above y c (Nl h))
 .have o:i<vs.length:=by
   unfold start at d
   by_cases o:i<vs.length
   .exact o
   .rw[MU (~~~o)] at d;rw[getElem?_replicate] at d;split at d<;>cases d
  have R:vs[i]?=some v:=by
   unfold start at d;rw[ML (~~~o),Pe] at d;cases e:vs[i]? with
   |none=>rw[e] at d;cases d
   |some a=>rw[e] at d;cases d;rfl
  let⟨u,G,L⟩:=r.get R;have m:j[i]?=some y:=by
   rw[<-S.pre,Oa 'o'];exact t
  have J:j.Nodup:=by rw[<-S.pre];exact S.nd.sublist (take_sublist _ _)
  refine⟨u,L,?_⟩;rcases S.par y (Nm m) with k | k
  .exact .inl ⟨k,l9 J m G k⟩
  .let⟨c,e⟩:=oZ (n:=s⁻¹+1) k;refine .inr ⟨.inl k,c,e,?_⟩;have q:=x.cell y c e;rw[mh J m G (by show scope.names.lookup y≠_;rw[k];decide)] at q;exact q
 .exact g.hok.fresh (OR (x.above y c (Nl h)))
 .unfold start;show _=N.length;rw[N9,M0,length_replicate];omega
theorem BG{CX:sJ}{w:World}{base:Heap}{k:Nat}{name qual:Str}{c:Arguments}{body:List Stmt}{scope:Scope}{Y X B U a ct oc:Value}{an od:Option Addr}
  {J:Array (Option Value)} {N D:List Str} {sp:Sp} (lk:K.lookup f=some ⟨oc,od,.func (PySem.W.fnOf name qual c body scope Y X B U an a ct),J⟩) (O:PySem.W.codeIn K a qual=true) (S:fW N D scope)
  (m:∀vs H Q E,sp vs H Q E->vs.length=D.length)
  (j:∀(A:Around) (outer:List Env) (s:Shared) (H:Hp) (vs:List V) (Q:VK) (E:XK),bI k (A.deeper (envOfC qual scope s⁻¹ f a))->sp vs H Q E->
   ∃t,gF (iz CX P w K mg base N qual scope f a A outer s H E) body t/\t {nx:=λ _ h=>Q .non h,rt:=Q} (start N vs) H) :
  bQ P w K mg base CX (k+1) f (PySem.W.fnOf name qual c body scope Y X B U an a ct) D sp:=by
 refine⟨m,λ A outer s H Z us vs Q E M z hb r T=>?_⟩;have hl:=m _ _ _ _ T;have KX:K.In s.heap:=z.mod.kin.keeps λ b o e=>(z.bs b o e).1;have L:s.heap.NoLimit:=z.mod.nolimit.keeps λ b o e=>(z.bs b o e).1;have i:∀y∈D.zip us,scope.names.lookup y.1=some .local\/(scope.names.lookup y.1=some .cell/\((cellsFrom (s⁻¹+1) scope.names []).lookup y.1).isSome=true):=λ ⟨n,v⟩ hy=>by
  rcases S.par n (of_mem_zip hy).1 with q | q
  .exact .inl q
  .exact .inr ⟨q,OT _ _ _ (.inl q)⟩
 refine codeAny_call_function M.depth (KX _ _ lk) rfl S.co S.gen rfl (PySem.W.codeRec_of KX O) (hb _ _ _ _ ?_);refine wpAny_newFunctionEnv_cells S.kind i λ env he R x=>?_;subst he;refine⟨L.keeps x.toInCall.keep,codeAny_func ?_⟩;let⟨t,ht,hq⟩:=j A outer s H vs Q E (M.deeper _) T;have I:Inv (iz CX P w K mg base N qual scope f a A outer s H E) [] (start N vs) H R:=uD S M.hd z hl r x;refine MV (ht [] R (start N vs) H _ I hq) (λ fl F l=>?_) λ e F l=>l;have p:∀{d:St} {h:Hp} {v:V} {u:Value},Inv (iz CX P w K mg base N qual scope f a A outer s H E) [] d h F->RelV v u->Q v h->CE outer P w H s Q u F:=
  λ {d h v u} g G q=>⟨v,h,g.os,g.bare,g.base,g.hok,G,q⟩
 cases fl with
 |ret u=>
  let⟨v,d,h,g,G,q⟩:=l;exact p g G q
 |next=>
  let⟨d,h,g,q⟩:=l;exact p (v:=V.non) (u:=Value.none) g rfl q
 |brk=>
  let⟨_,_,_,q⟩:=l;exact False.elim q
 |cont=>
  let⟨_,_,_,q⟩:=l;exact False.elim q
end L2
namespace L2
open PySem PySem.Spec PyProof.Rows List
section
variable{X:Cx}{x:Str}{p pos:Pos}{e:Expr}{es:List Expr}{t:TA}{id T:String}{r:List V->Hp->VK->Prop}
def J4(r:List V->Hp->VK->Prop)(t:TA):TE:=fun Y H Q=>t Y H λ a b=>r a b Q
theorem jZ(q:cg X (.builtin id) r)(n:Gl X x)(m:X.mg x=none)(k:bootBuiltins x=@(.builtin id))(u:PA X (e::es) t)(l:x≠"__name__":=by decide)(b:(x==("__debug__":Str))=false:=by decide)
  (o:starEach (e::es) X.env=(false,eval e X.env)::starEach es X.env:=by rfl) (a:(backTo pos (starEach es X.env)).any (·.1)=false:=by rfl):PE X (.Call (.Name x p) (e::es) [] pos) (J4 r t):=by
 intro c s Y H Q I h;refine Nt (gm I n m k ?_ l b);exact PyProof.Rows.callWith_builtin1 (br (u pos c s Y H _ I h) λ f g ⟨d,w,v,i,j⟩=>q c g Y w d f Q v i j) o a
theorem uF(q:cg X (.type T) r)(n:Gl X x)(m:X.mg x=none)(k:bootBuiltins x=@(.type T))(u:PA X (e::es) t)(l:x≠"__name__":=by decide)(b:(x==("__debug__":Str))=false:=by decide)
  (o:starEach (e::es) X.env=(false,eval e X.env)::starEach es X.env:=by rfl) (a:(backTo pos (starEach es X.env)).any (·.1)=false:=by rfl):PE X (.Call (.Name x p) (e::es) [] pos) (J4 r t):=by
 intro c s Y H Q I h;refine Nt (gm I n m k ?_ l b);exact NJ (br (u pos c s Y H _ I h) λ f g ⟨d,w,v,i,j⟩=>q c g Y w d f Q v i j) o a
theorem q9(g:cg X (.type T) r)(f:Gl X x)(d:X.mg x=none)(b:bootBuiltins x=@(.type T))(c:x≠"__name__":=by decide)(a:(x==("__debug__":Str))=false:=by decide) :
  PE X (.Call (.Name x p) [] [] pos) (J4 r wm):=by
 intro i s Y H Q I h;refine Nt (gm I f d b ?_ c a);exact PyProof.Rows.callWith_type0 (g i s Y H [] [] Q I .nil h)
end
end L2
namespace HT
open PySem PyProof.Rows List
def lexLt:List Int->List Int->Bool
 | [],[]=>false
 | [],_::_=>true
 |_::_,[]=>false
 |x::xs,y::ys=>if x=y then lexLt xs ys else decide (x<y)
section
open PySem.SeqAt List
open PySem.AutoSeq1 (wpAny_loadPart')
open PySem.MeetsSeq PySem.MeetsSeq2 PySem.MeetsSeq3 List
end
section
variable{prog:Program}{w:World}{A:Around}{E:Value->Shared->Prop}{s:Shared}
theorem zQ{t b:Addr}{vs ws:List Value}{Q:Value->Shared->Prop}(x:IsTup s.heap t vs.toArray)(y:IsTup s.heap b ws.toArray)(o:vs≠[])
  (B:ws=[]->Q (.ref t) s) (z:ws≠[]->Q (.ref s⁻¹) {s with heap:=s.heap.push {cls:=.type "tuple",data:=.seq (vs++ws).toArray}})
  (j:vs.length+ws.length<=sizeLine):wpAny (model prog w) A (binaryOp .Add (.ref t) (.ref b)) Q E s:=by
 let⟨⟨C,r,u,l⟩,i,q,n,p⟩:=id x;let⟨⟨v,g,k,c⟩,a,f,m,d⟩:=id y;simp only at q p f d;subst q p f d;have e:vs.toArray++ws.toArray=(vs++ws).toArray:=by simp
 by_cases h:ws=[]
 .exact Qa ⟨_,i,rfl⟩ ⟨_,a,rfl⟩ PR Qu OU ON (OF _ _)
   (tuple_addW1 t b vs.toArray ws.toArray n m r g l c (~~~o) (by simp[h])) ⟨i,a,B h⟩
 .refine Qa ⟨_,i,rfl⟩ ⟨_,a,rfl⟩ PR Qu OU ON (OF _ _)
   (tuple_addW2 t b vs.toArray ws.toArray n m r g l c (~~~o) (~~~h) (by rw[MS,MS];exact j)) ⟨i,a,?_⟩
  rw[e];exact z h
def fy(n d:Nat):Option Int->Nat
 |none=>d
 |some v=>if v<0 then (v+(n:Int)).toNat else min v.toNat n
theorem sL(v:Int)(n d:Nat):(if v<0 then max (v+(n:Int)) 0 else min v (n:Int))=((fy n d (some v):Nat):Int):=by
 show (if v<0 then max (v+(n:Int)) 0 else min v (n:Int))=(((if v<0 then (v+(n:Int)).toNat else min v.toNat n):Nat):Int)
 by_cases a:v<0
 .erw[MW a];omega
 .erw[M8 a];omega
theorem rj(lo a:Option Int)(n:Nat):Builtin.Slice.sliceAdjust lo a 1 (n:Int)=(((fy n 0 lo:Nat):Int),((fy n n a:Nat):Int)):=by
 have b:¬((1:Int)<0):=by omega
 unfold Builtin.Slice.sliceAdjust;erw[b,Np];refine O5 ?_ ?_
 .cases lo with
  |none=>rfl
  |some v=>exact sL v n 0
 .cases a with
  |none=>rfl
  |some v=>exact sL v n n
theorem rm(i j:Nat):Builtin.Slice.slicePlaces (i:Int) (j:Int) 1=j - i:=by
 unfold Builtin.Slice.slicePlaces;have a:(1:Int)>0:=by omega
 erw[a,Nf,Int.ediv_one];split<;>omega
theorem j0{v:Value}{o:Option Int}{Q:Option Int->Shared->Prop}(p:IsPart v o)(h:Q o s):wpAny (model prog w) A (Builtin.Slice.slicePartIndex v) Q E s:=by
 cases p with
 |none=>exact slicePart_none h
 |int i t=>exact slicePart_int h
theorem iY{f:Addr}{e d:Value}{lo b:Option Int}{n:Nat}{Q:Int×Int×Nat->Shared->Prop}(j:s.heap.IsSliceOf f e d .none)(i:IsPart e lo)(g:IsPart d b)
  (h:Q (((fy n 0 lo:Nat):Int),1,fy n n b - fy n 0 lo) s):wpAny (model prog w) A (Builtin.Slice.sliceApplied (.ref f) (pure (n:Int))) Q E s:=by
 let⟨l,a,k,c⟩:=id j;unfold Builtin.Slice.sliceApplied Builtin.Slice.sliceFields;refine MF (MF (Nv a c (x:=e) rfl (MF (Nv a c (x:=d) rfl (MF (Nv a c (x:=.none) rfl (MP ?_)))))));refine MF (slicePart_none ?_);show wpAny _ _ (if ((1:Int)==0)=true then _ else _) _ _ s;rw[M8 'd'];refine MF (j0 i (MF (j0 g (MF (MP ?_)))));show wpAny _ _ (match Builtin.Slice.sliceAdjust lo b 1 (n:Int) with | (lo,b)=>pure (lo,(1:Int),Builtin.Slice.slicePlaces lo b 1)) _ _ s;rw[rj lo b n];show wpAny _ _ (pure (((fy n 0 lo:Nat):Int),(1:Int),Builtin.Slice.slicePlaces ((fy n 0 lo:Nat):Int) ((fy n n b:Nat):Int) 1)) _ _ s;rw[rm];exact MP h
end
end HT
namespace L2
open PySem PySem.Spec PyProof.Rows List
abbrev TO:=St->Hp->(Option Int->Hp->Prop)->Prop
def PO(X:Cx)(e:Option Expr)(t:TO):Prop:=
 ∀(a:List (Addr×Obj)) (s:Shared) (Y:St) (H:Hp) (Q:Option Int->Hp->Prop),Inv X a Y H s->t Y H Q->
  wpAny (model X.prog X.w) X.A (evalPart e X.env) (λ u c=>∃o b,Inv X a Y b c/\IsPart u o/\Q o b) X.xe s
def zR:TO:=λ _ H Q=>Q none H
def Hg(t:TE):TO:=fun Y H Q=>t Y H λ x a=>∃i,x=.int i/\Q (some i) a
theorem intsAre_of{ns:List Int}:∀{us:List Value},Vals (ns.map V.int) us->IntsAre us ns:=by
 induction ns with
 |nil=>intro us r;rw[Qq] at r;cases r;exact .nil
 |cons n ns c=>
  intro us r;rw[Ni] at r;cases r with
  |cons b a=>
   let⟨t,e⟩:=b;subst e;exact .cons n t (c a)
section
variable{X:Cx}{e:Expr}{te:TE}{lo hi:Option Expr}{tl th:TO}{pos p2:Pos}
theorem zS:PO X none zR:=by
 intro a s Y H Q I h;rw[evalPart_none];exact MP ⟨none,H,I,.none,h⟩
theorem zT(h:PE X e te):PO X (some e) (Hg te):=by
 intro d s Y H Q I c;rw[evalPart_some];refine br (h d s Y H _ I c) λ u j ⟨x,g,f,a,b⟩=>?_;let⟨i,rfl,q⟩:=b;let⟨t,rfl⟩:=a;exact⟨some i,g,f,.int i t,q⟩
def Hh(X:Cx)(r:V->Option Int->Option Int->Hp->VK->Prop):Prop:=
 ∀(d:List (Addr×Obj)) (s:Shared) (Y:St) (H:Hp) (x:V) (v b a:Value) (lo hi:Option Int) (c:Addr) (Q:VK),Inv X d Y H s->RelV x v->s.heap.IsSliceOf c b a .none->IsPart b lo->IsPart a hi->r x lo hi H Q->
  ∃T f,typeLookup (.type T) "__getitem__"=pure @(.builtin f)/\s.TypeIs v T/\wpAny (model X.prog X.w) X.A (getItem v (.ref c)) (EP X d Y Q) X.xe s
def LX(r:V->Option Int->Option Int->Hp->VK->Prop)(te:TE)(tl th:TO):TE:=fun Y H Q=>te Y H λ x c=>tl Y c λ l b=>th Y b λ u a=>r x l u a Q
theorem wF{r:V->Option Int->Option Int->Hp->VK->Prop}(B:Hh X r)(E:PE X e te)(C:PO X lo tl)(y:PO X hi th):PE X (.Subscript e (.Slice lo hi none p2) pos) (LX r te tl th):=by
 intro c s Y H Q I h;refine Subscript_ (br (E c s Y H _ I h) λ v j ⟨x,N,L,k,o⟩=>?_);refine wpAny_Slice (br (C c j Y N _ L o) λ f i ⟨l,M,K,t,n⟩=>br (y c i Y M _ K n) λ d a ⟨u,g,J,p,m⟩=>?_);rw[evalPart_none];refine MP ?_;have G:Inv X c Y g {a with heap:=a.heap.push {cls:=.type "slice",data:=.fields #[f,d,.none]}}:=J.kept (t':=a.toks) λ b O q=>MH _ q;let⟨T,P,F,z,D⟩:=B c {a with heap:=a.heap.push {cls:=.type "slice",data:=.fields #[f,d,.none]}} Y g x v f d l u a⁻¹ Q G k (Heap.IsSliceOf.new ..) t p m;show wpAny (model X.prog X.w) X.A (subscriptTail e (.Slice lo hi none p2) v (.ref a⁻¹)) (EP X c Y Q) X.xe {a with heap:=a.heap.push {cls:=.type "slice",data:=.fields #[f,d,.none]}};exact tail_any (ops:=[.ref a⁻¹,v]) z F D (by with_unfolding_all rfl)
def uG(xs:List V)(lo hi:Option Int):List V:=(xs.drop (HT.fy xs.length 0 lo)).take (HT.fy xs.length xs.length hi - HT.fy xs.length 0 lo)
theorem pe(xs:List V)(lo hi:Option Int):(uG xs lo hi).length<=xs.length:=by
 unfold uG;rw[Of,length_drop];omega
def Hi(K:ae):R2:=λ x y H Q=>∃a b d c,x=.ref a/\y=.ref b/\dQ K H a d/\dQ K H b c/\d≠[]/\d.length+c.length<=sizeLine/\
 (c=[]->Q (.ref a) H)/\(c≠[]->∀p,H p=none->Q (.ref p) (upd H p (.tup (d++c))))
theorem Vals.nI{xs:List V}{us:List Value}(r:Vals xs us):us=[]↔xs=[]:=by
 cases r with
 |nil=>simp
 |cons _ _=>simp
theorem zU:fu X (binaryOp .Add) (Hi X.K):=by
 intro D s Y H x y v u Q I l k h;let⟨a,b,j,i,rfl,rfl,B,A,t,g,n,m⟩:=h;cases l;cases k;let⟨r,d,p,_⟩:=I.tuple B;let⟨f,c,p2,_⟩:=I.tuple A;refine HT.zQ p p2 (λ z=>t (d.nI.mp z)) (λ z=>⟨.ref a,H,I,rfl,n (c.nI.mp z)⟩) (λ z=>?_) (by rw[<-d.length,<-c.length];exact g);refine⟨.ref s⁻¹,_,I.laid (t':=s.toks) (o:=.tup (j++i)) (λ b C q=>MH _ q) (MK _) ?_,rfl,m (λ w=>z (c.nI.mpr w)) _ (I.hok.fresh (MK _))⟩;exact⟨by rw[N9];exact g,_,d.append c,IsTup.new _ _⟩
end
end L2
namespace L2
open PySem PySem.Spec PyProof.Rows List
variable{H:Hp}{aa:List (Addr×Obj)}{s:Shared}{Y:St}
def vJ(n:Nat)(i:Int):Option Nat:=if 0<=i then (if i<n then some i.toNat else none) else if -(n:Int)<=i then some (i+n).toNat else none
def sM{a:Type}(xs:List a)(i:Int):Option a:=(vJ xs.length i).bind λ j=>xs[j]?
theorem sN{n:Nat}{i:Int}{j:Nat}(h:vJ n i=some j):seqIndex? i n=some j/\j<n/\-(n:Int)<=i/\i<n:=by
 unfold vJ at h
 by_cases b:0<=i
 .rw[MW b] at h
  by_cases a:i<n
  .rw[MW a] at h;have e:i.toNat=j:=Nd h;exact⟨by rw[seqIndex_of b a,e],by omega,by omega,a⟩
  .rw[M8 a] at h;cases h
 .rw[M8 b] at h
  by_cases a:-(n:Int)<=i
  .rw[MW a] at h;have e:(i+n).toNat=j:=Nd h;exact⟨by rw[Qz 'o' a,e],by omega,a,by omega⟩
  .rw[M8 a] at h;cases h
theorem nJ{a:Type}{xs:List a}{i:Int}{v:a}(h:sM xs i=some v):∃j,seqIndex? i xs.length=some j/\xs[j]?=some v/\j<xs.length/\-(xs.length:Int)<=i/\i<xs.length:=by
 unfold sM at h;cases e:vJ xs.length i with
 |none=>rw[e] at h;cases h
 |some j=>
  rw[e] at h;let⟨f,d,c,b⟩:=sN e;exact⟨j,f,h,d,c,b⟩
def jJ(b:Expr):Prop:=∀o i,subscripted b false o i=operate [o,i] (getItem o i)
def DA(X:Cx)(r:R2):Prop:=
 ∀(b a:Expr) (aa:List (Addr×Obj)) (s:Shared) (Y:St) (H:Hp) (x y:V) (v u:Value) (Q:VK),Inv X aa Y H s->RelV x v->RelV y u->r x y H Q->
  subscripted a false v u=operate [v,u] (getItem v u)->wpAny (model X.prog X.w) X.A (subscriptTail b a v u) (EP X aa Y Q) X.xe s
def DB(X:Cx)(c:String)(r:V->List V->Hp->VK->Prop):Prop:=
 ∀(aa:List (Addr×Obj)) (s:Shared) (Y:St) (H:Hp) (x:V) (a:List V) (v:Value) (b:List Value) (Q:VK),Inv X aa Y H s->RelV x v->Vals a b->r x a H Q->
  wpAny (model X.prog X.w) X.A (call (.builtin c) (v::b)) (EP X aa Y Q) X.xe s
section
variable{X:Cx}{a b:Expr}{ta tb:TE}{pos:Pos}
theorem BH{r:R2}(g:DA X r)(j:PE X a ta)(i:PE X b tb)(f:jJ b):PE X (.Subscript a b pos) (Je r ta tb):=by
 intro aa s Y H Q I h;exact Subscript_ (Di j i I h λ v u c x y l k e d q=>g a b aa c Y l x y v u Q k e d q (f _ _))
def J5(K:ae):R2:=λ x y H Q=>∃p c i v,x=.ref p/\y=.int i/\gk K H p c/\sM c i=some v/\Q v H
def J6(K:ae):R2:=λ x y H Q=>∃p c i v,x=.ref p/\y=.int i/\dQ K H p c/\sM c i=some v/\Q v H
def J7:R2:=λ x y H Q=>∃z i c,x=.str z/\y=.int i/\z.length<=sizeLine/\sM z.cps.toList i=some c/\Q (.str ⟨#[c]⟩) H
theorem zV:DA X (J5 X.K):=by
 intro e f aa s Y H x y v u Q I D C h n;let⟨p,N,i,z,rfl,rfl,E,G,q⟩:=h;cases D;let⟨t,rfl⟩:=C;let⟨l,r,k,O⟩:=I.list E;let⟨j,d,M,R,L,J⟩:=nJ G;let⟨w,A,g⟩:=r.get M;have F:=r.length;have P:=g7;have c:EP X aa Y Q w s:=⟨z,H,I,g,q⟩
 by_cases o:0<=i
 .have m:i.toNat=j:=by
   rw[seqIndex_of o J] at d;exact Nd d
  exact item_listR k.isList o 'o' (by rw[m];simpa using A) c n
 .have m:(i+(l.toArray.size:Int)).toNat=j:=by
   rw[Qz 'o' L] at d;rw[MS,<-F];exact Nd d
  exact subscriptTail_builtinR (x:=w) k.isList.typeIs slot_list_getitem.lookup
   (wpAny_getItem_list_neg (Q:=λ r B=>r=w/\EP X aa Y Q r B) k.isList 'o' (by rw[MS]<;>omega) 'o' (by rw[m];simpa using A) ⟨rfl,c⟩) n
theorem DC:DA X (J6 X.K):=by
 intro c d aa s Y H x y v u Q I m l h o;let⟨p,G,i,z,rfl,rfl,A,C,q⟩:=h;cases m;let⟨t,rfl⟩:=l;let⟨n,r,g,J⟩:=I.tuple A;let⟨j,E,D,O,N,M⟩:=nJ C;let⟨w,F,e⟩:=r.get D;have B:=r.length;have L:=g7;have f:EP X aa Y Q w s:=⟨z,H,I,e,q⟩;exact subscriptTail_builtinR (x:=w) g.typeIs slot_tuple_getitem.lookup
  (getItem_tuple (j:=j) (Q:=λ r k=>r=w/\EP X aa Y Q r k) g 'o' 'o' (by rw[MS,<-B];exact E) (~~~F) ⟨rfl,f⟩) o
theorem DE:DA X J7:=by
 intro d e aa s Y H x y v u Q I k g h l;let⟨z,i,c,rfl,rfl,C,n,q⟩:=h;let⟨t,rfl⟩:=k;let⟨B,rfl⟩:=g;let⟨j,f,r,E,p,o⟩:=nJ n;have m:z.cps.toList.length=z.length:=by simp[Str.length]
 rw[m] at f p o;have D:=g7;exact tail_any (typeIs_str s z t) slot_str_getitem.lookup (getItem_str (c:=c) (by
  have A:decide (i < -(2^63:Int))=false:=Ng 'o';have w:decide (i≥2^63)=false:=Ng 'o';rw[A,w,Bool.or_false]) (by rw[f];simpa using r) ⟨.str ⟨#[c]⟩,H,I.tok _,⟨_,rfl⟩,q⟩) l
theorem rq(its:List Value)(n j:Nat)(u:Value):Obj.mapSeq (·.setIfInBounds j u) {cls:=.type "list",data:=.seq its.toArray n}={cls:=.type "list",data:=.seq (its.set j u).toArray n}:=by
 simp[Obj.mapSeq]
theorem Inv.lst{p:Addr}{xs:List V}(I:Inv X aa Y H s)(h:H p=@(.lst xs)) :
  ∃(its:List Value) (n:Nat),Vals xs its/\s.heap.get? p=some {cls:=.type "list",data:=.seq its.toArray n}/\xs.length<=sizeLine:=by
 let⟨z,its,n,r,e⟩:=I.hok p _ h;exact⟨its,n,r,e,z⟩
theorem Inv.DF{p:Addr}{xs ys:List V}{its its':List Value}{n c:Nat}{f:Obj->Obj}(I:Inv X aa Y H s)(h:H p=@(.lst xs))
  (ho:s.heap.get? p=some {cls:=.type "list",data:=.seq its.toArray n}) (d:f {cls:=.type "list",data:=.seq its.toArray n}={cls:=.type "list",data:=.seq its'.toArray c}) (r:Vals ys its') (g:ys.length<=sizeLine) (t:Nat) :
  Inv X aa Y (upd H p (.lst ys)) {s with heap:=s.heap.update p f,toks:=t}:=by
 have e:(s.heap.update p f).get? p=some {cls:=.type "list",data:=.seq its'.toArray c}:=by
  rw[N5 f ho (by rw[d]<;>rfl),d]
 refine I.write (x:=p) (e:=p) (by rw[h];trivial) (.inl rfl) (λ b u i q=>(NN _ _ (Ne.symm i)).trans q) ⟨_,e⟩ ?_;exact⟨g,its',c,r,e⟩
def Hj:V->V->V->Hp->(Hp->Prop)->Prop:=λ o i v H Q=>∃p c k j,o=.ref p/\i=.int k/\H p=some (.lst c)/\vJ c.length k=some j/\Q (upd H p (.lst (c.set j v)))
theorem set_list:C8 X Hj:=by
 intro aa s Y H o i v F G u Q I B C A h;let⟨p,z,k,j,rfl,rfl,l,E,q⟩:=h;cases B;let⟨t,rfl⟩:=C;let⟨c,n,r,e,D⟩:=I.lst l;let⟨d,K,w,m⟩:=sN E;have f:=r.length;have J:=g7;have y:Inv X aa Y (upd H p (.lst (z.set j v))) {s with heap:=s.heap.update p (Obj.mapSeq (·.setIfInBounds j u))}:=
  I.DF l e (rq c n j u) (r.set A j) (by rw[Oh];exact D) s.toks
 by_cases x:0<=k
 .have g:k.toNat=j:=by
   rw[seqIndex_of x m] at d;exact Nd d
  exact PySem.W.ki_setAt e x 'o' (by rw[MS,<-f];exact m) (by rw[g];exact⟨_,y,q⟩)
 .have g:(k+(c.toArray.size:Int)).toNat=j:=by
   rw[Qz 'o' w] at d;rw[MS,<-f];exact Nd d
  exact PySem.W.ki_setBack e 'o' (by rw[MS,<-f];exact w) 'o' (by rw[g];exact⟨_,y,q⟩)
theorem nK(lo c:Option Int)(n:Nat):(sliceBounds lo c none n).1=((HT.fy n 0 lo:Nat):Int)/\(sliceBounds lo c none n).2.1=((HT.fy n n c:Nat):Int)/\(sliceBounds lo c none n).2.2=1:=by
 refine⟨?_,?_,rfl⟩
 .cases lo with
  |none=>simp[sliceBounds,HT.fy]
  |some i=>
   erw[sliceBounds,HT.fy,PU,show (1:Int)>0 by decide,Nf]
   by_cases h:i<0
   .erw[h,Nf]<;>omega
   .erw[h,Np]<;>omega
 .cases c with
  |none=>simp[sliceBounds,HT.fy]
  |some i=>
   erw[sliceBounds,HT.fy,PU,show (1:Int)>0 by decide,Nf]
   by_cases h:i<0
   .erw[h,Nf]<;>omega
   .erw[h,Np]<;>omega
theorem lE(its:List Value)(lo c:Option Int):slicePick its.toArray lo c none=((its.drop (HT.fy its.length 0 lo)).take (HT.fy its.length its.length c - HT.fy its.length 0 lo)).toArray:=by
 let⟨f,e,d⟩:=nK lo c its.toArray.size;unfold slicePick;rw[f,e,d];erw[sliceRange_one,pick_run,MS]<;>rfl
def J8(K:ae):V->Option Int->Option Int->Hp->VK->Prop:=λ x d e H Q=>∃a c,x=.ref a/\gk K H a c/\∀p,H p=none->Q (.ref p) (upd H p (.lst (uG c d e)))
theorem zW:Hh X (J8 X.K):=by
 intro aa s Y H x v u t e f w Q I i p k j h;let⟨a,c,rfl,n,q⟩:=h;cases i;let⟨l,r,g,m⟩:=I.list n;have d:=r.length;refine⟨"list",_,slot_list_getitem.lookup,g.isList.typeIs,?_⟩;refine wpAny_getItem_list_slice g.isList p k j .none 's' ?_ (by rw[MS]<;>omega);rw[lE,<-d];refine⟨.ref s⁻¹,_,I.laid (t':=s.toks) (o:=.lst (uG c e f)) (λ b y q=>MH _ q) (MK _) ?_,rfl,q _ (I.hok.fresh (MK _))⟩;exact⟨Na (pe c e f) m,_,0,(r.drop (HT.fy c.length 0 e)).take (HT.fy c.length c.length f - HT.fy c.length 0 e),MR _ rfl⟩
theorem nL:cg X (.builtin "len") (λ xs H Q=>∃p ys,xs=[.ref p]/\(gk X.K H p ys\/dQ X.K H p ys)/\Q (.int ys.length) H):=by
 intro aa s Y H xs k Q I r h;let⟨p,ys,rfl,d,q⟩:=h;let⟨u,rfl,i⟩:=vals1 r;cases i;have l:=g7;rcases d with d | d
 .let⟨g,e,f,j⟩:=I.list d;have c:=e.length;exact Calls.call_len_list f.isList (by erw[MS]<;>omega) ⟨.int ys.length,H,I.tok _,⟨s.toks+1,by rw[MS,c]⟩,q⟩
 .let⟨g,e,f,j⟩:=I.tuple d;have c:=e.length;exact len_tuple f (by erw[MS]<;>omega) ⟨.int ys.length,H,I.tok _,⟨s.toks+1,by rw[MS,c]⟩,q⟩
theorem nM:cg X (.builtin "len") (λ xs H Q=>∃z,xs=[.str z]/\z.length<=sizeLine/\Q (.int z.length) H):=by
 intro aa s Y H xs c Q I r h;let⟨z,rfl,d,q⟩:=h;let⟨u,rfl,t,rfl⟩:=vals1 r;have e:=g7;exact len_str 'o' ⟨.int z.length,H,I.tok _,⟨_,rfl⟩,q⟩
theorem nN:cg X (.type "list") (λ xs H Q=>∃p ys,xs=[.ref p]/\(gk X.K H p ys\/dQ X.K H p ys)/\∀l,H l=none->Q (.ref l) (upd H l (.lst ys))):=by
 intro aa s Y H xs C Q I r h;let⟨p,ys,rfl,k,q⟩:=h;let⟨u,rfl,B⟩:=vals1 r;cases B;have t:∀(c:List Value),Vals ys c->ys.length<=sizeLine->∀(d:Heap) (g:Nat),(∀b A,s.heap.get? b=some A->d.get? b=some A)->
   d.get? s⁻¹=some {cls:=.type "list",dict:=none,data:=.seq c.toArray g,slots:=#[]}->EP X aa Y Q (.ref s⁻¹) {s with heap:=d}:=λ c f j d g i e=>
  ⟨.ref s⁻¹,_,I.laid (t':=s.toks) i (MK _) (show aW X.prog X.w _ d _ (.lst ys) from⟨j,c,g,f,e⟩),rfl,q _ (I.hok.fresh (MK _))⟩
 rcases k with k | k
 .let⟨c,f,v,j⟩:=I.list k;have m:=f.length;let⟨o,x,z,n,y⟩:=v.isList;exact call_list_seq p (.inl rfl) x z y (λ d g i e=>t c f j d g i e) (by erw[MS]<;>omega)
 .let⟨c,f,v,j⟩:=I.tuple k;have m:=f.length;let⟨o,x,z,n,y⟩:=v;exact call_list_seq p (.inr rfl) x z y (λ d g i e=>t c f j d g i e) (by erw[MS]<;>omega)
theorem lF:cg X (.type "tuple") (λ xs H Q=>∃p ys,xs=[.ref p]/\((gk X.K H p ys/\∀l,H l=none->Q (.ref l) (upd H l (.tup ys)))\/(dQ X.K H p ys/\Q (.ref p) H))):=by
 intro aa s Y H xs x Q I r h;let⟨p,ys,rfl,h⟩:=h;let⟨u,rfl,n⟩:=vals1 r;cases n;rcases h with⟨i,q⟩ | ⟨i,q⟩
 .let⟨c,f,g,j⟩:=I.list i;have k:=f.length;refine call_tuple_list g.isList (λ d t=>?_) (by erw[MS]<;>omega);have m:Inv X aa Y H {s with heap:=d}:=I.kept (t':=s.toks) t;have v:Inv X aa Y (upd H d.objs.size (.tup ys)) {s with heap:=d.push {cls:=.type "tuple",data:=.seq c.toArray}}:=
   m.laid (t':=s.toks) (λ b o e=>MH _ e) (MK _) (show aW X.prog X.w _ _ _ (.tup ys) from⟨j,c,f,IsTup.new _ _⟩)
  exact⟨.ref d.objs.size,_,v,rfl,q _ (m.hok.fresh (MK _))⟩
 .let⟨c,f,g,j⟩:=I.tuple i;exact call_tuple_same g ⟨.ref p,H,I,rfl,q⟩
def pA(K:ae)(T:String)(x:V)(H:Hp):Prop:=match x with
 |.str _=>T="str"
 |.int _=>T="int"
 |.ref p=>(T="list"/\∃d,gk K H p d)\/(T="tuple"/\∃o,K.lookup p=some o/\o.cls=.type "tuple"/\o.dict=none)\/
   (T="dict"/\((∃c,H p=@(.dK c))\/∃c,H p=@(.dT c)))\/(T="set"/\∃S n,H p=@(.set S n))
 |_=>False
theorem wG{T:String}{x:V}{v:Value}(I:Inv X aa Y H s)(r:RelV x v)(g:pA X.K T x H) :
  s.TypeIs v T/\∀a,v=.ref a->Exists λ m=>s.heap.get? a=some m/\m.dict=none:=by
 cases x with
 |str z=>
  let⟨t,rfl⟩:=r;cases (show T="str" from g);exact⟨typeIs_str s z t,λ _ e=>nomatch e⟩
 |int i=>
  let⟨t,rfl⟩:=r;cases (show T="int" from g);exact⟨typeIs_int s i t,λ _ e=>nomatch e⟩
 |ref p=>
  cases r;rcases g with⟨rfl,xs,u⟩ | ⟨rfl,o,d,hc,j⟩ | ⟨rfl,d⟩ | ⟨rfl,S,n,d⟩
  .let⟨q,_,l,_⟩:=I.list u;refine⟨l.isList.typeIs,λ a e=>?_⟩;cases e;let⟨o,n,e,c,j,_⟩:=l;exact⟨o,e,j⟩
  .refine⟨⟨o,I.eS p o d,hc⟩,λ a e=>?_⟩;cases e;exact⟨o,I.eS _ o d,j⟩
  .have z:∃o,s.heap.get? p=some o/\o.ExactDict:=by
    rcases d with⟨h,d⟩ | ⟨h,d⟩
    .let⟨_,_,_,_,o,_,_,e,f,_⟩:=I.hok p _ d;exact⟨o,e,f⟩
    .let⟨_,_,_,_,o,_,_,e,f,_⟩:=I.hok p _ d;exact⟨o,e,f⟩
   let⟨o,e,f⟩:=z;refine⟨⟨o,e,f.1⟩,λ a k=>?_⟩;cases k;exact⟨o,e,f.2.1⟩
  .let⟨o,_,_,_,e,f,_⟩:=I.hok p _ d;refine⟨⟨o,e,f.1⟩,λ a k=>?_⟩;cases k;exact⟨o,e,f.2.1⟩
 |_=>exact False.elim g
variable{o e:Expr}{es:List Expr}{to:TE}{t:TA}{name:Str}{apos cpos:Pos}{T id:String}{r:V->List V->Hp->VK->Prop}
end
end L2
namespace L2
open PySem PySem.Spec PyProof.Rows List
def J9(X:Cx)(d:String)(r:V->List V->Hp->VK->Prop):Prop:=
 ∀(c:List (Addr×Obj)) (s:Shared) (Y:St) (H:Hp) (x:V) (a:List V) (v:Value) (b:List Value) (Q:VK),Inv X c Y H s->RelV x v->Vals a b->r x a H Q->
  wpAny (model X.prog X.w) X.A (call (.builtin d) (v::b)) (EP X c Y Q) X.xe s
theorem Vals.one{x:V}{us:List Value}(h:Vals [x] us):∃u,us=[u]/\RelV x u:=by
 cases h with | cons r t=>cases t;exact⟨_,rfl,r⟩
section
variable{X:Cx}{aa:List (Addr×Obj)}{Y:St}{H:Hp}{s:Shared}{l b:Addr}{xs ys zs:List V}
theorem Inv.DG{its its':List Value}{n:Nat}{f:Array Value->Array Value}{t':Nat}(I:Inv X aa Y H s)(i:H l=@(.lst xs))
  (e:s.heap.get? l=some {cls:=.type "list",data:=.seq its.toArray n}) (g:f its.toArray=its'.toArray) (c:Vals ys its') (a:ys.length<=sizeLine) :
  Inv X aa Y (upd H l (.lst ys)) {s with heap:=s.heap.update l (Obj.mapSeq f),toks:=t'}:=by
 have q:=PySem.IsL.update e f;rw[g] at q;refine I.write (x:=l) (e:=l) (by rw[i];exact trivial) (.inl rfl) (λ j u h d=>(NN s.heap (Obj.mapSeq f) (Ne.symm h)).trans d) ⟨_,q⟩ ?_;exact⟨a,its',_,c,q⟩
theorem Inv.Hl{its:List Value}{t':Nat}(I:Inv X aa Y H s)(c:Vals ys its)(a:ys.length<=sizeLine) :
  Inv X aa Y (upd H s⁻¹ (.lst ys)) {s with heap:=s.heap.push {cls:=.type "list",data:=.seq its.toArray},toks:=t'}:=
 I.laid (λ _ _ q=>MH _ q) (MK _) ⟨a,its,0,c,MR _ rfl⟩
theorem Inv.fresh(I:Inv X aa Y H s):H s⁻¹=none:=I.hok.fresh (MK _)
theorem Inv.Ka(I:Inv X aa Y H s)(a:H l=@(.lst xs)):xs.length<=sizeLine/\∃(its:List Value) (n:Nat),Vals xs its/\xs.length=its.length/\s.heap.get? l=some {cls:=.type "list",data:=.seq its.toArray n}:=by
 let⟨z,its,n,r,e⟩:=I.hok l _ a;exact⟨z,its,n,r,r.length,e⟩
end
section
variable{X:Cx}
def zX:V->List V->Hp->VK->Prop:=λ x b H Q=>∃l a y,x=.ref l/\b=[y]/\H l=some (.lst a)/\a.length<sizeLine/\Q .non (upd H l (.lst (a++[y])))
theorem mj:J9 X "list.append" zX:=by
 intro o s Y H x i v j Q I c d h;let⟨l,g,y,rfl,rfl,b,k,q⟩:=h;cases c;let⟨u,rfl,f⟩:=d.one;let⟨z,a,n,r,m,e⟩:=I.Ka b;refine call_meets F.slot_list_append ⟨_,e,rfl⟩ F.entry_list_append (F.args_list_append_2 _ _) (PySem.list_append l a.toArray n u (by rw[MS];omega)) ⟨e,?_⟩;refine⟨.non,_,I.DG (its':=a++[u]) b e 's' (r.append %[|f]) ?_,rfl,q⟩;rw[N9,length_singleton];omega
end
end L2
namespace L2
open PySem PySem.Spec PyProof.Rows List
variable{H H':Hp}{P:Program}{X:Cx}{kvs:List (List Key×V)}{pos:Pos}{u:Value}{xs:List (List Key×Addr×Value)}{y:V}
section
variable{κ:Type}[DecidableEq κ]
def iZ(kvs:List (κ×V))(k:κ):Option V:=(kvs.find? λ a=>decide (a.1=k)).map (·.2)
def putK(kvs:List (κ×V))(k:κ)(v:V):List (κ×V):=
 if (kvs.any λ a=>decide (a.1=k))=true then kvs.map (λ a=>if a.1=k then (a.1,v) else a) else kvs++[(k,v)]
theorem j3{p:κ×V}{r:List (κ×V)}{k:κ}(e:p.1=k):iZ (p::r) k=some p.2:=by simp[iZ,OL,e]
theorem j4{p:κ×V}{r:List (κ×V)}{k:κ}(e:¬p.1=k):iZ (p::r) k=iZ r k:=by simp[iZ,OL,e]
theorem pB(k:κ):∀kvs:List (κ×V),(kvs.any λ a=>decide (a.1=k))=(iZ kvs k).isSome
 | []=>rfl
 |p::r=>by
  rw[OG]
  by_cases e:p.1=k
  .erw[j3 e,NH e,Bool.true_or,Option.isSome_some]
  .rw[j4 e,Ng e,Qv];exact pB k r
theorem gp(kvs:List (κ×V))(k:κ)(v:V):(putK kvs k v).length<=kvs.length+1:=by
 unfold putK;split
 .rw[M0];omega
 .rw[N9,Nh,Ox];omega
theorem eO.fE{o:Option V}{u:Option Value}(r:eO o u):o.isSome=u.isSome:=by
 cases o with
 |none=>cases u with
  |none=>rfl
  |some _=>exact(show False from r).elim
 |some _=>cases u with
  |none=>exact(show False from r).elim
  |some _=>rfl
theorem KV.val{kvs:List (κ×V)}{vs:List (κ×Value)}(r:KV kvs vs)(k:κ):eO (iZ kvs k) (valueAt vs k):=by
 unfold KV at r
 induction r with
 |nil=>exact True.intro
 |@cons p q ps a h t f=>
  let⟨d,g⟩:=h
  by_cases e:p.1=k
  .have c:q.1=k:=d.symm.trans e;have b:valueAt (q::a) k=some q.2:=by simp[valueAt,OL,c]
   rw[j3 e,b];exact g
  .have c:¬q.1=k:=λ z=>e (d.trans z);have b:valueAt (q::a) k=valueAt a k:=by simp[valueAt,OL,c]
   rw[j4 e,b];exact f
theorem KV.any{kvs:List (κ×V)}{vs:List (κ×Value)}(r:KV kvs vs)(k:κ):(kvs.any λ a=>decide (a.1=k))=vs.any λ a=>decide (a.1=k):=by
 unfold KV at r
 induction r with
 |nil=>rfl
 |cons h t b=>rw[OG,OG,b,h.1]
theorem KV.repl{kvs:List (κ×V)}{vs:List (κ×Value)}(r:KV kvs vs)(k:κ)(c:RelV y u) :
  KV (kvs.map λ a=>if a.1=k then (a.1,y) else a) (vs.map λ a=>if a.1=k then (a.1,u) else a):=by
 unfold KV at r ⊢
 induction r with
 |nil=>exact .nil
 |@cons p q ps g h t d=>
  rw[Ni,Ni];refine .cons ?_ d;let⟨b,f⟩:=h
  by_cases e:p.1=k
  .rw[MW e,MW (b.symm.trans e)];exact⟨b,c⟩
  .rw[M8 e,M8 (λ z=>e (b.trans z))];exact⟨b,f⟩
theorem KV.put{kvs:List (κ×V)}{vs:List (κ×Value)}(r:KV kvs vs)(k:κ)(a:RelV y u):KV (putK kvs k y) (stored vs k u):=by
 unfold putK stored;rw[r.any k]
 by_cases e:(vs.any λ b=>decide (b.1=k))=true
 .rw[MW e,MW e];exact r.repl k a
 .rw[M8 e,M8 e];exact Paired.snoc r ⟨rfl,a⟩
theorem KV.length{kvs:List (κ×V)}{vs:List (κ×Value)}(r:KV kvs vs):kvs.length=vs.length:=PN r
end
theorem mq{w:World}{k:Key}(r:RelV (kV k) u):(aV P w).is k u=true:=by
 cases k with
 |inl i=>let⟨t,e⟩:=(show ∃t,u=Value.int i t from r);subst e;exact oM P w i t
 |inr x=>let⟨t,e⟩:=(show ∃t,u=Value.str x t from r);subst e;exact oN P w x t
theorem mw{w:World}:∀{ks:List Key} {us:List Value},Vals (ks.map kV) us->ItemsAre (aV P w) ks us
 | [],_,r=>by rw[Qq] at r;cases r;exact .nil
 |k::ks,_,r=>by
  rw[Ni] at r;cases r with
  |cons h t=>exact .cons (mq h) (mw t)
abbrev KT(H:Hp):List (List Key×V)->List (List Key×Addr×Value)->Prop:=Paired λ p q=>p.1=q.1/\H q.2.1=some (.tup (p.1.map kV))/\RelV p.2 q.2.2
theorem KT.val(r:KT H kvs xs)(k:List Key):eO (iZ kvs k) ((atKey xs k).map (·.2)):=by
 induction r with
 |nil=>exact True.intro
 |@cons p q ps a h t f=>
  let⟨d,_,g⟩:=h
  by_cases e:p.1=k
  .have c:q.1=k:=d.symm.trans e;have b:atKey (q::a) k=some q.2:=by simp[atKey,OL,c]
   rw[j3 e,b];exact g
  .have c:¬q.1=k:=λ z=>e (d.trans z);have b:atKey (q::a) k=atKey a k:=by simp[atKey,OL,c]
   rw[j4 e,b];exact f
theorem KT.repl(r:KT H kvs xs)(k:List Key)(d:RelV y u) :
  KT H (kvs.map λ b=>if b.1=k then (b.1,y) else b) (xs.map (putAt k u)):=by
 induction r with
 |nil=>exact .nil
 |@cons p q ps i h t f=>
  rw[Ni,Ni];refine .cons ?_ f;let⟨a,c,g⟩:=h;unfold putAt
  by_cases e:p.1=k
  .rw[MW e,MW (a.symm.trans e)];exact⟨a,c,d⟩
  .rw[M8 e,M8 (λ z=>e (a.trans z))];exact⟨a,c,g⟩
theorem KT.put(r:KT H kvs xs)(k:List Key){b:Addr}(d:H b=@(.tup (k.map kV)))(a:RelV y u) :
  KT H (putK kvs k y) (storedH xs k b u):=by
 have e:(kvs.any λ c=>decide (c.1=k))=(atKey xs k).isSome:=by
  rw[pB,(r.val k).fE,PK]
 unfold putK storedH;rw[e]
 by_cases q:(atKey xs k).isSome=true
 .rw[MW q,MW q];exact r.repl k a
 .rw[M8 q,M8 q];exact Paired.snoc r ⟨rfl,d,a⟩
theorem KT.keeps(r:KT H kvs xs)(a:∀b ys,H b=some (.tup ys)->H' b=@(.tup ys)):KT H' kvs xs:=
 Paired.CW r λ _ _ z=>⟨z.1,a _ _ z.2.1,z.2.2⟩
section
variable{P:Program}{w:World}{H:Hp}{h:Heap}{a:Addr}
theorem BI{u:HO}(b:fD P w H h)(e:Rd H a u):aW P w H h a u:=e.ok b
theorem sO{kvs:List (Key×V)}(b:fD P w H h)(e:Rd H a (.dK kvs)):kvs.length<=sizeLine/\(a==sysModules)=false/\∃vs,KV kvs vs/\h.DictOf (aV P w) a vs:=
 show aW P w H h a (.dK kvs) from BI b e
theorem BJ{kvs:List (Key×V)}(b:fD P w H h)(e:H a=@(.dK kvs)):kvs.length<=sizeLine/\(a==sysModules)=false/\∃vs,KV kvs vs/\h.DictOf (aV P w) a vs:=sO b (.inl e)
theorem nO{ks:List Key}(c:fD P w H h)(e:H a=@(.tup (ks.map kV))):(tupleKind (aV P w)).is h ks a:=by
 let⟨_,b,r,o,g,f,n,d⟩:=(show aW P w H h a (.tup (ks.map kV)) from c a _ e);exact⟨o,b.toArray,n,g,f,d,by simpa using mw r⟩
theorem wH(d:fD P w H h)(e:Rd H a (.dT kvs)):kvs.length<=sizeLine/\(a==sysModules)=false/\
  ∃xs,KT H kvs xs/\h.DictOfH (tupleKind (aV P w)) a xs:=by
 let⟨z,y,xs,r,o,v,A,s,n,k,j,i⟩:=(show aW P w H h a (.dT kvs) from BI d e);refine⟨z,y,xs,r,o,v,A,s,n,k,j,λ x b=>?_,i⟩;have c:∀{l:List (List Key×V)} {m:List (List Key×Addr×Value)},KT H l m->∀x∈m,(tupleKind (aV P w)).is h x.1 x.2.1:=by
  intro l m q
  induction q with
  |nil=>intro x b;exact nomatch b
  |@cons p q ps B f t g=>
   intro x b;rcases MX.mp b with e | b
   .subst e;exact nO d (by rw[<-f.1];exact f.2.1)
   .exact g x b
 exact c r x b
theorem Ho(b:fD P w H h)(e:H a=@(.dT kvs)):kvs.length<=sizeLine/\(a==sysModules)=false/\
  ∃xs,KT H kvs xs/\h.DictOfH (tupleKind (aV P w)) a xs:=wH b (.inl e)
end
def zY(H:Hp)(a:Addr)(y:V)(r:Option V):Prop:=
 (∃kvs k,Rd H a (.dK kvs)/\y=kV k/\r=iZ kvs k)\/∃kvs k b,Rd H a (.dT kvs)/\y=.ref b/\H b=some (.tup (k.map kV))/\r=iZ kvs k
def DH(H:Hp)(a:Addr)(y v:V)(H':Hp):Prop:=
 (∃kvs k,H a=some (.dK kvs)/\y=kV k/\kvs.length<sizeLine/\H'=upd H a (.dK (putK kvs k v)))\/
 ∃kvs k b,H a=some (.dT kvs)/\y=.ref b/\H b=some (.tup (k.map kV))/\kvs.length<sizeLine/\H'=upd H a (.dT (putK kvs k v))
theorem zY.k{a:Addr}{kvs:List (Key×V)}{k:Key}(e:H a=@(.dK kvs)):zY H a (kV k) (iZ kvs k):=.inl ⟨kvs,k,.inl e,rfl,rfl⟩
theorem DH.k{a:Addr}{kvs:List (Key×V)}{k:Key}{v:V}(e:H a=@(.dK kvs))(b:kvs.length<sizeLine):DH H a (kV k) v (upd H a (.dK (putK kvs k v))):=.inl ⟨kvs,k,e,rfl,b,rfl⟩
section
variable{X:Cx}{aa:List (Addr×Obj)}{Y:St}{H:Hp}{s:Shared}{a:Addr}{y v:V}{u r:Value}{o:Option V}{A:Around}{E:Value->Shared->Prop}
theorem Inv.big(I:Inv X aa Y H s):sysModules<s⁻¹:=by
 have h:mainGlobals<s⁻¹:=(I.mod.glob.keeps I.bk).lt;exact QA 'd' h
theorem Kc{Q:Value->Shared->Prop}(n:A.units+1<cLine)(I:Inv X aa Y H s)(g:zY H a y o)(m:RelV y u)(h:∀j,Inv X aa Y H j->Q (.bool o.isSome) j) :
  wpAny (model X.prog X.w) A (compareOp .In u (.ref a)) Q E s:=by
 rcases g with⟨kvs,k,e,f,l⟩ | ⟨kvs,k,b,e,f,p,l⟩
 .subst f;let⟨z,d,t,c,i⟩:=sO I.hok e;refine wpAny_in_of (mq m) d i.mapOf ?_;rw[<-(c.val k).fE,<-l];exact h _ (I.tok _)
 .subst f;cases (show u=Value.ref b from m);let⟨z,d,xs,c,i⟩:=wH I.hok e;refine wpAny_in_heap (Py n) (nO I.hok p) d i ?_;have q:=(c.val k).fE;rw[PK] at q;rw[<-q,<-l];exact h _ (I.tok _)
theorem zZ{Q:Value->Shared->Prop}(n:A.units+1<cLine)(I:Inv X aa Y H s)(g:zY H a y o)(m:RelV y u)(h:∀j,Inv X aa Y H j->Q (.bool (!o.isSome)) j) :
  wpAny (model X.prog X.w) A (compareOp .NotIn u (.ref a)) Q E s:=by
 rcases g with⟨kvs,k,e,f,l⟩ | ⟨kvs,k,b,e,f,p,l⟩
 .subst f;let⟨z,d,t,c,i⟩:=sO I.hok e;refine wpAny_notIn_of (mq m) d i.mapOf ?_;rw[<-(c.val k).fE,<-l];exact h _ (I.tok _)
 .subst f;cases (show u=Value.ref b from m);let⟨z,d,xs,c,i⟩:=wH I.hok e;refine wpAny_notIn_heap (Py n) (nO I.hok p) d i ?_;have q:=(c.val k).fE;rw[PK] at q;rw[<-q,<-l];exact h _ (I.tok _)
theorem nP{h':Heap}{t':Nat}{c:HO}(I:Inv X aa Y H s)(f:GH (H a))(g:Heap.SameBut a s.heap h')(h:∃q,h'.get? a=some q)(d:aW X.prog X.w (upd H a c) h' a c) :
  Inv X aa Y (upd H a c) {s with heap:=h',toks:=t'}:=
 I.write (x:=a) (e:=a) f (.inl rfl) (λ b q i z=>(g.2 b i).trans z) h d
theorem wI{w:World}{h':Heap}{kvs:List (Key×V)}{vs:List (Key×Value)}(z:kvs.length<=sizeLine)(c:(a==sysModules)=false)(b:KV kvs vs)(d:h'.DictOf (aV P w) a vs) :
  aW P w H' h' a (.dK kvs):=⟨z,c,vs,b,d⟩
theorem Fy{Q:Unit->Shared->Prop}(M:A.units+1<cLine)(I:Inv X aa Y H s)(g:DH H a y v H')(D:RelV y u)(F:RelV v r)(h:∀C,Inv X aa Y H' C->Q () C) :
  wpAny (model X.prog X.w) A (setItem (.ref a) u r) Q E s:=by
 rcases g with⟨kvs,k,e,t,l,x⟩ | ⟨kvs,k,b,e,t,K,l,x⟩
 .subst t x;let⟨z,p,L,d,B⟩:=BJ I.hok e;have j:L.length<=sizeLine:=by rw[<-d.length];exact z
  have n:(putK kvs k v).length<=sizeLine:=by have:=gp kvs k v;omega
  refine wpAny_setItem_pairs (hsz:=j) (mq D) B λ G f m=>h _ ?_;have N:∃q,G.get? a=some q:=let ⟨q,_,_,i,_⟩:=f;⟨q,i⟩;exact nP I (by rw[e];exact True.intro) m N (wI n p (d.put k F) f)
 .subst t x;cases (show u=Value.ref b from D);let⟨z,p,xs,d,B⟩:=Ho I.hok e;have j:xs.length<=sizeLine:=by rw[<-PN d];exact z
  have n:(putK kvs k v).length<=sizeLine:=by have:=gp kvs k v;omega
  refine wpAny_setItem_heap (hsz:=j) (Py M) (nO I.hok K) B λ G f m=>h _ ?_;let⟨q,U,W,i,T,S,R,_,O⟩:=f;refine nP I (by rw[e];exact True.intro) m ⟨q,i⟩ ⟨n,p,_,(d.put k K F).keeps λ c Z J=>?_,q,U,W,i,T,S,R,O⟩;rw[ai (GG J e (λ z=>nomatch z))];exact J
end
theorem pC{w:World}(h:Heap)(a:sysModules<h.objs.size):aW P w H (h.push {cls:=.type "dict",data:=.dict #[]}) h.objs.size (.dK []):=
 ⟨N7 _,N1.mpr (Ne.symm (MQ a)),[],.nil,Heap.DictOf.new h⟩
def nQ:List (TE×TE)->St->Hp->(List (V×V)->Hp->Prop)->Prop
 | [],_,H,Q=>Q [] H
 |(tk,a)::r,Y,H,Q=>tk Y H λ x e=>a Y e λ y d=>nQ r Y d λ b c=>Q ((x,y)::b) c
abbrev VV:List (V×V)->List (Value×Value)->Prop:=Paired λ p q=>RelV p.1 q.1/\RelV p.2 q.2
def Fz(X:Cx)(pos:Pos)(b:List (Option Expr))(a:List Expr)(e:List (TE×TE)):Prop:=
 ∀(d:List (Addr×Obj)) (s:Shared) (Y:St) (H:Hp) (Q:List (V×V)->Hp->Prop),Inv X d Y H s->nQ e Y H Q->
  wpAny (model X.prog X.w) X.A (evalPairs (pairTrees b a X.env pos)) (λ f g=>∃c H',Inv X d Y H' g/\VV c f/\Q c H') X.xe s
theorem z6:Fz X pos [] [] []:=λ a s Y H Q I h=>pairTrees_nil_walk ⟨[],H,I,.nil,h⟩
theorem wJ{k v:Expr}{ks:List (Option Expr)}{vs:List Expr}{tk d:TE}{c:List (TE×TE)}(q:PE X k tk)(o:PE X v d)(p:Fz X pos ks vs c) :
  Fz X pos (some k::ks) (v::vs) ((tk,d)::c):=λ b s Y H Q I h=>
 pairTrees_cons_walk (br (q b s Y H _ I h) λ u f ⟨x,B,w,i,m⟩=>br (o b f Y B _ w m) λ D e ⟨y,A,t,g,l⟩=>
  br (p b e Y A _ t l) λ C E ⟨n,z,r,a,j⟩=>⟨(x,y)::n,z,r,.cons ⟨i,g⟩ a,j⟩)
def fc(kvs a:List (Key×V)):List (Key×V):=a.foldl (λ b c=>putK b c.1 c.2) kvs
theorem KV.merge:∀{a:List (Key×V)} {b:List (Key×Value)} {kvs:List (Key×V)} {vs:List (Key×Value)},KV a b->KV kvs vs->KV (fc kvs a) (merged vs b):=by
 intro a b kvs vs r;unfold KV at r
 induction r generalizing kvs vs with
 |nil=>intro q;exact q
 |@cons p q ps f h t d=>
  intro c;have e:KV (putK kvs p.1 p.2) (stored vs q.1 q.2):=by
   have:=c.put p.1 h.2;rw[<-h.1];exact this
  exact d e
theorem gV:∀(a kvs:List (Key×V)),(fc kvs a).length<=kvs.length+a.length
 | [],kvs=>by show kvs.length<=kvs.length+0;omega
 |p::r,kvs=>by
  have c:=gV r (putK kvs p.1 p.2);have b:=gp kvs p.1 p.2;show (fc (putK kvs p.1 p.2) r).length<=_;rw[Nh];omega
theorem j5{P:Program}{w:World}:∀{kvs:List (Key×V)} {ws:List (Value×Value)},VV (kvs.map λ e=>(kV e.1,e.2)) ws->∃d,Carries (aV P w) ws d/\KV kvs d
 | [],_,r=>by rw[Qq] at r;cases r;exact⟨[],True.intro,.nil⟩
 |p::kvs,_,r=>by
  rw[Ni] at r;cases r with
  |@cons a b as bs h t=>
   let⟨d,c,q⟩:=j5 (P:=P) (w:=w) t;let⟨g,f⟩:=b;exact⟨(p.1,f)::d,⟨mq h.1,rfl,c⟩,.cons ⟨rfl,h.2⟩ q⟩
def Hq(c:List (TE×TE)):TE:=fun Y H Q=>∀p,H p=none->nQ c Y (upd H p (.dK [])) λ d b=>b p=some (.dK [])/\∃kvs:List (Key×V),d=kvs.map (λ a=>(kV a.1,a.2))/\kvs.length<=15/\Q (.ref p) (upd b p (.dK (fc [] kvs)))
theorem z7{b:List (Option Expr)}{d:List Expr}{j:List (TE×TE)}(h:Fz X pos b d j)(f:b.all (·.isSome)=true)(B:b.length=d.length)(F:b≠[])
  (L:b.length<=15):PE X (.Dict b d pos) (Hq j):=by
 intro K s Y H Q I q;have A:=I.hok.fresh (MK s⁻¹);have M:=I.laid (a:=s⁻¹) (o:=.dK []) (h':=s.heap.push {cls:=.type "dict",data:=.dict #[]}) (t':=s.toks) (λ _ _ q=>MH _ q) (MK _) (pC s.heap I.big);refine wpAny_Dict_walk (knd:=aV X.prog X.w) f B F L (br (h K _ Y _ _ M (q _ A)) λ N O ⟨R,T,k,i,e,kvs,G,S,r⟩=>?_);subst G;let⟨m,c,n⟩:=j5 (P:=X.prog) (w:=X.w) i;let⟨z,D,l,p,J⟩:=BJ k.hok e;cases p;refine⟨m,c,J,λ h' g v=>⟨.ref s⁻¹,_,?_,rfl,r⟩⟩;have t:(fc [] kvs).length<=sizeLine:=by
  have E:=gV kvs [];rw[Ox] at E;rw[N6];omega
 have C:∃q,h'.get? s⁻¹=some q:=let ⟨q,_,_,x,_⟩:=g;⟨q,x⟩;exact nP k (by rw[e];exact True.intro) v C (wI t D (n.merge .nil) g)
end L2
namespace Att
open PySem PySem.W PySem.Calls PyProof.Rows List
theorem jz{P:Params}{h:Heap}:∀(ns:List Int) (vs:List Value),WellAll P h vs (ns.map WData.int)->IntsAre vs ns:=by
 intro ns
 induction ns with
 |nil=>
  intro vs w;rw[Qq] at w;cases w;exact .nil
 |cons n ns c=>
  intro vs w;rw[Ni] at w;cases w with
  |cons a b=>
   cases a;exact .cons _ _ (c _ b)
theorem uH{l:OpenLaw}{n:Nat}(t:l.most=some n){P:Params}{h:Heap}{args:List WData}{b:List Value}
  (c:l.row.toRowW.claim.pre args=true) (i:WellAll P h b args) :
  ∃a vs ns,b=[Value.ref a]/\args=[WData.list (ns.map WData.int)]/\h.get? a=some {cls:=.type "list",data:=.seq vs.toArray}/\IntsAre vs ns/\ns.length<=n:=by
 have j:WShape.hasAll [] args [.list .int]=true:=(pre_splitW c).1;have k:l.pre.holds [] {args:=args}=true:=(pre_splitW c).2;let⟨d,r,rfl,w,v⟩:=hasAllW_cons j;obtain rfl:=hasAllW_nil v;let⟨x,rfl,u⟩:=hasW_list w;let⟨ns,rfl⟩:=items_int u;have e:ns.length<=n:=by
  unfold OpenLaw.pre at k;have g:(WTm.not (.lt (.lit (.int (n:Int))) (.len (.arg 0)))).holds [] {args:=[.list (ns.map .int)]}=true:=by
   have g:=(holds_andW k).1;rw[t] at g;exact g
  have f:=condW_of g (w_not (w_lt w_lit (w_len_list (w_arg rfl))));rw[M0] at f;refine PV λ q=>?_;have p:(n:Int)<((ns.length:Nat):Int):=by omega
  first
   |(rw[NH p] at f;exact absurd f 'd')
   |(simp at f;omega)
 cases i with
 |cons o m=>
  cases m;cases o with
  |list s hall=>exact⟨_,_,ns,rfl,rfl,s,jz ns _ hall,e⟩
theorem uI(l:OpenLaw)(args:List WData):l.row.toRowW.claim.post args (.bool true) args=true:=
 postW_of (r:=l.row.toRowW) (X:=(true==true))
  (show WShape.has [] (.bool true) .bool=true by first | rfl | decide | simp[WShape.has,WShape.arms,WShape.armsAll])
  (show (WTm.eq .res (.lit (.bool true))).value [] {args:=args,res:=@(.bool true),after:=args}=some (.bool (true==true)) from w_eq_bool (w_res rfl) w_lit) rfl
theorem pD{l:OpenLaw}{n:Nat}{q:Program}{loose:List Str}{XP:(Str->Option Value)->Heap->Prop}{YP:World->Heap->Prop}{d:DefRec}
  (K:l.most=some n) (z:d.params.defaults=[])
  (m:∀(w:World) (c b:Shared) (s v:Str->Option Value) (k:Addr) (o:Obj) (u t g:Value) (a:Addr) (vs:List Value) (ns:List Int),
   Ground q loose [] XP w c s v b.heap->YP w b.heap->
   b.heap.get? k=some o->o.data=.func (docDef d.name d.params d.body d.scope u t g)->b.heap.CodeRec t d.name->s d.name=some (.ref k)->
   b.heap.get? a=some {cls:=.type "list",data:=.seq vs.toArray}->IntsAre vs ns->ns.length<=n->b.gens=#[]->
   codeAny (model l.prog w) callerA (.call (.ref k) ⟨[.ref a],[]⟩) (λ r p=>r=.ok (.ret (.bool true))/\OldK b.heap p.heap/\p.os=b.os/\AllBare p.gens) b) :
  WalkO q loose XP YP l.row.toRowW d [] (λ f vs=>PySem.call f vs):=by
 intro w c b s v G T k o u t g S F J O A D y N E B U h C H x M;obtain rfl:S=.none:=Dflts.none D z;obtain rfl:F=.none:=Dflts.noKw D;let⟨a,vs,ns,rfl,rfl,i,e,j⟩:=uH K h x;refine enter_call (NT (m w c b s v k o u t g a vs ns G T J (fd_plain O) A y i e j N) λ r p I=>?_);let⟨rfl,R,Q,P⟩:=I;exact⟨.inl ⟨.bool true,.bool true,[],rfl,λ _=>rfl,.bool true,uI l _,λ _=>⟨List.Pairwise.nil,λ _ L=>(nomatch L)⟩⟩,R,Q,P⟩
end Att
namespace L2
open PySem PySem.Spec PyProof.Rows List
theorem mz:∀{vs:List Value} {ns:List Int},IntsAre vs ns->Vals (ns.map V.int) vs
 |_,_,.nil=>.nil
 |_,_,.cons n t h=>.cons ⟨t,rfl⟩ (mz h)
def DI(H:Hp):Prop:=∀b,H b=none\/∃o a,H b=@(.frz o (.lst a))
theorem wK{P:Program}{w:World}{K:ae}{t L:Str->Option Value}{CX:sJ}{k:Nat}{N a:Addr}{Z:FuncData}{x:Str}{sp:Sp}{c:Shared}{vs:List Value}{ns:List Int}
  (KX:K.In c.heap) (B:c.heap.Ns mainGlobals t) (f:c.heap.Ns builtinsNs L) (Lg:∀x:Str,x≠"__name__"->L x=bootBuiltins x) (C:c.heap.NoLimit) (hg:c.gens=#[])
  (I:c.heap.get? a=some {cls:=.type "list",data:=.seq vs.toArray}) (U:IntsAre vs ns) (T:ns.length<=sizeLine) (hr:bI k callerA)
  (F:∀i:Heap,K.In i->i.Ns mainGlobals t->bQ P w K t i CX k N Z [x] sp) (l:∀(s:Shared) (u:Value),BindsTo s Z ⟨[u],[]⟩ [(x,u)])
  (q8:∀H:Hp,DI H->gk K H a (ns.map V.int)->sp [.ref a] H (λ v _=>v=.bl true) λ _ _ _=>False)
  (Kf:∀H e g,CX [] H c (λ _ _ _=>False) e g->False) :
  codeAny (model P w) callerA (.call (.ref N) ⟨[.ref a],[]⟩) (λ r g=>r=.ok (.ret (.bool true))/\OldK c.heap g.heap/\g.os=c.os/\AllBare g.gens) c:=by
 have S:=mz U;have Kg:=U.length;have j:∀H:Hp,DI H->gk K H a (ns.map V.int)->fD P w H c.heap->(∀b,H b≠none->b=a)->(H a≠none->K.lookup a=none)->
   codeAny (model P w) callerA (.call (.ref N) ⟨[.ref a],[]⟩) (λ r g=>r=.ok (.ret (.bool true))/\OldK c.heap g.heap/\g.os=c.os/\AllBare g.gens) c:=by
  intro H X hS A Y hK;have R:∀{b:Addr} {o:Obj},c.heap.get? b=some o->H b=none->(nF c.heap H).get? b=some o:=λ e n=>vP e n;have Hf:∀{b:Addr} {o:Obj} {D:Array DictEntry} {E:Nat},c.heap.get? b=some o->o.data=.dict D E->H b=none:=λ {b o D E} e d=>by
   cases q:H b with
   |none=>rfl
   |some u=>
    have O:b=a:=Y b (by rw[q];simp);subst O;rw[I] at e;cases e;have d':Data.seq vs.toArray _=Data.dict D E:=d;cases d'
  have J:∀{b:Addr} {m:Str->Option Value},c.heap.Ns b m->(nF c.heap H).Ns b m:=λ {b m} ⟨o,D,E,e,d,r⟩=>⟨o,D,E,R e (Hf e d),d,r⟩;have Lh:K.In (nF c.heap H):=λ b o e=>R (KX b o e) (by
   cases q:H b with
   |none=>rfl
   |some u=>
    have O:b=a:=Y b (by rw[q];simp);subst O;rw[hK (by rw[q];simp)] at e;cases e)
  have hM:Mod K t (nF c.heap H):=⟨Lh,J B,⟨L,J f,Lg⟩,let ⟨mc,h1,h2⟩:=C;⟨mc,J h1,h2⟩⟩;have e0:qZ P w K t (nF c.heap H) callerA [] c H:=⟨rfl,hM,λ b o e=>zw e,Qy (ur _ _),trivial,λ b f=>absurd (show b∈([]:List Addr) from f) 's',A,.of_eq hg⟩;refine NT ((F _ Lh (J B)).run callerA [] c H ⟨[.ref a],[]⟩ [.ref a] [.ref a] _ _ hr e0 (l c (.ref a)) %[|rfl] (q8 H X hS)) λ r g h=>?_;cases r with
  |error e=>exact(Kf H e g h).elim
  |ok fl=>
   cases fl with
   |next=>exact False.elim h
   |brk=>exact False.elim h
   |cont=>exact False.elim h
   |ret u=>
    let⟨v,H',os,G,Q,y,r',q⟩:=h;have q':v=.bl true:=q;subst q';obtain rfl:u=Value.bool true:=r';refine⟨rfl,OldK.of_keep λ b o e=>?_,os,G⟩;cases q:H b with
    |none=>exact Q.keep b o e q (by intro z;exact absurd (show b∈([]:List Addr) from z) 's') 's'
    |some u=>
     rcases X b with z | ⟨ob,xs,z⟩
     .rw[q] at z;cases z
     .have z2:=Q.gi b ob _ z;let⟨e1,_⟩:=A b _ z;let⟨e2,_⟩:=y b _ z2;rw[e] at e1;cases e1;exact e2
 cases M:K.lookup a with
 |some o=>
  have e:=KX a o M;rw[I] at e;cases e;refine j (λ _=>none) (λ _=>.inl rfl) (.inr ⟨_,vs.toArray,_,M,rfl,rfl,rfl,by rw[MS,Kg];exact T,~~~S⟩) (λ b u z=>by have p:(none:Option HO)=some u:=z;cases p) (λ b z=>absurd rfl z) λ z=>absurd rfl z
 |none=>
  refine j (λ b=>if b=a then some (.frz {cls:=.type "list",data:=.seq vs.toArray} (.lst (ns.map V.int))) else none) (λ b=>?_) (.inl (.inr ⟨{cls:=.type "list",data:=.seq vs.toArray},MW rfl⟩)) (λ b u z=>?_) (λ b z=>?_) λ _=>M
  .by_cases f:b=a
   .exact .inr ⟨_,_,MW f⟩
   .exact .inl (M8 f)
  .by_cases f:b=a
   .have p:=(MW f).symm.trans z;cases p;subst f;exact⟨I,by rw[M0];exact T,vs,_,S,I⟩
   .have p:=(M8 f).symm.trans z;cases p
  .by_cases f:b=a
   .exact f
   .exact absurd (M8 f) z
end L2
namespace L2
open PySem PySem.Spec PyProof.Rows List
theorem z8{l:PySem.W.OpenLaw}{n k:Nat}{q:Program}{loose:List Str}{XP:(Str->Option Value)->Heap->Prop}{YP:World->Heap->Prop}{d:DefRec}{K:Params->ae}{CX:World->sJ}{sp:World->Sp}{x:Str}
  (J:l.most=some n) (y:n<=sizeLine) (A:d.params.defaults=[]) (I:bI k callerA)
  (O:∀(w:World) (h:Heap),YP w h->(K w.params).In h)
  (F:∀(w:World) (j:Str->Option Value) (r:Addr) (h:Heap),(K w.params).In h->h.Ns mainGlobals j->j d.name=some (.ref r)->
   ∃B:FuncData,(∀(s:Shared) (u:Value),BindsTo s B ⟨[u],[]⟩ [(x,u)])/\
    ∀base:Heap,(K w.params).In base->base.Ns mainGlobals j->bQ l.prog w (K w.params) j base (CX w) k r B [x] (sp w))
  (E:∀(w:World) (H:Hp) (a:Addr) (ns:List Int),ns.length<=n->DI H->gk (K w.params) H a (ns.map V.int)->sp w [.ref a] H (λ v _=>v=.bl true) λ _ _ _=>False)
  (X:∀(w:World) (H:Hp) (s:Shared) (e:Value) (t:Shared),CX w [] H s (λ _ _ _=>False) e t->False) :
  PySem.W.WalkO q loose XP YP l.row.toRowW d [] (λ f vs=>PySem.call f vs):=by
 refine Att.pD J A λ w C m j Z r o Y cd S a vs ns G U ho hd M z p i c L=>?_;have D:=O w _ U;let⟨B,N,R⟩:=F w j r _ D G.T.g z;exact wK D G.T.g G.T.b G.T.builtins G.T.nolimit L p i (Na c y) I R N (λ H Q P=>E w H a ns c Q P) λ H e t=>X w H m e t
end L2
namespace L2
open PySem PySem.Spec PyProof.Rows List
def inClass(s:Stmt)(j:Nat):Stmt:=match s with
 |.ClassDef _ _ _ body _ _ _ _ _ _ _=>body.getD j (.Pass ⟨0,0,0,0⟩)
 |_=>.Pass ⟨0,0,0,0⟩
def gG(s:Stmt):Arguments:=match s with
 |.FunctionDef _ a _ _ _ _ _ _ _ _=>a
 |_=>{posonlyargs:=[],args:=[],vararg:=none,kwonlyargs:=[],kw_defaults:=[],kwarg:=none,defaults:=[]}
def cj(s:Stmt):List Stmt:=match s with
 |.FunctionDef _ _ b _ _ _ _ _ _ _=>b
 |_=>[]
def aE(s:Stmt):Scope:=match s with
 |.FunctionDef _ _ _ _ _ _ sc _ _ _=>sc
 |_=>{kind:=.function,names:=[],isGenerator:=false,isCoroutine:=false}
abbrev z9:sJ:=λ _ _ _ _ _ _=>False
abbrev E0:XK:=λ _ _ _=>False
structure BK(K:ae)(x qual:Str)(st:Stmt)(f:Addr)(fd:FuncData):Prop where
 ex:∃(oc:Value) (od:Option Addr) (kV doc pm:Value) (an:Option Addr) (cdv ct:Value) (osl:Array (Option Value)),
  fd=PySem.W.fnOf x qual (gG st) (cj st) (aE st) .none kV doc pm an cdv ct/\K.lookup f=some ⟨oc,od,.func fd,osl⟩/\PySem.W.codeIn K cdv qual=true
 kp:PySem.W.keepIn K (.ref f)=true
section
variable{P:Program}{w:World}{K:ae}{mg:Str->Option Value}{base:Heap}
theorem BK.ok{x qual:Str}{st:Stmt}{f:Addr}{g:FuncData}{N c:List Str}{k:Nat}{sp:Sp}(F:BK K x qual st f g)(S:fW N c (aE st))(d:∀vs H Q E,sp vs H Q E->vs.length=c.length)
  (b:∀(a:Value) (A:Around) (outer:List Env) (s:Shared) (H:Hp) (vs:List V) (Q:VK) (E:XK),bI k (A.deeper (envOfC qual (aE st) s⁻¹ f a))->sp vs H Q E->
   ∃t,gF (iz z9 P w K mg base N qual (aE st) f a A outer s H E).eN (cj st) t/\t {nx:=λ _ o=>Q .non o,rt:=Q} (start N vs) H):bQ P w K mg base z9 (k+1) f g c sp:=by
 let⟨u,r,v,n,p,z,a,y,j,rfl,l,e⟩:=F.ex;refine BG l e S d λ A outer s H vs Q E m i=>?_;let⟨t,h,q⟩:=b a A outer s H vs Q E m i;exact⟨t,h.eN,q⟩
theorem DJ{x qual:Str}{st:Stmt}{f:Addr}{j:Value}{i h:Option Addr}{d:Array (Option Value)}{g b e a ct:Value}(l:K.lookup f=some ⟨j,i,.func (PySem.W.fnOf x qual (gG st) (cj st) (aE st) .none g b e h a ct),d⟩)
  (c:PySem.W.codeIn K a qual=true) (k:PySem.W.keepIn K (.ref f)=true):BK K x qual st f (PySem.W.fnOf x qual (gG st) (cj st) (aE st) .none g b e h a ct):=⟨⟨j,i,g,b,e,h,a,ct,d,rfl,l,c⟩,k⟩
end
end L2
end
section
namespace L2
open PySem PySem.Spec PyProof.Rows List
variable{P:Program}{env:Env}
def fB:List Nat->St->St
 | [],Y=>Y
 |j::r,Y=>fB r (Y.set j none)
theorem sQ:∀(js:List Nat) (Y:St),(fB js Y).length=Y.length
 | [],_=>rfl
 |j::r,Y=>by rw[fB,sQ r,Oh]
theorem pF:∀{js:List Nat} {Y:St} {i:Nat} {v:V},(fB js Y)[i]?=some (some v)->Y[i]?=some (some v)/\i∉js
 | [],_,_,_,h=>⟨h,by simp⟩
 |j::r,Y,i,v,h=>by
  let⟨a,c⟩:=pF (js:=r) h
  by_cases e:j=i
  .subst e;rw[QB] at a;rw[MW rfl] at a;split at a<;>cases a
  .rw[M7 e] at a;exact⟨a,λ b=>(MX.mp b).elim (λ q=>e q.symm) c⟩
def cZ(env:Env):List (Str×NameKind)->List (Str×Addr)->List (Str×Addr)
 | [],acc=>acc
 |(n,k)::r,acc=>cZ env r (if k==.free then (match env.cells.lookup n with | some c=>(n,c)::acc | none=>acc) else acc)
theorem gW:∀(names:List (Str×NameKind)) (b:List (Str×Addr)),(∀y∈names,y.2=.free->∃c,env.cells.lookup y.1=some c)->
  (forIn (m:=Sem) names b λ x r=>match x with | (name,kind)=>if (kind==NameKind.free)=true then do let a <-cellOf env name;pure (ForInStep.yield ((name,a)::r)) else pure (ForInStep.yield r))=pure (cZ env names b)
 | [],b,_=>rfl
 |(n,k)::r,b,h=>by
  rw[forIn_cons];have d:=λ b=>gW r b λ y g=>h y (M3 _ g)
  by_cases f:k=.free
  .subst f;let⟨c,e⟩:=h (n,.free) Nk rfl;have e:env.cells.lookup n=some c:=e;erw[NI,Nf,cellOf,e,pure_bind,cZ];exact d _
  .have i:(k==NameKind.free)=false:=by simpa using f
   erw[i,MY,Np,pure_bind,cZ];exact d _
theorem lG{scope:Scope}(h:∀y∈scope.names,y.2=.free->∃c,env.cells.lookup y.1=some c):closureFor scope env=pure (cZ env scope.names []):=by
 have q:=gW (env:=env) scope.names [] h;erw[closureFor]
 first
  |(rw[q];rfl)
  |(erw[pure_bind,bind_pure_comp,map_pure] at q ⊢;rw[q];rfl)
  |exact(OE (· >>= pure) q)
  |trace_state
theorem i6{x:Str}{c:Addr}:∀(names:List (Str×NameKind)) (a:List (Str×Addr)),(∀c,a.lookup x=some c->env.cells.lookup x=some c)->(cZ env names a).lookup x=some c->env.cells.lookup x=some c
 | [],a,h,e=>h _ e
 |(n,k)::r,a,h,e=>by
  refine i6 r _ ?_ e;intro j b;split at b
  .split at b
   .ext i g
    by_cases d:x=n
    .subst d;erw[MT,NI] at b;cases b;exact g
    .have f:(x==n)=false:=by simpa using d
     erw[MT,f] at b;exact h _ b
   .exact h _ b
  .exact h _ b
theorem mC{x:Str}:∀(names:List (Str×NameKind)) (a:List (Str×Addr)),(∃c,a.lookup x=some c)->∃c,(cZ env names a).lookup x=some c
 | [],a,h=>h
 |(n,k)::r,a,h=>by
  refine mC r _ ?_;split
  .split
   .ext f g
    by_cases b:x=n
    .subst b;exact⟨f,by simp[MT]⟩
    .have d:(x==n)=false:=by simpa using b
     let⟨c,e⟩:=h;exact⟨c,by erw[MT,d];exact e⟩
   .exact h
  .exact h
theorem i7{x:Str}:∀(names:List (Str×NameKind)) (a:List (Str×Addr)),(x,NameKind.free)∈names->(∃c,env.cells.lookup x=some c)->∃c,(cZ env names a).lookup x=some c
 |(n,k)::r,a,hm,⟨c,e⟩=>by
  rcases MX.mp hm with q | q
  .cases q;refine mC r _ ⟨c,?_⟩;erw[NI,Nf,e,MT]
  .exact i7 r _ q ⟨c,e⟩
structure fX(N:List Str)(js:List Nat)(scope Li:Scope):Prop where
 kind:scope.kind=.function
 cell:∀y∈scope.names,y.2=.cell->scope.names.lookup y.1=some .cell
 loc:∀y∈scope.names,y.2=.local->scope.names.lookup y.1=some .local
 own:∀p∈N.zipIdx,(scope.names.lookup p.1=some .local\/scope.names.lookup p.1=some .cell)->p.2∈js
 free:∀y∈scope.names,y.2=.free->Li.names.lookup y.1=some .cell\/Li.names.lookup y.1=some .free
theorem ee{env:Env}:∀{names:List (Str×NameKind)} {x:Str} {b:NameKind},
  (names.map λ (n,k)=>if (k==NameKind.free&&env.scope.kind==.function&&env.kindOf n==some .cell) then (n,NameKind.cell) else (n,k)).lookup x=some b->
  ∃k,names.lookup x=some k/\(b=k\/(k=.free/\b=.cell))
 | [],_,_,h=>by simp at h
 |(n,k)::r,x,b,h=>by
  have g:=@ee env r x b;have h:List.lookup x ((if (k==NameKind.free&&env.scope.kind==.function&&env.kindOf n==some .cell)=true then (n,NameKind.cell) else (n,k))::(r.map λ (n,k)=>if (k==NameKind.free&&env.scope.kind==.function&&env.kindOf n==some .cell) then (n,NameKind.cell) else (n,k)))=some b:=h
  by_cases c:(k==NameKind.free&&env.scope.kind==.function&&env.kindOf n==some .cell)=true
  .rw[MW c] at h;have i:k=.free:=by
    erw[MJ] at c;simpa using c.1.1
   cases a:x==n with
   |true=>
    erw[MT,a] at h;cases h;exact⟨k,by simp[MT,a],.inr ⟨i,rfl⟩⟩
   |false=>
    erw[MT,a] at h;let⟨f,e,d⟩:=g h;exact⟨f,by erw[MT,a];exact e,d⟩
  .rw[M8 c] at h;cases a:x==n with
   |true=>
    erw[MT,a] at h;cases h;exact⟨k,by simp[MT,a],.inl rfl⟩
   |false=>
    erw[MT,a] at h;let⟨f,e,d⟩:=g h;exact⟨f,by erw[MT,a];exact e,d⟩
abbrev Cx.comp(X:Cx)(scope:Scope)(cl:List (Str×Addr))(a:Shared)(H₀:Hp)(b:List Addr)(c:List (Addr×Obj)):Cx:=
 {X with s₀:=a,H₀:=H₀,env:=compEnvC scope cl a⁻¹ X.env,outer:=X.stack,stack:=X.stack,ex:=b,fn:=λ x=>scope.names.lookup x==some .cell,pn:=X.pn++c,xe:=λ _ _=>False}
section
variable{X:Cx}{aa:List (Addr×Obj)}{Y:St}{H:Hp}{s:Shared}{scope:Scope}{js:List Nat}{fp:List Addr}
theorem j6(c:fX X.N js scope X.env.scope){x:Str}(d:(relabel scope X.env).names.lookup x=some .cell\/(relabel scope X.env).names.lookup x=some .free) :
  scope.names.lookup x=some .cell\/(scope.names.lookup x=some .free/\(x,NameKind.free)∈scope.names/\(X.env.kindOf x=some .cell\/X.env.kindOf x=some .free)):=by
 have k:∃a,(relabel scope X.env).names.lookup x=some a/\(a=.cell\/a=.free):=by
  rcases d with h | h
  .exact⟨_,h,.inl rfl⟩
  .exact⟨_,h,.inr rfl⟩
 let⟨a,h,f⟩:=k;let⟨k,e,r⟩:=ee h;have b:k=.free->scope.names.lookup x=some .cell\/(scope.names.lookup x=some .free/\(x,NameKind.free)∈scope.names/\(X.env.kindOf x=some .cell\/X.env.kindOf x=some .free)):=λ g=>by
  subst g;exact .inr ⟨e,Nl e,c.free _ (Nl e) rfl⟩
 rcases r with r | r
 .subst r;rcases f with z | z
  .subst z;exact .inl e
  .exact b z
 .exact b r.1
theorem DK{x:Str}:∀{names:List (Str×NameKind)} {n:Nat} {a:List (Str×Addr)},(∀y∈names,y.2=.cell->y.1≠x)->(cellsFrom n names a).lookup x=a.lookup x:=by
 intro names
 induction names with
 |nil=>intro n a _;rw[Oc]
 |cons y r e=>
  intro n a h;rw[Oc];let⟨d,k⟩:=y;have f:=λ y g=>h y (M3 _ g)
  by_cases b:k=.cell
  .have c:(k==NameKind.cell)=true:=by simpa using b
   erw[c,Nf];rw[e f];have:=h (d,k) Nk b;have i:(x==d)=false:=by simpa using this.symm
   erw[MT,i]
  .have c:(k==NameKind.cell)=false:=by simpa using b
   erw[c,MY,Np];exact e f
structure wL(n:Nat)(h:Heap)(cells:List (Str×Addr)):Prop where
 below:∀x c,cells.lookup x=some c->c<n
 inj:∀x y c,cells.lookup x=some c->cells.lookup y=some c->x=y
 cell:∀x c,cells.lookup x=some c->∃v,h.IsCell c v
theorem Hr{lo:Nat}{base:List (Str×Addr)}:∀{names:List (Str×NameKind)} {h:Heap} {b:List (Str×Addr)},wL h.objs.size h b->lo<=h.objs.size->(∀x c,b.lookup x=some c->base.lookup x=some c\/lo<=c)->
  wL (pushCells h names).objs.size (pushCells h names) (cellsFrom h.objs.size names b)/\∀x c,(cellsFrom h.objs.size names b).lookup x=some c->base.lookup x=some c\/lo<=c:=by
 intro names
 induction names with
 |nil=>intro h b F _ m;rw[Oc,pushCells.eq_def];exact⟨F,m⟩
 |cons y r q=>
  intro h b F j m;rw[Oc,pushCells.eq_def];let⟨d,k⟩:=y
  by_cases t:k=.cell
  .have p:(k==NameKind.cell)=true:=by simpa using t
   erw[p,Nf];have g:(h.push {cls:=.type "cell",data:=.cell none}).objs.size=h.objs.size+1:=NV ..;rw[<-g];refine q ⟨λ x c e=>?_,λ x y c l i=>?_,λ x c e=>?_⟩ (by rw[g];omega) λ x c e=>?_
   .rw[g]
    by_cases a:x=d
    .subst a;erw[MT,NI] at e;cases e;exact Ob _
    .have a:(x==d)=false:=by simpa using a
     erw[MT,a] at e;exact Oq (F.below x c e)
   .by_cases a:x=d
    .by_cases f:y=d
     .exact a.trans f.symm
     .subst a;have f:(y==x)=false:=by simpa using f
      erw[MT,NI] at l;erw[MT,f] at i;cases l;exact absurd (F.below y _ i) (Ol _)
    .have n:(x==d)=false:=by simpa using a
     erw[MT,n] at l
     by_cases f:y=d
     .subst f;erw[MT,NI] at i;cases i;exact absurd (F.below x _ l) (Ol _)
     .have f:(y==d)=false:=by simpa using f
      erw[MT,f] at i;exact F.inj x y c l i
   .by_cases a:x=d
    .subst a;erw[MT,NI] at e;cases e;exact⟨none,_,MR _ rfl,rfl⟩
    .have a:(x==d)=false:=by simpa using a
     erw[MT,a] at e;let⟨v,o,u,w⟩:=F.cell x c e;exact⟨v,o,MH _ u,w⟩
   .by_cases a:x=d
    .subst a;erw[MT,NI] at e;cases e;exact .inr j
    .have a:(x==d)=false:=by simpa using a
     erw[MT,a] at e;exact m x c e
  .have p:(k==NameKind.cell)=false:=by simpa using t
   erw[p,MY,Np];exact q F j m
theorem DL{x:Str}{lo:Nat}:∀{names:List (Str×NameKind)} {n:Nat} {a:List (Str×Addr)} {c:Addr},lo<=n->((x,NameKind.cell)∈names\/∀c,a.lookup x=some c->lo<=c)->(cellsFrom n names a).lookup x=some c->lo<=c:=by
 intro names
 induction names with
 |nil=>intro n a c _ h e;rw[Oc] at e;exact(h.resolve_left 's') c e
 |cons y r j=>
  intro n a c d h e;rw[Oc] at e;let⟨i,k⟩:=y
  by_cases f:k=.cell
  .have g:(k==NameKind.cell)=true:=by simpa using f
   erw[g,Nf] at e;refine j (Nat.le_succ_of_le d) ?_ e
   by_cases b:x=i
   .subst b;refine .inr λ c e=>?_;erw[MT,NI] at e;cases e;exact d
   .rcases h with h | h
    .rcases MX.mp h with q | q
     .cases q;exact absurd rfl b
     .exact .inl q
    .refine .inr λ c e=>h c ?_;have b:(x==i)=false:=by simpa using b
     simpa only[MT,b] using e
  .have g:(k==NameKind.cell)=false:=by simpa using f
   erw[g,MY,Np] at e;refine j d ?_ e;rcases h with h | h
   .rcases MX.mp h with q | q
    .cases q;exact absurd rfl f
    .exact .inl q
   .exact .inr h
structure CF(X:Cx)(scope:Scope)(n:Nat)(h:Heap)(cells:List (Str×Addr)):Prop where
 inj:∀x y c,cells.lookup x=some c->cells.lookup y=some c->x=y
 cell:∀x c,cells.lookup x=some c->∃v,h.IsCell c v
 old:∀x c,cells.lookup x=some c->X.env.cells.lookup x=some c\/n<c
 has:∀x,scope.names.lookup x=some .cell->∃c,cells.lookup x=some c
 out:∀x,scope.names.lookup x=some .free->cells.lookup x=(cZ X.env scope.names []).lookup x
 own:∀x c,scope.names.lookup x=some .cell->cells.lookup x=some c->n<=c
theorem Inv.comp(I:Inv X aa Y H s)(n:fX X.N js scope X.env.scope)(B:∀b∈fp,iW X aa H b){a:Heap}{d:Str->Option Value}{tk:Nat}{cells:List (Str×Addr)}
  (t:∀b∈fp,b<s⁻¹) (S:a.Ns s⁻¹ d) (A:∀b o,s.heap.get? b=some o->a.get? b=some o) (hm:∀x,d x=none) (F:CF X scope s⁻¹ a cells) :
  Inv (X.comp scope cells s H fp aa) [] (fB js Y) H {s with heap:=a,toks:=tk}:=by
 have w:∀x,(x,NameKind.free)∈scope.names->∃c,X.env.cells.lookup x=some c:=λ x D=>I.ok.has x (n.free _ D rfl);have C:∀x c,(cZ X.env scope.names []).lookup x=some c->X.env.cells.lookup x=some c:=λ x c e=>i6 _ _ 's' e;have l:=I.iV;have U:=I.lt;refine⟨⟨I.mod,n.kind,I.ok.glob,I.ok.blt,MK _,F.inj,λ x D=>?_,λ x c z e=>F.own x c (~~~z) e,I.ok.hd,I.ok.frames,.inl rfl,λ b f=>⟨MQ (t b f),λ x c e=>?_⟩,
  λ b o e=>I.bs b o e,Na I.ok.bsz I.sz,λ b o e f=>?_,λ b f z=>?_,I.stack,λ b f=>I.jI b f⟩,rfl,I.bare,Un.kept A,⟨d,S,λ i x v K e2 h=>?_⟩,λ x c e=>F.cell x c e,I.hok.fresh (MK _),λ x c e=>?_,λ p G=>?_,I.hok.kept A,?_⟩
 .rcases j6 n D with g | ⟨g,j,y⟩
  .exact F.has x g
  .show ∃c,cells.lookup x=some c;rw[F.out x g];exact i7 _ _ j (w x j)
 .rcases F.old x c e with e | e
  .exact(B b f).2.2.2.2.1 x c e
  .exact NS (QA (t b f) e)
 .have q:=(B b f).2.2.2.1;rcases q with q | q
  .exact I.ok.noex b o e q
  .exact absurd (MI e) (Qd.mpr (Na I.ok.bsz q))
 .rcases MX.mp (l b z) with q | q
  .exact(B b f).2.1 q
  .exact(B b f).2.2.1 q
 .let⟨c1,c2⟩:=pF e2;have h:(relabel scope X.env).names.lookup x=some .local\/(relabel scope X.env).names.lookup x=some .cell\/(relabel scope X.env).names.lookup x=some .free:=h;have L:∀{P:Prop},(scope.names.lookup x=some .local\/scope.names.lookup x=some .cell)->P:=λ E=>absurd (n.own (x,i) (by rw[mem_zipIdx_iff_getElem?];exact K) E) c2;rcases h with h | h
  .let⟨k,E,r⟩:=ee h;have:k=.local:=by
    rcases r with r | ⟨_,r⟩
    .exact r.symm
    .cases r
   subst this;exact L (.inl E)
  .rcases j6 n h with g | ⟨g,j,y⟩
   .exact L (.inr g)
   let⟨m,T,V⟩:=I.loc;let⟨u,M,R⟩:=V i x v K c1 (.inr y);refine⟨u,M,.inr ⟨h,?_⟩⟩;rcases R with⟨q,_⟩ | ⟨_,c,Q,O⟩
   .rcases y with z | z<;>(rw[z] at q;cases q)
   .let⟨c',J⟩:=i7 _ [] j (w x j);have:=C _ _ J;rw[Q] at this;cases this;exact⟨c,(F.out x g).trans J,O.keeps A⟩
 .rcases F.old x c e with e | e
  .exact I.freeC x c e
  .exact I.hok.fresh (OR e)
 .rw[NL] at G;let⟨g,j,y,Z,W⟩:=I.pin p G;refine⟨A _ _ g,j,MQ (MI g),λ z=>?_,W⟩;rcases MX.mp (l _ z) with q | q
  .exact y q
  .exact Z q
 .rw[sQ];exact I.len
theorem Inv.enter(I:Inv X aa Y H s)(p:fX X.N js scope X.env.scope)(B:∀b∈fp,iW X aa H b)(n:∀b∈fp,b<s⁻¹){Q:Env->Shared->Prop}{E:Value->Shared->Prop}
  (h:∀(cells:List (Str×Addr)) (a:Heap),(∀b o,s.heap.get? b=some o->a.get? b=some o)->CF X scope s⁻¹ a cells->Inv (X.comp scope cells s H fp aa) [] (fB js Y) H {s with heap:=a}->
   Q {scope:=scope,locals:=s⁻¹,globals:=X.env.globals,cells:=cells,qual:=X.env.qual,func:=none,code:=X.env.code,frame:=X.env.frame,builtins:=X.env.builtins} {s with heap:=a}) :
  wpAny (model X.prog X.w) X.A (newFunctionEnv scope X.env.globals (cZ X.env scope.names []) [] X.env.qual none .none (some X.env)) Q E s:=by
 unfold newFunctionEnv;refine MF (wpAny_alloc ?_);refine MF (wpAny_layCells _ (λ _ _ _=>rfl) _ _ _ _ ?_);refine MF (MP (MP ?_));have i:(s.heap.push {cls:=.type (if (some X.env).isSome=true then "dict" else "frame"),data:=.dict #[]}).objs.size=s⁻¹+1:=NV ..;have d:∀x c,(cZ X.env scope.names []).lookup x=some c->X.env.cells.lookup x=some c:=λ x c e=>i6 _ _ 's' e;have r:∀x c,(cZ X.env scope.names []).lookup x=some c->∃v,s.heap.IsCell c v:=λ x c e=>I.cell x c (d x c e);have L:wL (s.heap.push {cls:=.type (if (some X.env).isSome=true then "dict" else "frame"),data:=.dict #[]}).objs.size (s.heap.push {cls:=.type (if (some X.env).isSome=true then "dict" else "frame"),data:=.dict #[]}) (cZ X.env scope.names []):=by
  refine⟨λ x c e=>?_,λ x y c J G=>I.ok.inj x y c (d _ _ J) (d _ _ G),λ x c e=>?_⟩
  .let⟨v,o,l,_⟩:=r x c e;rw[i];exact Oq (MI l)
  .let⟨v,o,l,D⟩:=r x c e;exact⟨v,o,MH _ l,D⟩
 let⟨t,K⟩:=Hr (lo:=s⁻¹+1) (base:=X.env.cells) (names:=scope.names) L (by rw[i];exact MK _) (λ x c e=>.inl (d x c e));have j:∀b o,s.heap.get? b=some o->(pushCells (s.heap.push {cls:=.type (if (some X.env).isSome=true then "dict" else "frame"),data:=.dict #[]}) scope.names).get? b=some o:=λ b o e=>pushCells_keeps _ _ _ _ (MH _ e);have k:∀x,scope.names.lookup x=some .cell->∀c,(cellsFrom (s.heap.push {cls:=.type (if (some X.env).isSome=true then "dict" else "frame"),data:=.dict #[]}).objs.size scope.names (cZ X.env scope.names [])).lookup x=some c->s⁻¹<=c:=λ x f c e=>DL (by rw[i];exact NW _) (.inl (Nl f)) e;have F:CF X scope s⁻¹ (pushCells (s.heap.push {cls:=.type (if (some X.env).isSome=true then "dict" else "frame"),data:=.dict #[]}) scope.names) (cellsFrom (s.heap.push {cls:=.type (if (some X.env).isSome=true then "dict" else "frame"),data:=.dict #[]}).objs.size scope.names (cZ X.env scope.names [])):=by
  refine⟨t.inj,t.cell,λ x c e=>?_,λ x f=>?_,λ x f=>?_,λ x c f e=>k x f c e⟩
  .rcases K x c e with q | q
   .exact .inl q
   .exact .inr q
  .have:=OT scope.names (s.heap.push {cls:=.type (if (some X.env).isSome=true then "dict" else "frame"),data:=.dict #[]}).objs.size (cZ X.env scope.names []) (.inl f);exact N8.mp this
  .refine DK λ y u z e=>?_;have:=p.cell y u z;rw[e,f] at this;cases this
 have m:(pushCells (s.heap.push {cls:=.type (if (some X.env).isSome=true then "dict" else "frame"),data:=.dict #[]}) scope.names).Ns s⁻¹ λ _=>none:=by
  have g:(s.heap.push {cls:=.type (if (some X.env).isSome=true then "dict" else "frame"),data:=.dict #[]}).get? s⁻¹=some {cls:=.type (if (some X.env).isSome=true then "dict" else "frame"),data:=.dict #[]}:=MR _ rfl;refine⟨_,_,_,pushCells_keeps _ _ _ _ g,rfl,?_,?_⟩
  .intro e C;simp at C
  .intro M;rfl
 exact h _ _ j F (I.comp (tk:=s.toks) p B n m j (λ _=>rfl) F)
theorem fD.off{w:World}{h h':Heap}{C:Addr}(x:fD P w H h)(c:H C=none)(k:∀b o,b≠C->h.get? b=some o->h'.get? b=some o):fD P w H h':=λ a o e=>
 (x a o e).stay (λ b u d q=>k b u (by
  rintro rfl;rcases d with z | z
  .rw[z,e] at c;cases c
  .rw[z] at c;cases c) q) (λ _ q=>q) λ _ _ q=>q
theorem Inv.DM(I:Inv X aa Y H s){h:St}{l:Hp}{i:Shared}{cl:List (Str×Addr)}(f:∀b∈fp,iW X aa H b)(c:Inv (X.comp scope cl s H fp aa) [] h l i){h':Heap}
  (d:∀b o,b≠s⁻¹->i.heap.get? b=some o->h'.get? b=some o):Inv X aa Y l {i with heap:=h'}:=by
 have r:l s⁻¹=none:=c.free;have j:∀b o,s.heap.get? b=some o->b≠s⁻¹:=λ b o e=>MQ (MI e);have u:=c.base;refine I.BB (ch:=fp) c.os ⟨λ b o e n k a=>d b o (j b o e) (u.keep b o e n k a),λ b o e n k a=>?_,u.free,λ b o e a=>?_,u.tups,u.gi,u.gM⟩ (c.hok.off r d) c.bare λ b g=>⟨(f b g).2.2.2.1,(f b g).2.1,(f b g).2.2.2.2.1,(f b g).2.2.2.2.2⟩
 .let⟨m,q⟩:=u.slot b o e n k a;exact⟨m,d _ _ (j b o e) q⟩
 .let⟨p,q⟩:=u.there b o e a;exact⟨p,d _ _ (j b o e) q⟩
end
def j7(X:Cx)(ifs:List Expr)(t:TT):Prop:=
 ∀(a:List (Addr×Obj)) (s:Shared) (Y:St) (H:Hp) (Q:Bool->Hp->Prop),Inv X a Y H s->t Y H Q->
  wpAny (model X.prog X.w) X.A (forIn ifs true λ c r=>if r=true then do let ok <-isTrue c X.env (eval c X.env);pure (ForInStep.yield ok) else pure (ForInStep.yield r)) (TP X a Y Q) X.xe s
def Kl:TT:=λ _ H Q=>Q true H
theorem wM{X:Cx}:j7 X [] Kl:=λ a s Y H Q I h=>wpAny_tests_nil ⟨H,I,h⟩
theorem wN{X:Cx}{c:Expr}{t:TT}(h:PT X c t):j7 X [c] t:=λ a s Y H Q I q=>wpAny_tests_one (h a s Y H Q I q)
mutual
inductive Dt(K:ae)(H:Hp):V->PyData->Prop
 |non:Dt K H .non .none
 |bl (b):Dt K H (.bl b) (.bool b)
 |int (i):Dt K H (.int i) (.int i)
 |str (x):Dt K H (.str x) (.str x)
 |lst {a xs ds}:gk K H a xs->BN K H xs ds->Dt K H (.ref a) (.list ds)
 |tup {a xs ds}:dQ K H a xs->BN K H xs ds->Dt K H (.ref a) (.tuple ds)
inductive BN(K:ae)(H:Hp):List V->List PyData->Prop
 |nil:BN K H [] []
 |cons {x xs d ds}:Dt K H x d->BN K H xs ds->BN K H (x::xs) (d::ds)
end
section
variable{X:Cx}{aa:List (Addr×Obj)}{Y:St}{H:Hp}{s:Shared}
mutual
theorem Inv.reads(I:Inv X aa Y H s):∀{v:V} {d:PyData} {u:Value},Dt X.K H v d->RelV v u->∃f,Reads s.heap u d f
 |_,_,_,.non,r=>by cases r;exact⟨_,.none⟩
 |_,_,_,.bl b,r=>by cases r;exact⟨_,.bool b⟩
 |_,_,_,.int i,r=>by let⟨t,rfl⟩:=r;exact⟨_,.int i t⟩
 |_,_,_,.str x,r=>by let⟨t,rfl⟩:=r;exact⟨_,.str x t⟩
 |_,_,_,.lst h t,r=>by
  cases r;let⟨its,a,p,g⟩:=I.list h;let⟨o,ho,e,n,c⟩:=p.isList;let⟨f,ra⟩:=I.readsAll t a;exact⟨_,.list ho e c (~~~ra)⟩
 |_,_,_,.tup h t,r=>by
  cases r;let⟨its,a,p,g⟩:=I.tuple h;let⟨o,ho,e,n,c⟩:=p;let⟨f,ra⟩:=I.readsAll t a;exact⟨_,.tuple ho e c (~~~ra)⟩
theorem Inv.readsAll(I:Inv X aa Y H s):∀{v:List V} {d:List PyData} {u:List Value},BN X.K H v d->Vals v u->∃c,ReadsAll s.heap u d c
 |_,_,_,.nil,.nil=>⟨_,.nil⟩
 |_,_,_,.cons h t,.cons r rs=>by
  let⟨c,a⟩:=I.reads h r;let⟨e,b⟩:=I.readsAll t rs;exact⟨_,.cons a b⟩
end
def Km(K:ae):R2:=λ x y H Q=>∃d e,Dt K H x d/\Dt K H y e/\d.canLay0=true/\e.canLay0=true/\d.depth<=60/\Q (.bl (PyData.eqv d e)) H
def Kn(K:ae):R2:=λ x y H Q=>∃d e,Dt K H x d/\Dt K H y e/\d.canLay0=true/\e.canLay0=true/\d.depth<=60/\Q (.bl (!PyData.eqv d e)) H
theorem DN(l:X.A.units+64<cLine):fu X (compareOp .Eq) (Km X.K):=by
 intro aa s Y H x y v u Q I b a h;let⟨d,e,k,j,i,g,m,q⟩:=h;let⟨o,f⟩:=I.reads k b;let⟨n,c⟩:=I.reads j a;exact PySem.SeqAt.compareEq_reads f c i g (by have:min d.depth e.depth<=d.depth:=Nat.min_le_left _ _;omega) ⟨.bl _,H,I,rfl,q⟩
theorem DO(l:X.A.units+64<cLine):fu X (compareOp .NotEq) (Kn X.K):=by
 intro aa s Y H x y v u Q I b a h;let⟨d,e,k,j,i,g,m,q⟩:=h;let⟨o,f⟩:=I.reads k b;let⟨n,c⟩:=I.reads j a;exact PySem.SeqAt.compareNe_reads f c i g (by have:min d.depth e.depth<=d.depth:=Nat.min_le_left _ _;omega) ⟨.bl _,H,I,rfl,q⟩
end
section
variable{X:Cx}
theorem wO(a:List Bool):((List.range a.length).all λ i=>a.getD i true)=a.all id:=by
 induction a with
 |nil=>rfl
 |cons b r c=>
  rw[Nh,range_succ_eq_map,QC,all_map,QC];show (b&&_)=(b&&_);rw[<-c];rfl
theorem wQ(E:X.A.handled=none):cg X (.builtin "all") (λ xs H Q=>∃(p:Addr) (a:List Bool),xs=[.ref p]/\gk X.K H p (a.map V.bl)/\Q (.bl (a.all id)) H):=by
 intro N s Y H xs F Q I r h;let⟨p,a,rfl,C,q⟩:=h;let⟨u,rfl,x⟩:=vals1 r;cases x;let⟨c,l,B,J⟩:=I.list C;have k:=B.isList;have j:p<s⁻¹:=by let⟨_,e,_⟩:=k;exact MI e
 have f:=l.length;rw[M0] at f;refine call_all_walk (OS k ?_);refine⟨_,_,_,_,_,_,(λ i=>a.getD i true),rfl,Walks.list (A:=X.A.in1) E s⁻¹ p (MQ j) c.toArray,⟨⟨_,MR _ rfl,rfl,rfl⟩,k.push _⟩,?_,?_⟩
 .intro i v G O R g d;have g:c[i]?=some v:=by simpa using g
  have L:i<c.length:=(MG.mp g).1;have n:i<a.length:=by omega
  have e:(a.map V.bl)[i]?=some (V.bl (a[i])):=by simp[n]
  let⟨u,m,y⟩:=l.get e;rw[g] at m;cases m;cases y;have:a.getD i true=a[i]:=by simp[List.getD,n]
  dsimp only at d;rw[this] at d;exact ND d
 .intro M w D;have e:((List.range c.toArray.size).all λ i=>a.getD i true)=a.all id:=by
   rw[MS,<-f];exact wO a
  rw[e];refine⟨.bl _,H,I.kept (t':=w) λ b o t=>D b o (λ z=>?_) (MH _ t),rfl,q⟩;rw[Nu] at z;exact MQ (MI t) z
theorem rA{ns:List Str}:∀{us:List Value},Vals (ns.map V.str) us->StrsAre us ns:=by
 induction ns with
 |nil=>intro us r;cases r;exact .nil
 |cons n r b=>intro us a;cases a with | cons q t=>let⟨k,rfl⟩:=q;exact .cons _ _ (b t)
def rJoin(K:ae):V->List V->Hp->VK->Prop:=λ x b H Q=>∃z l a,x=.str z/\b=[.ref l]/\gk K H l (a.map V.str)/\(a.map (·.length)).sum+a.length*z.length<=16777216/\Q (.str (Txt.join z a)) H
theorem Aa:J9 X "str.join" (rJoin X.K):=by
 intro p s Y H x j v m Q I a b h;let⟨z,l,i,rfl,rfl,g,f,q⟩:=h;let⟨t,rfl⟩:=a;let⟨u,rfl,c⟩:=b.one;cases c;let⟨e,r,d,o⟩:=I.list g;exact join_list d.isList (by simpa using rA r) f λ n k=>⟨.str _,H,I.tok _,⟨_,rfl⟩,q⟩
end
def asc(z:Str):Bool:=z.cps.all (· < 128)
def Ko(z:Str):It:=⟨λ i _=>i<z.cps.size,λ i H x a=>a=H/\∃c,z.cps[i]?=some c/\x=.str ⟨#[c]⟩,λ i _=>z.cps.size<=i⟩
theorem wR{w:World}{K:ae}{x:Expr}(z:Str)(t:Tok)(it:Addr):Turn P w K x (Ko z) [it] it (λ i h=>h.IsStrIter it "str_ascii_iterator" z t i) where
 mem:=by simp
 obj:=λ i h st b f=>by
  obtain rfl:b=it:=by simpa using f
  let⟨o,e,c,d⟩:=st;exact⟨o,e,λ v q=>by rw[d] at q;cases q⟩
 keep:=λ i h j st k=>let ⟨o,e,r⟩:=st;⟨o,k it 's' o e,r⟩
 item:=by
  intro X l hw m hc i u s Y H E I hf st a;subst l hw m;have a:i<z.cps.size:=a;let⟨f0,f1,f2,p,f4,n⟩:=hf it 's';refine wpAny_pyNext_ascii_item st (c:=z.cps[i]) (by simp[a]) λ j g y=>?_;have B:Inv X u Y H {s with heap:=j,toks:=s.toks+1}:=I.turned (λ b o f e=>(y.2 b f).trans e) f0 f1 p f4 n;let⟨o,e,c,d⟩:=id g;exact⟨_,rfl,sF (s:={s with heap:=j,toks:=s.toks+1}) e c d 'd' ⟨.str ⟨#[z.cps[i]]⟩,H,B,⟨_,rfl⟩,⟨rfl,_,by simp[a],rfl⟩,g,λ b f=>(hf b f).1⟩⟩
 done:=by
  intro X l hw m hc i u s Y H E I hf st a;subst l hw m;have a:z.cps.size<=i:=a;let⟨f0,f1,f2,p,f4,n⟩:=hf it 's';exact wpAny_pyNext_ascii_end (I.ok.hd hc) st (by simp[a]) λ j A=>⟨rfl,I.turned (t':=s.toks) (λ b o f e=>A b o f e) f0 f1 p f4 n⟩
 self:=λ _ _ _ _ _ st h=>wpAny_pyIter_striter_ascii st h
section
variable{X:Cx}{tg:Expr}
def Kp(a:TE):TI:=fun Y H R=>a Y H λ x b=>∃z,x=.str z/\asc z=true/\R (Ko z) b
theorem DP{l:Expr}{d:TE}(i:PE X l d):PI X tg l (Kp d):=by
 intro m s Y H R I h;refine br (i m s Y H _ I h) λ v a ⟨x,n,c,f,g⟩=>?_;let⟨z,rfl,k,q⟩:=g;let⟨t,rfl⟩:=f;refine wpAny_pyIter_ascii k ?_;refine⟨a⁻¹,[a⁻¹],_,_,n,rfl,c.kept (t':=a.toks) λ b o e=>MH _ e,wR z t _,⟨_,MR _ rfl,rfl,rfl⟩,λ b j=>?_,q⟩;obtain rfl:b=a⁻¹:=by simpa using j
 exact c.oS (MK _) (c.hok.fresh (MK _))
end
def Jg(K:ae)(a:Addr):It:=
 ⟨λ i H=>∃b x,gk K H a b/\b[i]?=some x,λ i H x c=>∃p v,H p=none/\x=.ref p/\c=upd H p (.tup [.int i,v])/\∀b,gk K H a b->b[i]?=some v,λ i H=>∃b,gk K H a b/\b.length<=i⟩
theorem uJ{w:World}{K:ae}{elts:List Expr}{Z}{pos:Pos}(a e it:Addr)(t:e≠it) :
  Turn P w K (.Tuple elts Z pos) (Jg K a) [e,it] e (λ i h=>(∃old,IsEnum h e it (i:Int) old)/\h.IsListIter it a i) where
 mem:=by simp
 obj:=λ i h st b f=>by
  let⟨⟨old,he⟩,o,l,hc,hd⟩:=st;rcases MX.mp f with rfl | f
  .refine⟨_,he,λ v q=>?_⟩;have q':Data.fields _=Data.cell v:=q;cases q'
  .obtain rfl:b=it:=by simpa using f
   exact⟨o,l,λ v q=>by rw[hd] at q;cases q⟩
 keep:=λ i h h' st k=>by
  let⟨⟨old,he⟩,o,l,r⟩:=st;exact⟨⟨old,k e 's' _ he⟩,o,k it 's' o l,r⟩
 item:=by
  intro X O hw Q hc i V s Y H E I hf st N;subst O hw Q;let⟨xs,x,D,L⟩:=N;let⟨⟨old,he⟩,hit⟩:=st;let⟨its,J,p,hz⟩:=I.list D;let⟨u,hu,ru⟩:=J.get L;let⟨f0,f1,f2,f3,f4,f5⟩:=hf e 's';let⟨F,g1,g2,g3,S,R⟩:=hf it 's';refine wpAny_pyNext_enum_item he hit p.isList (x:=u) (~~~hu) t λ h1 l hi ht hs k1=>⟨_,rfl,?_⟩;have y:e<s⁻¹:=MI he;have M:it<s⁻¹:=by let⟨o,q,_⟩:=hit;exact MI q
  refine Pz (s:={s with heap:=h1,toks:=s.toks+1}) l λ j hE B=>?_;have k2:∀b o,b≠e->b≠it->s.heap.get? b=some o->j.get? b=some o:=λ b o U n2 q=>B.extBut b o U (k1 b o U n2 q);have Kq:j.get? s⁻¹=some {cls:=.type "tuple",data:=.seq #[.int i s.toks,u]}:=B.extBut _ _ (NS y) ht;have hsz2:j.objs.size=s⁻¹+1:=by rw[B.1];exact hs
  have g:H s⁻¹=none:=I.hok.fresh (MK _);have C:∀b o,H b=some o->b≠e/\b≠it:=λ b o q=>⟨(λ z=>by rw[z,f0] at q;cases q),(λ z=>by rw[z,F] at q;cases q)⟩;have hok:fD X.prog X.w (upd H s⁻¹ (.tup [.int i,x])) j:=by
   have lift:∀b o,H b=some o->aW X.prog X.w (upd H s⁻¹ (.tup [.int i,x])) j b o:=λ b o q=>
    (I.hok b o q).stay (λ c v A r=>k2 c v (by
     rcases A with z | z
     .rw[z];exact(C b o q).1
     .exact(C c _ z).1) (by
     rcases A with z | z
     .rw[z];exact(C b o q).2
     .exact(C c _ z).2) r) (λ c r=>by rw[ai (au r g)];exact r) λ c T r=>by rw[ai (au r g)];exact r
   intro b o q
   by_cases G:b=s⁻¹
   .subst G;rw[av] at q;cases q;exact⟨by show 2<=sizeLine;decide,[.int i s.toks,u],.cons ⟨_,rfl⟩ %[|ru],⟨_,Kq,rfl,_,rfl⟩⟩
   .rw[ai G] at q;exact lift b o q
  have I2:Inv X V Y (upd H s⁻¹ (.tup [.int i,x])) {s with heap:=j,toks:=s.toks+1}:=by
   refine I.step (g':=s.gens) (d':=s.drawn) (ch:=[e,it]) (λ b f=>?_) (λ b o hL f d q n=>?_) (λ b o hL f d q n=>?_) (λ b o d q n=>?_) (λ b o d q=>?_) (λ b T q=>by rw[ai (au q g)];exact q) (λ b o u q=>by rw[ai (au q g)];exact q)
    (λ b ps q=>⟨#[],by rw[ai (au q g),q];simp⟩) (λ m hm=>?_) hok I.bare
   .rcases MX.mp f with rfl | f
    .exact⟨f3,f1,f4,f5⟩
    .obtain rfl:b=it:=by simpa using f
     exact⟨g3,g1,S,R⟩
   .erw[OH,Og,O6,Qx] at d;exact k2 b o d.1 d.2 q
   .erw[OH,Og,O6,Qx] at d;exact⟨o.slots,k2 b o d.1 d.2 q⟩
   .rw[ai (MQ (MI q))];exact n
   .erw[OH,Og,O6,Qx] at d;exact⟨o,k2 b o d.1 d.2 q⟩
   .let⟨o,es,ep,q,r⟩:=hm;exact⟨o,es,ep,k2 _ o (Ne.symm f1) (Ne.symm g1) q,r⟩
  refine⟨.ref s⁻¹,_,I2,rfl,⟨_,x,g,rfl,rfl,λ T hy=>by rw[I.oQ hy D];exact L⟩,⟨⟨_,by have:=hE;rw[show ((i:Int)+1)=((i+1:Nat):Int) by omega] at this;exact this⟩,?_⟩,λ b f=>?_⟩
  .let⟨o,q,r⟩:=hi;exact⟨o,B.extBut _ _ (Ne.symm t) q,r⟩
  .rcases MX.mp f with rfl | f
   .rw[ai (MQ y)];exact f0
   .obtain rfl:b=it:=by simpa using f
    rw[ai (MQ M)];exact F
 done:=by
  intro X O hw Q hc i V s Y H E I hf st N;subst O hw Q;let⟨xs,D,L⟩:=N;let⟨⟨old,he⟩,hit⟩:=st;let⟨its,J,p,hz⟩:=I.list D;let⟨F,g1,g2,g3,S,R⟩:=hf it 's';have hl:=J.length;exact wpAny_pyNext_enum_end (I.ok.hd hc) he hit p.isList (by simp;omega) λ h' G=>⟨rfl,I.turned (t':=s.toks) (λ b o f q=>G b o f q) F g1 g3 S R⟩
 self:=λ _ _ _ _ _ st h=>by
  let⟨⟨old,he⟩,_⟩:=st;exact OV he h
section
variable{X:Cx}
def Hs(K:ae)(e:TA):TI:=fun Y H R=>e Y H λ d b=>∃a,d=[.ref a]/\(∃c,gk K b a c)/\R (Jg K a) b
theorem Ab{l:Expr}{j:TA}{p pos d:Pos}{f:List Expr}{o}(B:Gl X "enumerate")(hm:X.mg "enumerate"=none)(ha:PA X [l] j)(hs:starEach [l] X.env=[(false,eval l X.env)]:=by rfl) :
  PI X (.Tuple f o d) (.Call (.Name "enumerate" p) [l] [] pos) (Hs X.K j):=by
 intro m s Y H R I h;refine Call_ (gm I B hm (u:=.type "enumerate") 'k' (NJ (br (ha pos m s Y H _ I h) λ G e ⟨F,n,c,t,v⟩=>?_) hs rfl));let⟨a,rfl,⟨E,z⟩,q⟩:=v;let⟨u,rfl,r⟩:=vals1 t;cases r;let⟨x,J,w,L⟩:=c.list z;refine call_enumerate_list w.isList λ C k g y A=>?_;refine OV k ?_;have D:Inv X m Y n {e with heap:=C}:=c.kept (t':=e.toks) A;refine⟨_,_,_,_,n,rfl,D,uJ a (e⁻¹+1) e⁻¹ (Nat.succ_ne_self _),⟨⟨_,k⟩,g⟩,λ b i=>?_,q⟩;rcases MX.mp i with rfl | i
 .exact c.oS (NW _) (c.hok.fresh (NW _))
 .obtain rfl:b=e⁻¹:=by simpa using i
  exact c.oS (MK _) (c.hok.fresh (MK _))
end
section
variable{X:Cx}
def unlike(ns:List Int):Nat:=(firstMet (λ i=>ns.getD i 0) ns.length).length
def j8(P:Program)(w:World)(a:Addr)(S:Key->Bool)(n:Nat):HO:=.ext λ h=>h.SetOf (aV P w) a S n
theorem sR{w:World}{H:Hp}{h:Heap}{a:Addr}{S:Key->Bool}{n:Nat}(x:h.SetOf (aV P w) a S n):aW P w H h a (j8 P w a S n):=by
 let⟨o,r⟩:=id x;let⟨m,p,t,e,r⟩:=r;refine⟨x,⟨o,e⟩,λ l j ⟨g,b,c,d,i,f⟩ k=>⟨g,b,c,d,k _ i,f⟩⟩
theorem uL:cg X (.type "set") (λ xs H Q=>xs=[]/\∀p,H p=none->Q (.ref p) (upd H p (j8 X.prog X.w p (λ _=>false) 0))):=by
 intro g s Y H xs f Q I r h;let⟨rfl,q⟩:=h;cases r;refine call_set_0 λ c=>?_;have d:(s.heap.push {cls:=.type "set",dict:=none,data:=.set #[] 0 (.fresh 0 0 c)}).get? s⁻¹=some {cls:=.type "set",dict:=none,data:=.set #[] 0 (.fresh 0 0 c)}:=MR _ rfl;refine⟨.ref s⁻¹,_,I.laid (t':=s.toks) (o:=j8 X.prog X.w s⁻¹ (λ _=>false) 0) (λ b o e=>MH _ e) (MK _) (sR ?_),rfl,q _ (I.hok.fresh (MK _))⟩
 letI:BEq Key:=⟨λ a b=>decide (a=b)⟩
 haveI:LawfulBEq Key:={eq_of_beq:=λ h=>Ot h,rfl:=NH rfl}
 exact SetOf_congr ((setObjOf_fresh (knd:=aV X.prog X.w) c).setOf d (by unfold scanBound;omega)) (λ _=>rfl) rfl
theorem wU{k:Key}{u:Value}(r:RelV (kV k) u):jT k u=true/\u.scannable=true:=by
 cases k with
 |inl i=>let⟨t,rfl⟩:=r;exact⟨lU i t,rfl⟩
 |inr x=>let⟨t,rfl⟩:=r;exact⟨lV x t,rfl⟩
def DQ(P:Program)(w:World):R2:=λ x y H Q=>∃a S n k,y=.ref a/\x=kV k/\H a=some (j8 P w a S n)/\Q (.bl (S k)) H
theorem uM:fu X (compareOp .In) (DQ X.prog X.w):=by
 intro i s Y H x y v u Q I c b h;let⟨a,S,n,k,rfl,rfl,d,q⟩:=h;cases b;let⟨g,f⟩:=wU c;let⟨e,_⟩:=I.hok _ _ d;exact wpAny_inSet_of (knd:=aV X.prog X.w) g f e ⟨.bl _,H,I.tok _,rfl,q⟩
def Ac(P:Program)(w:World):V->List V->Hp->VK->Prop:=λ x b H Q=>∃a S n k,x=.ref a/\b=[kV k]/\H a=some (j8 P w a S n)/\n<4000/\Q .non (upd H a (j8 P w a (λ j=>S j||decide (j=k)) (if S k then n else n+1)))
theorem rB:J9 X "set.add" (Ac X.prog X.w):=by
 intro F s Y H x A v B Q I g i h;let⟨a,S,n,k,rfl,rfl,d,C,q⟩:=h;cases g;let⟨u,rfl,j⟩:=i.one;let⟨y,r⟩:=wU j;let⟨p,_⟩:=id (I.hok _ _ d);refine call_set_add (knd:=aV X.prog X.w) y r p (by unfold scanBound;omega) λ z f c=>?_;have l:∃u,z.get? a=some u:=by let⟨o,D,E,t,e,_⟩:=c;exact⟨o,e⟩
 exact⟨.non,_,I.write (x:=a) (e:=a) (t':=s.toks+1) (by rw[d];trivial) (.inl rfl) (λ b o m e=>f.extBut b o m e) l (sR c),rfl,q⟩
end
section
variable{prog:Program}{w:World}{A:Around}{E:Value->Shared->Prop}
theorem BO{it l:Addr}{its:Array Value}(d:l≠it):∀(n i:Nat) (s:Shared) (Q:List Value->Shared->Prop),s.heap.IsListIter it l i->s.heap.IsList l its->i+n<=its.size->
  (∀h',h'.IsListIter it l (i+n)->Heap.SameBut it s.heap h'->Q ((its.toList.drop i).take n) {s with heap:=h'})->wpAny (model prog w) A (draw (.ref it) n) Q E s
 |0,i,s,Q,a,_,_,q=>by
  show wpAny _ _ (pure []) Q E s;exact MP (by simpa using q s.heap a (Heap.SameBut.refl ..))
 |n+1,i,s,Q,a,b,le,q=>by
  have f:i<its.size:=by omega
  show wpAny _ _ (pyNext (.ref it) >>= _) Q E s;refine MF (PZ a b (x:=its[i]) (by simp[f]) λ m k c=>?_);refine MF (NG (BO d n (i+1) _ _ k (b.extBut c.extBut d) 'o' λ h j g=>MP ?_));have e:its.toList.drop i=its[i]::its.toList.drop (i+1):=by simp[drop_eq_getElem_cons,f]
  have z:=q h (by rw[show i+(n+1)=i+1+n by omega];exact j) (c.trans g);rw[e,take_succ_cons] at z;exact z
theorem Ad{s:Shared}{t:Addr}{its:Array Value}{c:List (Bool×(Value->Sem Unit))}{Q:Unit->Shared->Prop}(m:A.handled=none)(a:s.heap.IsList t its)
  (l:c.length=its.size) (d:c.findIdx? (·.1)=none)
  (h:∀h',Heap.ExtBut s⁻¹ s.heap h'->wpAny (model prog w) A (assignInOrder (c.map (·.2)) its.toList) Q E {s with heap:=h'}) :
  wpAny (model prog w) A (unpack (.ref t) c) Q E s:=by
 have i:t≠s⁻¹:=by let⟨o,k,_⟩:=a;exact MQ (MI k)
 unfold unpack;rw[l,d];refine MF (NG ?_);unfold unpackItems;refine MF ?_
 .unfold notIterableAtAll;refine MF (wpAny_specialOf a.typeIs slot_list_iter.lookup (MP ?_));erw[MY,Np];refine MF (NG (OS a ?_));refine MF (NG (BO i its.size 0 _ _ ⟨_,MR _ rfl,rfl,rfl⟩ (a.push _) 'o' λ p u g=>?_));have f:List.take its.size (List.drop 0 its.toList)=its.toList:=by rw[drop_zero];exact PL 's'
  rw[f,M8 's'];have r:p.IsList t its:=(a.push _).extBut g.extBut i;refine MF (NG (wpAny_pyNext_list_end m u r 's' λ n q=>?_));erw[Option.isSome_none,MY,Np];exact MP (h n λ b o j e=>q b o j (g.extBut b o j (MH _ e)))
end
section
variable{X:Cx}{pos:Pos}
def Kr(K:ae)(n:Nat)(t:zm):TG:=λ v Y H Q=>∃a b,v=.ref a/\gk K H a b/\b.length=n/\t b Y H Q
theorem DR{es:List Expr}{k:Nat}{t:zm}{n:Nat}(x:X.calm=true)(h:qK X es t)
  (q:(assignEach es X.env).length=n:=by rfl) (d:(assignEach es X.env).findIdx? (·.1)=none:=by rfl):PG X (.Tuple es k pos) (Kr X.K n t):=by
 intro g s Y H v u Q I r c;let⟨a,i,rfl,p,w,c⟩:=c;cases r;let⟨l,f,j,A⟩:=I.list p;rw[assign_Tuple];refine MF (NC (Ad (I.ok.hd x) j.isList (by simp[q,<-w,f.length]) d λ y m=>?_));have z:Inv X g Y H {s with heap:=y}:=I.kept (t':=s.toks) λ b o e=>m b o (MQ (MI e)) e;exact h g _ Y H i _ Q z (~~~f) c
theorem uN:fu X (compareOp .LtE) (λ x y H Q=>∃i j,x=.str i/\y=.str j/\Q (.bl (!decide (j.cps.toList<i.cps.toList))) H):=by
 intro d s Y H x y v u Q I b a h;let⟨i,j,rfl,rfl,q⟩:=h;let⟨t,rfl⟩:=b;let⟨c,rfl⟩:=a;exact PySem.P.le_str (jX I q rfl)
theorem DS:Hh X (λ x lo d H Q=>∃z,x=.str z/\z.length<=sizeLine/\Q (.str (Txt.slice z lo d)) H):=by
 intro r s Y H x v y w lo d A Q I n c o m h;let⟨z,rfl,p,q⟩:=h;let⟨t,rfl⟩:=n;have b:∀g k,EP X r Y Q (.str (Txt.slice z lo d) g) {s with toks:=k}:=λ g k=>⟨.str _,H,I.tok k,⟨_,rfl⟩,q⟩;have a:=Na (Txt.slice_le z lo d) p;refine⟨"str",_,F.slot_str_getitem.lookup,typeIs_str _ _ _,?_⟩;cases o with
 |none=>
  cases m with
  |none=>exact Od (l:=none) (u:=none) (st:=none) c rfl (O9 ⟨a,b⟩)
  |int j e=>exact Od (l:=none) (u:=some (j,e)) (st:=none) c rfl (O9 ⟨a,b⟩)
 |int i f=>
  cases m with
  |none=>exact Od (l:=some (i,f)) (u:=none) (st:=none) c rfl (O9 ⟨a,b⟩)
  |int j e=>exact Od (l:=some (i,f)) (u:=some (j,e)) (st:=none) c rfl (O9 ⟨a,b⟩)
theorem Ht:cg X (.type "range") (λ xs H Q=>∃n:Int,xs=[.int n]/\∀p,H p=none->Q (.ref p) (upd H p (.rng 0 n))):=by
 intro d s Y H xs c Q I r h;let⟨n,rfl,q⟩:=h;let⟨u,rfl,a⟩:=vals1 r;let⟨t,rfl⟩:=a;exact call_range_1 ⟨.ref s⁻¹,_,I.laid (o:=.rng 0 n) (λ b o e=>MH _ e) (MK _) ⟨_,_,_,MR _ rfl⟩,rfl,q _ (I.hok.fresh (MK _))⟩
end
end L2
end
section
namespace L2
open PySem PySem.Spec PyProof.Rows List
open AutoSeq1 (wpAny_loadPart')
variable{Q:Value->Shared->Prop}{i:Nat}{it:Addr}{its:Array Value}
section
variable{prog:Program}{w:World}{A:Around}{E:Value->Shared->Prop}{s:Shared}
theorem nextT{l:Addr}{x:Value}(a:s.heap.IsTupleIter it l i)(b:s.heap.IsTuple l its)(h:its[i]?=some x)
  (q:∀h',h'.IsTupleIter it l (i+1)->Heap.SameBut it s.heap h'->Q x {s with heap:=h'}):wpAny (model prog w) A (Builtin.SmallTypes.nextOf (.ref it)) Q E s:=by
 let⟨o,d,g,c⟩:=id a;let⟨p,f,_,n,e⟩:=b;unfold Builtin.SmallTypes.nextOf;refine MF (NX (name:=Str.ofString "__next__") a.typeIs N3 (OB N3 a.typeIs Pf ?_ (Pa _)));show wpAny _ _ (field (.ref it) 0 >>= _) _ _ s;refine MF (Nv d c (x:=.ref l) rfl ?_);show wpAny _ _ (if (Value.ref l==Value.none)=true then _ else _) _ _ s;rw[M8 (show ¬((Value.ref l==Value.none)=true) from Pw)];show wpAny _ _ (field (.ref it) 1 >>= _) _ _ s;refine MF (Nv d c (x:=.int i 0) rfl ?_);show wpAny _ _ (seqItems? (.ref l) >>= _) _ _ s;refine MF (wpAny_seqItems f e ?_);erw[OW,h];refine MF (PC d c 's' (MP ⟨x,rfl,MP (q _ ?_ (Heap.SameBut.update ..))⟩));exact⟨_,N5 _ d (O2 (OM c _)),(Obj.cls_mapFields ..).trans g,by rw[OM c];simp[rawInt]⟩
theorem wV{l:Addr}(f:A.handled=none)(a:s.heap.IsTupleIter it l i)(b:s.heap.IsTuple l its)(j:its[i]?=none)
  (q:∀h' e,Heap.ExtBut it s.heap h'->(Exists λ o=>h'.get? e=some o/\o.cls=.type "StopIteration")->E (.ref e) {s with heap:=h'}):wpAny (model prog w) A (Builtin.SmallTypes.nextOf (.ref it)) Q E s:=by
 let⟨o,d,r,c⟩:=id a;let⟨p,h,_,n,g⟩:=b;unfold Builtin.SmallTypes.nextOf;refine MF (NX (name:=Str.ofString "__next__") a.typeIs N3 (OB N3 a.typeIs Pf ?_ (Pa _)));show wpAny _ _ (field (.ref it) 0 >>= _) _ _ s;refine MF (Nv d c (x:=.ref l) rfl ?_);show wpAny _ _ (if (Value.ref l==Value.none)=true then _ else _) _ _ s;rw[M8 (show ¬((Value.ref l==Value.none)=true) from Pw)];show wpAny _ _ (field (.ref it) 1 >>= _) _ _ s;refine MF (Nv d c (x:=.int i 0) rfl ?_);show wpAny _ _ (seqItems? (.ref l) >>= _) _ _ s;refine MF (wpAny_seqItems h g ?_);erw[OW,j];refine MF (Qe (MF (PC d c 's' ?_)));show wpAny _ _ (newExc (.type "StopIteration") [] >>= _) _ _ _;refine MF ?_;erw[newExc,newTuple];refine MF (OX ?_ (by size_fits));refine MF (m:=firstArgMember _ _) (wpAny_of_eq (a:=Value.none) (by first | rfl | (erw[firstArgMember];rfl)) ?_);refine OX ?_ (by size_fits);erw[raiseNew];refine MF (wpAny_handled ?_)
 first | rw[show A.in1.handled=none from f] | rw[f]
 refine MF (MP (wpAny_throw ?_));refine q _ _ (λ b o k e=>?_) ⟨_,MR _ rfl,rfl⟩;exact MH _ (MH _ ((Heap.SameBut.update ..).extBut b o k e))
theorem rC{e l:Addr}{x c:Value}{Q:Option Value->Shared->Prop}
  (H:IsEnum s.heap e it i c) (a:s.heap.IsTupleIter it l i) (b:s.heap.IsTuple l its) (hx:its[i]?=some x) (C:e≠it)
  (q:∀h',IsEnumOut h' e it ((i:Int)+1) x s⁻¹->h'.IsTupleIter it l (i+1)->
   h'.get? s⁻¹=some {cls:=.type "tuple",data:=.seq #[.int i s.toks,x]}->h'.objs.size=s⁻¹+1->
   (∀b o,b≠e->b≠it->s.heap.get? b=some o->h'.get? b=some o)->Q @(.ref s⁻¹) {s with heap:=h',toks:=s.toks+1}) :
  wpAny (model prog w) A (pyNext (.ref e)) Q E s:=by
 have W:s.TypeIs (.ref e) "enumerate":=⟨_,H,rfl⟩;unfold pyNext;refine MF (wpAny_attempt (NX (name:=Str.ofString "__next__") W Om (OB Om W Qf ?_ (PX _))));let⟨j,g,d,f,k⟩:=s;show wpAny _ _ (field (.ref e) 2 >>= _) _ _ _;refine MF (Nv H rfl (x:=.ref it) rfl ?_);refine MF (nextT a b hx λ m X B=>?_);replace B:Heap.SameBut it j m:=B;have M:IsEnum m e it i c:=(B.2 e C).trans H;show wpAny _ _ (field (.ref e) 3 >>= _) _ _ ⟨m,g,d,f,k⟩;refine MF (Nv M rfl (x:=rawInt i) rfl ?_);show wpAny _ _ (field (.ref e) 4 >>= _) _ _ ⟨m,g,d,f,k⟩;refine MF (Nv M rfl (x:=.none) rfl ?_);show wpAny _ _ (mkInt i >>= _) _ _ ⟨m,g,d,f,k⟩;refine MF (wpAny_mkInt ?_);show wpAny _ _ (setField (.ref e) 3 (rawInt ((i:Int)+1)) >>= _) _ _ ⟨m,g,d,f+1,k⟩;refine MF (Oi M 's' λ F L z=>?_);replace z:Heap.SameBut e m F:=z;replace L:IsEnum F e it ((i:Int)+1) c:=L;show wpAny _ _ (setField (.ref e) 4 .none >>= _) _ _ ⟨F,g,d,f+1,k⟩;refine MF (Oi L 's' λ p K y=>?_);replace y:Heap.SameBut e F p:=y;replace K:IsEnum p e it ((i:Int)+1) c:=K;show wpAny _ _ (newTuple [.int i f,x] >>= _) _ _ ⟨p,g,d,f+1,k⟩;refine MF (wpAny_newTuple ?_);have J:IsEnum (p.push {cls:=.type "tuple",data:=.seq #[.int i f,x]}) e it ((i:Int)+1) c:=MH _ K;generalize h:p.push {cls:=.type "tuple",data:=.seq #[.int i f,x]}=D at J;have G:p.objs.size=j.objs.size:=by rw[y.1,z.1,B.1]
 have S:e<j.objs.size:=MI H;have Z:D.get? j.objs.size=some {cls:=.type "tuple",data:=.seq #[.int i f,x]}:=by rw[<-h,<-G];exact MR _ rfl
 have Y:D.objs.size=j.objs.size+1:=by rw[<-h,NV,G]
 have k4:∀b o,b≠e->b≠it->j.get? b=some o->D.get? b=some o:=λ b o n N O=>by
  rw[<-h];exact MH _ (y.extBut b o n (z.extBut b o n (B.extBut b o N O)))
 have a4:D.IsTupleIter it l (i+1):=by
  rw[<-h];let⟨o,ho,r⟩:=(X.extBut z.extBut (Ne.symm C)).extBut y.extBut (Ne.symm C);exact⟨o,MH _ ho,r⟩
 show wpAny _ _ (Builtin.SmallTypes.ownedTupleIsFree (.ref e) >>= _) _ _ ⟨D,g,d,f+1,k⟩;rw[G];clear h K y L z M B X G p F m;refine MF ?_;unfold Builtin.SmallTypes.ownedTupleIsFree;refine MF (Nv J rfl (x:=.none) rfl (MP ?_));erw[Nf];refine MF (Qe ?_);refine MF (Nv J rfl (x:=c) rfl ?_);refine MF (Oi J 's' λ I V v=>?_);replace v:Heap.SameBut e D I:=v;replace V:IsEnum I e it ((i:Int)+1) x:=V;show wpAny _ _ (Builtin.SmallTypes.ownedTupleHandOut (.ref e) (.ref j.objs.size) >>= _) _ _ ⟨I,g,d,f+1,k⟩;refine MF ?_;unfold Builtin.SmallTypes.ownedTupleHandOut;refine MF (Oi V 's' λ R U u=>?_);replace u:Heap.SameBut e I R:=u;replace U:IsEnumOut R e it ((i:Int)+1) x j.objs.size:=U;refine Oi U 's' λ P T t=>?_;replace t:Heap.SameBut e R P:=t;replace T:IsEnumOut P e it ((i:Int)+1) x j.objs.size:=T;refine MF (wpAny_letGo (MP ⟨_,rfl,MP (q P T ?_ ?_ ?_ ?_)⟩))
 .exact((a4.extBut v.extBut (Ne.symm C)).extBut u.extBut (Ne.symm C)).extBut t.extBut (Ne.symm C)
 .exact t.extBut _ _ (NS S) (u.extBut _ _ (NS S) (v.extBut _ _ (NS S) Z))
 .rw[t.1,u.1,v.1,Y]
 .exact λ b o n N O=>t.extBut b o n (u.extBut b o n (v.extBut b o n (k4 b o n N O)))
theorem uO{e l:Addr}{c:Value}{Q:Option Value->Shared->Prop}(n:A.handled=none)
  (d:IsEnum s.heap e it i c) (a:s.heap.IsTupleIter it l i) (b:s.heap.IsTuple l its) (m:its[i]?=none)
  (q:∀h',Heap.ExtBut it s.heap h'->Q none {s with heap:=h'}):wpAny (model prog w) A (pyNext (.ref e)) Q E s:=by
 have f:s.TypeIs (.ref e) "enumerate":=⟨_,d,rfl⟩;unfold pyNext;refine MF (wpAny_attempt (NX (name:=Str.ofString "__next__") f Om (OB Om f Qf ?_ (PX _))));show wpAny _ _ (field (.ref e) 2 >>= _) _ _ _;refine MF (Nv d rfl (x:=.ref it) rfl ?_);refine MF (wV n a b m λ h' x k j=>?_);let⟨o,h,g⟩:=j;refine MF (wpAny_isInstance (T:="StopIteration") (b:=true) ⟨o,h,g⟩ isSubtype_stop ?_);exact MP (q _ k)
theorem uP(l:Addr)(its:Array Value)(n:Nat)(b:Option Addr)(k:Array (Option Value)) :
  Meets (Builtin.«enumerate.__new__» ⟨[.type "enumerate",.ref l],[]⟩) (λ _ R s=>s.heap.get? l=some {cls:=.type "tuple",dict:=b,data:=.seq its n,slots:=k}/\
   R (.ok (.ret (.ref (s.heap.push {cls:=.type "tuple_iterator",data:=.fields #[.ref l,.int 0 0]}).objs.size)))
    {s with heap:=(s.heap.push {cls:=.type "tuple_iterator",data:=.fields #[.ref l,.int 0 0]}).push {cls:=.type "enumerate",data:=.fields #[.none,.bool false,.ref s⁻¹,rawInt 0,.none,.none]}}):=
 .of_wp λ prog w A R s h=>by
  let⟨o,g,d,j,m⟩:=s;let⟨a,h⟩:=h;have e:=sub_enumerate;have f:Heap.IsTuple (Shared.heap ⟨o,g,d,j,m⟩) l its:=⟨_,a,rfl,n,rfl⟩
  wp_walk using wpAny_loadPart' a
  refine wpAny_stack_any λ p=>MP ?_;split
  .ext c _ _ _ _ _;cases (c==Value.type "enumerate")
   all_goals
    wp_walk using wpAny_loadPart' a,Pr f
    exact⟨_,rfl,h⟩
  .wp_walk using wpAny_loadPart' a,Pr f
   exact⟨_,rfl,h⟩
theorem rD{l:Addr}(p:s.heap.IsTuple l its)
  (h:∀h',IsEnum h' (s⁻¹+1) s⁻¹ 0 .none->h'.IsTupleIter s⁻¹ l 0->h'.objs.size=s⁻¹+2->
   (∀b o,s.heap.get? b=some o->h'.get? b=some o)->Q (.ref (s⁻¹+1)) {s with heap:=h'}) :
  wpAny (model prog w) A (call (.type "enumerate") [.ref l]) Q E s:=by
 let⟨⟨c,g,q,k⟩,m,f,n,e⟩:=p;replace f:c=.type "tuple":=f;replace e:q=.seq its n:=e;subst f e;refine callType_new F.called_enumerate 'd' (F.typeCall_enumerate_1 _) (F.newCall_enumerate_1 _) (λ a=>F.args_object_init_2 a _) F.entry_enumerate_new (uP l its n g k) ⟨m,?_⟩;have d:(s.heap.push {cls:=.type "tuple_iterator",data:=.fields #[.ref l,.int 0 0]}).objs.size=s⁻¹+1:=NV ..;show _/\_;rw[d];have j:IsEnum ((s.heap.push {cls:=.type "tuple_iterator",data:=.fields #[.ref l,.int 0 0]}).push
   {cls:=.type "enumerate",data:=.fields #[.none,.bool false,.ref s⁻¹,rawInt 0,.none,.none]}) (s⁻¹+1) s⁻¹ 0 .none:=by
  have:=MR (s.heap.push {cls:=.type "tuple_iterator",data:=.fields #[.ref l,.int 0 0]})
   (o:={cls:=.type "enumerate",data:=.fields #[.none,.bool false,.ref s⁻¹,rawInt 0,.none,.none]}) rfl
  rw[d] at this;exact this
 refine⟨⟨_,j,rfl⟩,h _ j ⟨_,MH _ (MR _ rfl),rfl,rfl⟩ (by rw[NV,d]) λ b o x=>MH _ (MH _ x)⟩
end
end L2
end
section
namespace L2
open PySem PySem.Spec PyProof.Rows List
def Ks(K:ae)(a:Addr):It:=
 ⟨λ i H=>∃b x,dQ K H a b/\b[i]?=some x,λ i H x c=>∃p v,H p=none/\x=.ref p/\c=upd H p (.tup [.int i,v])/\∀b,dQ K H a b->b[i]?=some v,λ i H=>∃b,dQ K H a b/\b.length<=i⟩
theorem rE{P:Program}{w:World}{K:ae}{elts:List Expr}{Z}{pos:Pos}(a e it:Addr)(t:e≠it) :
  Turn P w K (.Tuple elts Z pos) (Ks K a) [e,it] e (λ i h=>(∃old,IsEnum h e it (i:Int) old)/\h.IsTupleIter it a i) where
 mem:=by simp
 obj:=λ i h st b f=>by
  let⟨⟨old,he⟩,o,l,hc,hd⟩:=st;rcases MX.mp f with rfl | f
  .refine⟨_,he,λ v q=>?_⟩;have q':Data.fields _=Data.cell v:=q;cases q'
  .obtain rfl:b=it:=by simpa using f
   exact⟨o,l,λ v q=>by rw[hd] at q;cases q⟩
 keep:=λ i h h' st k=>by
  let⟨⟨old,he⟩,o,l,r⟩:=st;exact⟨⟨old,k e 's' _ he⟩,o,k it 's' o l,r⟩
 item:=by
  intro X O hw Q hc i V s Y H E I hf st N;subst O hw Q;let⟨xs,x,D,L⟩:=N;let⟨⟨old,he⟩,hit⟩:=st;let⟨its,J,p,hz⟩:=I.tuple D;let⟨u,hu,ru⟩:=J.get L;let⟨f0,f1,f2,f3,f4,f5⟩:=hf e 's';let⟨F,g1,g2,g3,S,R⟩:=hf it 's';refine rC he hit (show s.heap.IsTuple a its.toArray from p) (x:=u) (~~~hu) t λ h1 l hi ht hs k1=>⟨_,rfl,?_⟩;have y:e<s⁻¹:=MI he;have M:it<s⁻¹:=by let⟨o,q,_⟩:=hit;exact MI q
  refine Pz (s:={s with heap:=h1,toks:=s.toks+1}) l λ j hE B=>?_;have k2:∀b o,b≠e->b≠it->s.heap.get? b=some o->j.get? b=some o:=λ b o U n2 q=>B.extBut b o U (k1 b o U n2 q);have Kq:j.get? s⁻¹=some {cls:=.type "tuple",data:=.seq #[.int i s.toks,u]}:=B.extBut _ _ (NS y) ht;have hsz2:j.objs.size=s⁻¹+1:=by rw[B.1];exact hs
  have g:H s⁻¹=none:=I.hok.fresh (MK _);have C:∀b o,H b=some o->b≠e/\b≠it:=λ b o q=>⟨(λ z=>by rw[z,f0] at q;cases q),(λ z=>by rw[z,F] at q;cases q)⟩;have hok:fD X.prog X.w (upd H s⁻¹ (.tup [.int i,x])) j:=by
   have lift:∀b o,H b=some o->aW X.prog X.w (upd H s⁻¹ (.tup [.int i,x])) j b o:=λ b o q=>
    (I.hok b o q).stay (λ c v A r=>k2 c v (by
     rcases A with z | z
     .rw[z];exact(C b o q).1
     .exact(C c _ z).1) (by
     rcases A with z | z
     .rw[z];exact(C b o q).2
     .exact(C c _ z).2) r) (λ c r=>by rw[ai (au r g)];exact r) λ c T r=>by rw[ai (au r g)];exact r
   intro b o q
   by_cases G:b=s⁻¹
   .subst G;rw[av] at q;cases q;exact⟨by show 2<=sizeLine;decide,[.int i s.toks,u],.cons ⟨_,rfl⟩ %[|ru],⟨_,Kq,rfl,_,rfl⟩⟩
   .rw[ai G] at q;exact lift b o q
  have I2:Inv X V Y (upd H s⁻¹ (.tup [.int i,x])) {s with heap:=j,toks:=s.toks+1}:=by
   refine I.step (g':=s.gens) (d':=s.drawn) (ch:=[e,it]) (λ b f=>?_) (λ b o hL f d q n=>?_) (λ b o hL f d q n=>?_) (λ b o d q n=>?_) (λ b o d q=>?_) (λ b T q=>by rw[ai (au q g)];exact q) (λ b o u q=>by rw[ai (au q g)];exact q)
    (λ b ps q=>⟨#[],by rw[ai (au q g),q];simp⟩) (λ m hm=>?_) hok I.bare
   .rcases MX.mp f with rfl | f
    .exact⟨f3,f1,f4,f5⟩
    .obtain rfl:b=it:=by simpa using f
     exact⟨g3,g1,S,R⟩
   .erw[OH,Og,O6,Qx] at d;exact k2 b o d.1 d.2 q
   .erw[OH,Og,O6,Qx] at d;exact⟨o.slots,k2 b o d.1 d.2 q⟩
   .rw[ai (MQ (MI q))];exact n
   .erw[OH,Og,O6,Qx] at d;exact⟨o,k2 b o d.1 d.2 q⟩
   .let⟨o,es,ep,q,r⟩:=hm;exact⟨o,es,ep,k2 _ o (Ne.symm f1) (Ne.symm g1) q,r⟩
  refine⟨.ref s⁻¹,_,I2,rfl,⟨_,x,g,rfl,rfl,λ T hy=>by rw[I.lX hy D];exact L⟩,⟨⟨_,by have:=hE;rw[show ((i:Int)+1)=((i+1:Nat):Int) by omega] at this;exact this⟩,?_⟩,λ b f=>?_⟩
  .let⟨o,q,r⟩:=hi;exact⟨o,B.extBut _ _ (Ne.symm t) q,r⟩
  .rcases MX.mp f with rfl | f
   .rw[ai (MQ y)];exact f0
   .obtain rfl:b=it:=by simpa using f
    rw[ai (MQ M)];exact F
 done:=by
  intro X O hw Q hc i V s Y H E I hf st N;subst O hw Q;let⟨xs,D,L⟩:=N;let⟨⟨old,he⟩,hit⟩:=st;let⟨its,J,p,hz⟩:=I.tuple D;let⟨F,g1,g2,g3,S,R⟩:=hf it 's';have hl:=J.length;exact uO (I.ok.hd hc) he hit (show s.heap.IsTuple a its.toArray from p) (by simp;omega) λ h' G=>⟨rfl,I.turned (t':=s.toks) (λ b o f q=>G b o f q) F g1 g3 S R⟩
 self:=λ _ _ _ _ _ st h=>by
  let⟨⟨old,he⟩,_⟩:=st;exact OV he h
section
variable{X:Cx}
def DT(K:ae)(e:TA):TI:=fun Y H R=>e Y H λ d b=>∃a,d=[.ref a]/\(∃c,dQ K b a c)/\R (Ks K a) b
theorem wW{l:Expr}{k:TA}{p pos e:Pos}{f:List Expr}{r}(B:Gl X "enumerate")(hm:X.mg "enumerate"=none)(ha:PA X [l] k)(hs:starEach [l] X.env=[(false,eval l X.env)]:=by rfl) :
  PI X (.Tuple f r e) (.Call (.Name "enumerate" p) [l] [] pos) (DT X.K k):=by
 intro n s Y H R I h;refine Call_ (gm I B hm (u:=.type "enumerate") 'k' (NJ (br (ha pos n s Y H _ I h) λ G c ⟨F,o,d,v,w⟩=>?_) hs rfl));let⟨a,rfl,⟨E,z⟩,q⟩:=w;let⟨u,rfl,t⟩:=vals1 v;cases t;let⟨g,J,x,L⟩:=d.tuple z;refine rD (show c.heap.IsTuple a g.toArray from x) λ C m i y A=>?_;refine OV m ?_;have D:Inv X n Y o {c with heap:=C}:=d.kept (t':=c.toks) A;refine⟨_,_,_,_,o,rfl,D,rE a (c⁻¹+1) c⁻¹ (Nat.succ_ne_self _),⟨⟨_,m⟩,i⟩,λ b j=>?_,q⟩;rcases MX.mp j with rfl | j
 .exact d.oS (NW _) (d.hok.fresh (NW _))
 .obtain rfl:b=c⁻¹:=by simpa using j
  exact d.oS (MK _) (d.hok.fresh (MK _))
end
structure TopD(K:ae)(w:World)(a:Addr)(kvs:List (Str×V)):Prop where
 ex:∃(es:Array DictEntry) (n:Nat),K.lookup a=some ⟨.type "dict",none,.dict es n,#[]⟩/\PySem.W.KeysLit w.params es.toList/\∀x,eO (kvs.lookup x) (findBy Value.isStrOf es x)
 lo:(a==sysModules)=false
section
variable{X:Cx}
def uQ(K:ae)(w:World):R2:=λ x y H Q=>∃z a b,x=.str z/\y=.ref a/\TopD K w a b/\Q (.bl (!(b.lookup z).isSome)) H
theorem eO.isSome{o:Option V}{u:Option Value}(r:eO o u):u.isSome=o.isSome:=by
 cases o<;>cases u<;>first | rfl | exact r.elim
theorem iA:fu X (compareOp .NotIn) (uQ X.K X.w):=by
 intro j s Y H x y v u Q I c b h;let⟨z,a,d,rfl,rfl,T,q⟩:=h;let⟨t,rfl⟩:=c;cases b;let⟨i,n,g,f,e⟩:=T.ex;refine wpAny_notIn_of (strKind_is X.prog X.w z t) T.lo (PySem.W.mapOf_K (prog:=X.prog) I.eS g f) ?_;refine⟨.bl _,H,I.tok _,rfl,?_⟩;rw[(e z).isSome];exact q
def DU(K:ae)(w:World):R2:=λ x y H Q=>∃z a b v,y=.str z/\x=.ref a/\TopD K w a b/\b.lookup z=some v/\Q v H
theorem DV:DA X (DU X.K X.w):=by
 intro b c C s Y H x y v u Q I g f h k;let⟨z,a,j,o,rfl,rfl,T,l,q⟩:=h;let⟨t,rfl⟩:=f;cases g;let⟨B,n,A,p,m⟩:=T.ex;have r:=m z;rw[l] at r;let⟨u,e,i⟩:=r.some_of;have d:=PySem.W.mapOf_K (prog:=X.prog) I.eS A p;exact tail_any d.typeIs slot_dict_getitem.lookup (wpAny_getItem_of (strKind_is X.prog X.w z t) d e ⟨o,H,I.tok _,i,q⟩) k
end
end L2
end
section
namespace L2
open PySem PySem.Spec PyProof.Rows Builtin Builtin.Str List
theorem wX(ys:List Str):(Txt.join ⟨#[]⟩ ys).cps.toList=(ys.map λ y=>y.cps.toList).flatten:=by
 cases ys with
 |nil=>rfl
 |cons y r=>
  show ((r.foldl (λ a p=>a++#[]++p.cps) y.cps):Array Nat).toList=_;rw[Ni,flatten_cons];generalize y.cps=a
  induction r generalizing a with
  |nil=>simp
  |cons z r b=>
   rw[foldl_cons,b];simp
end L2
end
section
namespace D
open PySem List
variable{α:Type}
inductive W where
 |non | bl (b:Bool) | int (i:Int) | str (x:Str) | tup (xs:List W) | fz (xs:List W) | obj (c:Str) (ks:List Str) (vs:List W) | ref (n:Nat)
 deriving Inhabited
inductive O where
 |lst (xs:List W) | ins (c:Str) (fs:List (Str×W)) | set (ks:List L2.Key) | dic (fs:List (Str×W))
 |exc (c f:Str) (ws:List W)
abbrev Mem:=List O
abbrev Loc:=List (Option W)
inductive R(α:Type) where
 |no
 |ok (a:α) (m:Mem)
@[inline] noncomputable def R.bind{J:Type}(x:R α)(f:α->Mem->R J):R J:=match x with
 |.no=>.no
 |.ok a m=>f a m
inductive U where
 |isx (tab:List (Str×Bool)) | xfl (f:Str) (cs:List Str)
 |DG | mind | kin (kvs:List (Str×W)) | knin (kvs:List (Str×W)) | kget (kvs:List (Str×W)) | dict (ks:List Str) | isc (c:Str) | kv | dcm | dzip | dlst
inductive B where
 |len | abs | max | min | divmod | all | any | list | tuple | int | sorted | sum | repr | str | dum
 deriving DecidableEq
mutual
inductive T where
 |var (i:Nat) | tup (ts:Ts)
inductive Ts where
 |nil | cons (t:T) (ts:Ts)
end
mutual
inductive E where
 |var (i:Nat) | cst (w:W)
 |bin (op:Operator) (a b:E) | neg (a:E) | not (a:E) | and (a b:E) | or (a b:E)
 |cmp (op:CmpOp) (a b:E) | chain (o1 o2:CmpOp) (a b c:E)
 |ife (t a b:E) | tup (es:Es) | lst (es:Es) | idx (a b:E)
 |slc (a:E) (lo hi:Oe)
 |call (f:Nat) (es:Es) | blt (b:B) (es:Es) | isI (a:E) (t:String)
 |meth (o:E) (m:String) (es:Es)
 |comp (g:G)
 |rng (a:E) | rng2 (a b:E) | enm (a:E) | zip (es:Es) | lrng (a:E)
 |frz (a:E) | fld (a:E) (f:Str) | make (c:Str) (es:Es) | mth (o:E) (m:Str) (es:Es) | set0 | fus (u:U) (a:E)
inductive Es where
 |nil | cons (e:E) (es:Es)
inductive Oe where
 |none | some (e:E)
inductive G where
 |elt (e:E) | gen (t:T) (js:List Nat) (it:E) (ifs:Es) (rest:G)
end
mutual
inductive A where
 |pt (t:T) | sub (o i:E) | tup (l:As)
inductive As where
 |nil | cons (a:A) (l:As)
end
inductive BP where
 |drop | ret | asg (t:A)
mutual
inductive S where
 |asg (t:A) (e:E) | aug (i:Nat) (op:Operator) (e:E) | expr (e:E) | ret (e:E) | retN
 |ife (t:E) (a b:Ss) | for_ (t:T) (it:E) (b:Ss) | while_ (t:E) (b:Ss) | pass | brk | cont | never
 |fas (o:E) (f:Str) (e:E)
 |rais (c:Str) (f:Option Str) (e:E) | xc (h:BP) (c:Option Str) (i:Nat) (es:Es) | tr (b:Ss) (cs:List Str) (i:Option Nat) (h:Ss)
inductive Ss where
 |nil | cons (s:S) (r:Ss)
end
def lim:Nat:=1000000
def new(o:O)(m:Mem):R W:=.ok (.ref m.length) (m++[o])
def getL(m:Mem):W->Option (List W)
 |.ref n=>match m[n]? with
  |some (.lst xs)=>some xs
  |_=>none
 |.fz xs=>some xs
 |_=>none
def aM(m:Mem):W->Option (List W)
 |.tup xs=>some xs
 |w=>getL m w
def dH(f:W->Option α):List W->Option (List α)
 | []=>some []
 |x::xs=>match f x with
  |none=>none
  |some d=>match dH f xs with
   |none=>none
   |some ds=>some (d::ds)
def toD:Nat->Mem->W->Option PyData
 |0,_,_=>none
 |n+1,m,w=>match w with
  |.non=>some .none
  |.bl b=>some (.bool b)
  |.int i=>some (.int i)
  |.str x=>if x.cps.all (· < 0x110000) then some (.str x) else none
  |.tup xs=>(dH (toD n m) xs).map .tuple
  |.fz xs=>(dH (toD n m) xs).map .list
  |.ref a=>match getL m (.ref a) with
   |some xs=>(dH (toD n m) xs).map .list
   |none=>none
  |.obj _ _ _=>none
def uR(m:Mem)(x y:W):R Bool:=match toD 60 m x,toD 60 m y with
 |some d,some e=>.ok (PyData.eqv d e) m
 |_,_=>.no
def truthy(m:Mem):W->R Bool
 |.non=>.ok false m
 |.bl b=>.ok b m
 |.int i=>.ok (i != 0) m
 |.str x=>if x.length<=lim then .ok ((x.length:Int) != 0) m else .no
 |.tup xs=>.ok (!xs.isEmpty) m
 |.fz xs=>.ok (!xs.isEmpty) m
 |.ref n=>match getL m (.ref n) with
  |some xs=>.ok (!xs.isEmpty) m
  |none=>.no
 |.obj _ _ _=>.no
def jr(i j:Int):Bool:=(decide (-(2^64)<i)&&decide (i<2^64))||(decide (-(2^64)<j)&&decide (j<2^64))
def Ae(m:Mem)(x y:W):R W:=match getL m x,getL m y with
 |some xs,some a=>if xs.length+a.length<=lim then new (.lst (xs++a)) m else .no
 |_,_=>.no
def LY(n:Nat)(xs:List W):List W:=(List.replicate n xs).flatten
def binop(d:Operator)(x y:W)(m:Mem):R W:=match d with
 |.Add=>match x,y with
  |.int i,.int j=>.ok (.int (i+j)) m
  |.tup xs,.tup c=>if xs.length+c.length<=lim then .ok (.tup (xs++c)) m else .no
  |.str a,.str b=>if a.length+b.length<=lim then .ok (.str (a++b)) m else .no
  |x,y=>Ae m x y
 |.Sub=>match x,y with
  |.int i,.int j=>.ok (.int (i - j)) m
  |_,_=>.no
 |.Mult=>match x,y with
  |.int i,.int j=>if jr i j then .ok (.int (i*j)) m else .no
  |_,_=>.no
 |.FloorDiv=>match x,y with
  |.int i,.int j=>if 0<j/\j<1073741824 then .ok (.int (i / j)) m else .no
  |_,_=>.no
 |.Mod=>match x,y with
  |.int i,.int j=>if 0<j then .ok (.int (i%j)) m else .no
  |_,_=>.no
 |.Pow=>match x,y with
  |.int i,.int j=>if 0<=j/\j<=1000000/\i.natAbs<2^64 then .ok (.int (i^j.toNat)) m else .no
  |_,_=>.no
 |.LShift=>match x,y with
  |.int i,.int j=>if 0<=j/\j<=1000000/\i.natAbs<2^64 then .ok (.int (i*2^j.toNat)) m else .no
  |_,_=>.no
 |.RShift=>match x,y with
  |.int i,.int j=>if 0<=j then .ok (.int (i / 2^j.toNat)) m else .no
  |_,_=>.no
 |.BitAnd=>match x,y with
  |.int i,.int j=>.ok (.int (Builtin.bitAnd i j)) m
  |_,_=>.no
 |_=>.no
def jA(m:Mem)(x:W)(ys:List W):R Bool:=match toD 60 m x,dH (toD 60 m) ys with
 |some d,some a=>.ok (a.any λ e=>PyData.eqv e d) m
 |_,_=>.no
def j9(k:L2.Key)(ks:List L2.Key):Bool:=ks.any λ j=>decide (j=k)
def wY:W->Option L2.Key
 |.int i=>some (.inl i)
 |.str x=>some (.inr x)
 |_=>none
def pG(m:Mem)(x y:W):R Bool:=match y with
 |.str b=>match x with
  |.str a=>.ok (!(Builtin.Str.occurrences b a 0 b.length 1).isEmpty) m
  |_=>.no
 |.ref n=>match m[n]? with
  |some (.lst c)=>jA m x c
  |some (.set d)=>match wY x with
   |some k=>.ok (j9 k d) m
   |none=>.no
  |some (.dic fs)=>match x with
   |.str z=>.ok (fs.lookup z).isSome m
   |_=>.no
  |_=>.no
 |.fz c=>jA m x c
 |.tup c=>jA m x c
 |_=>.no
def jt:W->Bool
 |.non=>true
 |_=>false
def iB:List W->Option (List Int)
 | []=>some []
 |.int b::r=>(iB r).map (b::·)
 |_::_=>none
def aD(d:CmpOp)(x y:W)(m:Mem):R Bool:=match d with
 |.Eq=>uR m x y
 |.NotEq=>(uR m x y).bind λ b m=>.ok (!b) m
 |.Lt=>match x,y with
  |.int i,.int j=>.ok (decide (i<j)) m
  |.str a,.str b=>.ok (decide (a.cps.toList<b.cps.toList)) m
  |_,_=>.no
 |.LtE=>match x,y with
  |.int i,.int j=>.ok (decide (i<=j)) m
  |.str a,.str b=>.ok (!decide (b.cps.toList<a.cps.toList)) m
  |_,_=>.no
 |.Gt=>match x,y with | .int i,.int j=>.ok (decide (j<i)) m | _,_=>.no
 |.GtE=>match x,y with | .int i,.int j=>.ok (decide (j<=i)) m | _,_=>.no
 |.In=>pG m x y
 |.NotIn=>match y with
  |.ref n=>match m[n]? with
   |some (.lst c)=>(jA m x c).bind λ b m=>.ok (!b) m
   |some (.dic fs)=>match x with
    |.str z=>.ok (!(fs.lookup z).isSome) m
    |_=>.no
   |_=>.no
  |.fz c=>(jA m x c).bind λ b m=>.ok (!b) m
  |.tup c=>(jA m x c).bind λ b m=>.ok (!b) m
  |_=>.no
 |.Is=>match y with
  |.non=>.ok (jt x) m
  |_=>.no
 |.IsNot=>match y with
  |.non=>.ok (!jt x) m
  |_=>.no
def bh(x y:W)(m:Mem):R W:=match y with
 |.int i=>match x with
  |.str z=>if z.length<=lim then match L2.sM z.cps.toList i with
   |some c=>.ok (.str ⟨#[c]⟩) m
   |none=>.no else .no
  |x=>match aM m x with
   |some xs=>match L2.sM xs i with
    |some w=>.ok w m
    |none=>.no
   |none=>.no
 |.str z=>match x with
  |.ref n=>match m[n]? with
   |some (.dic fs)=>match fs.lookup z with
    |some w=>.ok w m
    |none=>.no
   |_=>.no
  |_=>.no
 |_=>.no
def Af(xs:List W)(lo a:Option Int):List W:=(xs.drop (HT.fy xs.length 0 lo)).take (HT.fy xs.length xs.length a - HT.fy xs.length 0 lo)
def ju(x:W)(lo a:Option Int)(m:Mem):R W:=match x with
 |.str z=>if z.length<=lim then .ok (.str (Txt.slice z lo a)) m else .no
 |x=>match getL m x with
  |some xs=>new (.lst (Af xs lo a)) m
  |none=>.no
def kc(o i v:W)(m:Mem):R Unit:=match o,i with
 |.ref n,.int k=>match m[n]? with
  |some (.lst xs)=>match L2.vJ xs.length k with
   |some j=>.ok () (m.set n (.lst (xs.set j v)))
   |none=>.no
  |_=>.no
 |_,_=>.no
def bools:List W->Option (List Bool)
 | []=>some []
 |.bl b::r=>(bools r).map (b::·)
 |_::_=>none
def Hu(m:Mem)(t:String):W->Option Bool
 |.non=>some (t=="NoneType")
 |.bl _=>some (t=="bool"||t=="int")
 |.int _=>some (t=="int")
 |.str _=>some (t=="str")
 |.tup _=>some (t=="tuple")
 |.fz _=>some (t=="list")
 |.ref n=>match m[n]? with
  |some (.lst _)=>some (t=="list")
  |_=>none
 |.obj _ _ _=>none
def wZ:W->Option (List Int)
 |.tup xs=>iB xs
 |_=>none
def gb:List W->Option (List Str)
 | []=>some []
 |.str b::r=>(gb r).map (b::·)
 |_::_=>none
def ins(x:Int):List Int->List Int
 | []=>[x]
 |y::r=>if y<x then y::ins x r else x::y::r
def DW:List Int->List Int
 | []=>[]
 |x::r=>ins x (DW r)
def Lj(ys:List W):Option (List W):=match iB ys with
 |some ns=>if ns.length<64 then some ((DW ns).map .int) else none
 |none=>none
def bA(b:B)(xs:List W)(m:Mem):R W:=match b with
 |.len=>match xs with
  | [x]=>match x with
   |.str z=>if z.length<=lim then .ok (.int z.length) m else .no
   |x=>match aM m x with
    |some a=>.ok (.int a.length) m
    |none=>.no
  |_=>.no
 |.abs=>match xs with
  | [.int i]=>.ok (.int (if i<0 then -i else i)) m
  |_=>.no
 |.max=>match xs with
  | [.int i,.int j]=>.ok (.int (if j>i then j else i)) m
  |_=>.no
 |.min=>match xs with
  | [.int i,.int j]=>.ok (.int (if j<i then j else i)) m
  |_=>.no
 |.divmod=>match xs with
  | [.int i,.int j]=>if 0<j/\j<1073741824 then .ok (.tup [.int (i / j),.int (i%j)]) m else .no
  |_=>.no
 |.all=>match xs with
  | [x]=>match getL m x with
   |some a=>match bools a with
    |some bs=>.ok (.bl (bs.all id)) m
    |none=>.no
   |none=>.no
  |_=>.no
 |.any=>match xs with
  | [x]=>match getL m x with
   |some a=>match bools a with
    |some bs=>.ok (.bl (bs.any id)) m
    |none=>.no
   |none=>.no
  |_=>.no
 |.list=>match xs with
  | [x]=>match aM m x with
   |some a=>new (.lst a) m
   |none=>.no
  |_=>.no
 |.tuple=>match xs with
  | [x]=>match aM m x with
   |some a=>.ok (.tup a) m
   |none=>.no
  |_=>.no
 |.int=>match xs with
  | [.int i]=>.ok (.int i) m
  | [.bl b]=>.ok (.int (if b then 1 else 0)) m
  |_=>.no
 |_=>.no
def DX(xs:List W)(m:Mem):R W:=match iB xs with
 |some ns=>if ns.length<=4000 then .ok (.int (L2.unlike ns)) m else .no
 |none=>.no
def LZ(f:List W->List (List Int)->R W)(x:W)(m:Mem):R W:=match getL m x with
 |none=>.no
 |some a=>match dH wZ a with
  |none=>.no
  |some b=>f a b
def w4(ks:List Str)(x:W)(m:Mem):R W:=match x with
 |.tup ws=>if ks.length=ws.length/\ks.Nodup/\ks.length<=15 then new (.dic (ks.zip ws)) m else .no
 |_=>.no
def DY(x:W)(m:Mem):R W:=match x with
 |.tup [a,b]=>match aM m a,aM m b with
  |some xs,some d=>match gb xs with
   |some c=>if c.length=d.length/\c.length<=1000/\c.Nodup then new (.dic (c.zip d)) m else .no
   |none=>.no
  |_,_=>.no
 |_=>.no
def kg(m:Mem):W->Option (Str×List (Str×W))
 |.ref n=>match m[n]? with
  |some (.ins c fs)=>some (c,fs)
  |_=>none
 |.obj c ks vs=>some (c,ks.zip vs)
 |_=>none
def Hv(c:Str)(x:W)(m:Mem):R W:=match kg m x with
 |some (d,_)=>if d=c then .ok (.bl true) m else .no
 |none=>.no
def mD(a:List (Str×Bool))(x:W)(m:Mem):R W:=match x with
 |.ref n=>match m[n]? with
  |some (.exc c _ _)=>match a.lookup c with
   |some b=>.ok (.bl b) m
   |none=>.no
  |_=>.no
 |_=>.no
def w5(f:Str)(a:List Str)(x:W)(m:Mem):R W:=match x with
 |.ref n=>match m[n]? with
  |some (.exc c g [w])=>if g=f/\a.contains c=true then .ok w m else .no
  |_=>.no
 |_=>.no
def dI(u:U)(x:W)(m:Mem):R W:=match u with
 |.isx tab=>mD tab x m
 |.xfl f cs=>w5 f cs x m
 |.DG=>match x with
  |.tup xs=>DX xs m
  |_=>.no
 |.mind=>.no
 |.kin a=>match x with
  |.str z=>.ok (.bl (a.lookup z).isSome) m
  |_=>.no
 |.knin a=>match x with
  |.str z=>.ok (.bl (!(a.lookup z).isSome)) m
  |_=>.no
 |.kget a=>match x with
  |.str z=>match a.lookup z with
   |some w=>.ok w m
   |none=>.no
  |_=>.no
 |.dict b=>w4 b x m
 |.isc c=>Hv c x m
 |.kv=>.no
 |.dcm=>.no
 |.dzip=>DY x m
 |.dlst=>.no
def iC(n:Nat)(ys xs:List W)(m:Mem):R W:=match xs with
 | [x]=>if ys.length<lim then .ok .non (m.set n (.lst (ys++[x]))) else .no
 |_=>.no
def Ag(n:Nat)(xs:List W)(m:Mem):R W:=match xs with
 | []=>.ok .non (m.set n (.lst []))
 |_=>.no
def uT(n:Nat)(ys xs:List W)(m:Mem):R W:=match xs with
 | []=>.ok .non (m.set n (.lst ys.reverse))
 |_=>.no
def Hw(n:Nat)(ys xs:List W)(m:Mem):R W:=match xs with
 | []=>match ys[ys.length - 1]? with
  |some y=>.ok y (m.set n (.lst ys.dropLast))
  |none=>.no
 | [.int i]=>if -(2^63)<=i/\i<2^63 then match seqIndex? i ys.length with
  |some k=>match ys[k]? with
   |some y=>.ok y (m.set n (.lst (ys.eraseIdx k)))
   |none=>.no
  |none=>.no else .no
 |_=>.no
def w9(n:Nat)(ys xs:List W)(m:Mem):R W:=match xs with
 | [.ref b]=>match m[b]? with
  |some (.lst zs)=>if ys.length+zs.length<=lim then .ok .non (m.set n (.lst (ys++zs))) else .no
  |_=>.no
 |_=>.no
def xh(n:Nat)(ys xs:List W)(m:Mem):R W:=match xs with
 | [.int i,y]=>if 0<=i/\i<=ys.length/\ys.length<lim then .ok .non (m.set n (.lst (ys.take i.toNat++[y]++ys.drop i.toNat))) else .no
 |_=>.no
def Ah(ys xs:List W)(m:Mem):R W:=match xs with
 | [x]=>match x with
  |.str z=>match gb ys with
   |some ss=>.ok (.int (ss.count z)) m
   |none=>.no
  |_=>.no
 |_=>.no
def ki(n:Nat)(ys:List W)(name:String)(xs:List W)(m:Mem):R W:=
 if name="append" then iC n ys xs m
 else if name="clear" then Ag n xs m
 else if name="reverse" then uT n ys xs m
 else if name="pop" then Hw n ys xs m
 else if name="extend" then w9 n ys xs m
 else if name="insert" then xh n ys xs m
 else if name="count" then Ah ys xs m
 else .no
def kj(z:Str)(xs:List W)(m:Mem):R W:=match xs with
 | [x]=>match getL m x with
  |some a=>match gb a with
   |some ss=>if (ss.map (·.length)).sum+ss.length*z.length<=16777216 then .ok (.str (Txt.join z ss)) m else .no
   |none=>.no
  |none=>.no
 |_=>.no
def gq(z:Str)(xs:List W)(m:Mem):R W:=match xs with
 | [.str y]=>match (Builtin.Str.occurrences z y 0 z.length 1).head? with
  |some p=>.ok (.int (p:Nat)) m
  |none=>.no
 |_=>.no
def DZ(z:Str)(xs:List W)(m:Mem):R W:=match xs with
 | [.str y]=>.ok (.bl (Txt.endswith z y)) m
 |_=>.no
def Ai(z:Str)(xs:List W)(m:Mem):R W:=match xs with
 | [.str y]=>if y.length=1/\z.length<=lim then new (.lst ((Txt.split z y).map .str)) m else .no
 |_=>.no
def mE(z:Str)(name:String)(xs:List W)(m:Mem):R W:=
 if name="join" then kj z xs m
 else if name="index" then gq z xs m
 else if name="endswith" then DZ z xs m
 else if name="split" then Ai z xs m
 else .no
def xj(n:Nat)(ks:List L2.Key)(xs:List W)(m:Mem):R W:=match xs with
 | [x]=>match wY x with
  |some k=>if ks.length<4000 then .ok .non (m.set n (.set (if j9 k ks then ks else ks++[k]))) else .no
  |none=>.no
 |_=>.no
def gH(n:Nat)(ks:List L2.Key)(name:String)(xs:List W)(m:Mem):R W:=
 if name="add" then xj n ks xs m
 else .no
def cy(o:W)(name:String)(xs:List W)(m:Mem):R W:=match o with
 |.ref n=>match m[n]? with
  |some (.lst a)=>ki n a name xs m
  |some (.set b)=>gH n b name xs m
  |_=>.no
 |.str z=>mE z name xs m
 |_=>.no
inductive Kd where
 |lst | str | set | no
 deriving DecidableEq
def kdOf(m:Mem):W->Kd
 |.ref n=>match m[n]? with
  |some (.lst _)=>.lst
  |some (.set _)=>.set
  |_=>.no
 |.str _=>.str
 |_=>.no
def oJ(name:String):Kd:=if name="join"\/name="index"\/name="endswith"\/name="split" then .str else if name="add" then .set else .lst
mutual
def jB(g:Nat->Option W):W->Option W
 |.tup xs=>(d9 g xs).map .tup
 |.fz xs=>(d9 g xs).map .fz
 |.obj c ks vs=>(d9 g vs).map (.obj c ks)
 |.ref n=>g n
 |.non=>some .non
 |.bl b=>some (.bl b)
 |.int i=>some (.int i)
 |.str x=>some (.str x)
def d9(g:Nat->Option W):List W->Option (List W)
 | []=>some []
 |x::r=>match jB g x with
  |none=>none
  |some y=>match d9 g r with
   |none=>none
   |some ys=>some (y::ys)
end
def jK(m:Mem)(k:Nat):Nat->Nat->Option W
 |0,a=>if a<k then some (.ref a) else none
 |n+1,a=>if a<k then some (.ref a) else match m[a]? with
  |some (.lst xs)=>(d9 (jK m k n) xs).map .fz
  |some (.ins c fs)=>(d9 (jK m k n) (fs.map (·.2))).map (.obj c (fs.map (·.1)))
  |_=>none
mutual
def gQ(k:Nat):W->Bool
 |.tup xs=>bF k xs
 |.fz xs=>bF k xs
 |.obj _ _ vs=>bF k vs
 |.ref n=>decide (n<k)
 |.non=>true
 |.bl _=>true
 |.int _=>true
 |.str _=>true
def bF(k:Nat):List W->Bool
 | []=>true
 |x::r=>gQ k x&&bF k r
end
def gj(k:Nat):O->Bool
 |.lst xs=>bF k xs
 |.ins _ fs=>bF k (fs.map (·.2))
 |.set _=>true
 |.dic fs=>bF k (fs.map (·.2))
 |.exc _ _ ws=>bF k ws
def uU(k:Nat)(m:Mem):Bool:=m.all (gj k)
def xm(m:Mem)(r:R W):R W:=match r with
 |.no=>.no
 |.ok w a=>if m.length<=a.length/\uU m.length (a.take m.length)=true then match jB (jK a m.length 8) w with
  |some b=>.ok b (a.take m.length)
  |none=>.no else .no
def fB:List Nat->Loc->Loc
 | [],Z=>Z
 |j::r,Z=>fB r (Z.set j none)
mutual
def aA:T->W->Loc->Option Loc
 |.var i,w,Z=>some (Z.set i (some w))
 |.tup ts,w,Z=>match w with
  |.tup xs=>bR ts xs Z
  |.fz xs=>bR ts xs Z
  |_=>none
def bR:Ts->List W->Loc->Option Loc
 |.nil,xs,Z=>match xs with
  | []=>some Z
  |_::_=>none
 |.cons t ts,xs,Z=>match xs with
  | []=>none
  |x::xs=>match aA t x Z with
   |some Z=>bR ts xs Z
   |none=>none
end
inductive Src where
 |lst (n:Nat) | tup (xs:List W) | rng (lo:Int) (k:Nat) | enm (s:Src) | zip (ss:List Src)
inductive Nx where
 |bad | fin | it (w:W)
inductive L0 where
 |bad | fin | its (ws:List W)
mutual
def Src.get:Src->Mem->Nat->Nx
 |.lst n,m,i=>match getL m (.ref n) with
  |some xs=>match xs[i]? with
   |some w=>.it w
   |none=>.fin
  |none=>.bad
 |.tup xs,_,i=>match xs[i]? with
  |some w=>.it w
  |none=>.fin
 |.rng lo k,_,i=>if i<k then .it (.int (lo+i)) else .fin
 |.enm s,m,i=>match s.get m i with
  |.it w=>.it (.tup [.int i,w])
  |.fin=>.fin
  |.bad=>.bad
 |.zip ss,m,i=>match Src.Hx ss m i with
  |.its ws=>.it (.tup ws)
  |.fin=>.fin
  |.bad=>.bad
def Src.Hx:List Src->Mem->Nat->L0
 | [],_,_=>.its []
 |s::ss,m,i=>match s.get m i,Src.Hx ss m i with
  |.bad,_=>.bad
  |_,.bad=>.bad
  |.it w,.its ws=>.its (w::ws)
  |_,_=>.fin
end
mutual
def Src.len:Src->Mem->Nat
 |.lst n,m=>match getL m (.ref n) with
  |some xs=>xs.length
  |none=>0
 |.tup xs,_=>xs.length
 |.rng _ k,_=>k
 |.enm s,m=>s.len m
 |.zip ss,m=>Src.lens ss m
def Src.lens:List Src->Mem->Nat
 | [],_=>0
 |s::ss,m=>max (s.len m) (Src.lens ss m)
end
def srcOf(m:Mem):W->Option Src
 |.tup xs=>some (.tup xs)
 |.fz xs=>some (.tup xs)
 |.ref n=>match getL m (.ref n) with
  |some _=>some (.lst n)
  |none=>none
 |_=>none
def rF(m:Mem):List W->Option (List Src)
 | []=>some []
 |w::ws=>match srcOf m w with
  |none=>none
  |some s=>match rF m ws with
   |none=>none
   |some ss=>some (s::ss)
def signs(z:Str):List W:=z.cps.toList.map λ c=>W.str ⟨#[c]⟩
def xq(m:Mem):W->Option Src
 |.str z=>if L2.asc z then some (.tup (signs z)) else none
 |w=>srcOf m w
inductive F where
 |nx (Z:Loc) | rt (w:W) | bk (Z:Loc) | ct (Z:Loc)
 |rz (c:Str) (fw:Option (Str×W)) (Z:Loc)
set_option genInjectivity false in
structure Cs where
 flds:List (Str×Str)
 mths:List ((Str×Str)×Nat)
 ini:List (Str×Nat)
 dic:List (Str×List (Str×W)):=[]
 isc:List Str:=[]
set_option genInjectivity false in
structure Cx where
 call:Nat->List W->Mem->R W
 fuel:Nat
 cs:Cs
 flow:Nat->List W->Mem->R F
def pH(a:Cs)(x:W)(f:Str)(m:Mem):R W:=match kg m x with
 |some (c,fs)=>if a.flds.contains (c,f) then match fs.lookup f with
  |some w=>.ok w m
  |none=>.no else .no
 |none=>.no
def pI(a:Cs)(x:W)(f:Str)(m:Mem):Option Nat:=match kg m x with
 |some (c,fs)=>if (fs.lookup f).isNone then a.mths.lookup (c,f) else none
 |none=>none
def d7(f:Str)(v:W):List (Str×W)->List (Str×W)
 | []=>[(f,v)]
 |(g,x)::r=>if g=f then (g,v)::r else (g,x)::d7 f v r
def mF(a:Cs)(x:W)(f:Str)(v:W)(m:Mem):R Unit:=match x with
 |.ref n=>match m[n]? with
  |some (.ins c fs)=>if a.flds.contains (c,f)/\fs.length<1000 then .ok () (m.set n (.ins c (d7 f v fs))) else .no
  |_=>.no
 |_=>.no
def nR(C:Cx)(c:Str)(ws:List W)(m:Mem):R W:=match C.cs.ini.lookup c with
 |some i=>(C.call i (.ref m.length::ws) (m++[.ins c []])).bind λ w a=>match w with
  |.non=>.ok (.ref m.length) a
  |_=>.no
 |none=>.no
def dR(get:Mem->Nat->Nx)(t:T)(body:Loc->Mem->R F):Nat->Nat->Loc->Mem->R F
 |k,i,Z,m=>match get m i with
  |.bad=>.no
  |.fin=>.ok (.nx Z) m
  |.it x=>match k with
   |0=>.no
   |k+1=>match aA t x Z with
    |none=>.no
    |some Z=>(body Z m).bind λ f m=>match f with
     |.nx Z=>dR get t body k (i+1) Z m
     |.ct Z=>dR get t body k (i+1) Z m
     |.bk Z=>.ok (.nx Z) m
     |.rt w=>.ok (.rt w) m
     |.rz c w Z=>.ok (.rz c w Z) m
def nS(c:Loc->Mem->R Bool)(body:Loc->Mem->R F):Nat->Loc->Mem->R F
 |0,_,_=>.no
 |k+1,Z,m=>(c Z m).bind λ b m=>if b then (body Z m).bind λ f m=>match f with
   |.nx Z=>nS c body k Z m
   |.ct Z=>nS c body k Z m
   |.bk Z=>.ok (.nx Z) m
   |.rt w=>.ok (.rt w) m
   |.rz c w Z=>.ok (.rz c w Z) m
  else .ok (.nx Z) m
def bS(get:Mem->Nat->Nx)(t:T)(test:Loc->Mem->R Bool)(body:Loc->Mem->List W->R (List W×Loc)):Nat->Nat->Loc->Mem->List W->R (List W×Loc)
 |k,i,Z,m,acc=>match get m i with
  |.bad=>.no
  |.fin=>.ok (acc,Z) m
  |.it x=>match k with
   |0=>.no
   |k+1=>match aA t x Z with
    |none=>.no
    |some Z=>(test Z m).bind λ b m=>if b then (body Z m acc).bind λ p m=>bS get t test body k (i+1) p.2 m p.1 else bS get t test body k (i+1) Z m acc
def mG(x:W)(m:Mem):R Src:=match xq m x with
 |some s=>.ok s m
 |none=>.no
structure Ev where
 v:R W
 t:R Bool
 i:R Src
def vx(v:R W):Ev:=⟨v,v.bind λ w m=>truthy m w,v.bind mG⟩
def tx(v:R W)(t:R Bool):Ev:=⟨v,t,v.bind mG⟩
def ix(i:R Src):Ev:=⟨.no,.no,i⟩
mutual
def dS(C:Cx):E->Loc->Mem->Ev
 |.var i,Z,m=>vx (match Z[i]? with
  |some (some w)=>.ok w m
  |_=>.no)
 |.cst w,_,m=>vx (.ok w m)
 |.bin op a b,Z,m=>vx ((dS C a Z m).v.bind λ x m=>(dS C b Z m).v.bind λ y m=>binop op x y m)
 |.neg a,Z,m=>vx ((dS C a Z m).v.bind λ x m=>match x with
  |.int i=>.ok (.int (-i)) m
  |_=>.no)
 |.not a,Z,m=>tx ((dS C a Z m).v.bind λ x m=>match x with
  |.bl b=>.ok (.bl (!b)) m
  |_=>.no) ((dS C a Z m).t.bind λ c m=>.ok (!c) m)
 |.and a b,Z,m=>tx ((dS C a Z m).v.bind λ x m=>match x with
  |.bl c=>if c then (dS C b Z m).v else .ok (.bl false) m
  |_=>.no) ((dS C a Z m).t.bind λ c m=>if c then (dS C b Z m).t else .ok false m)
 |.or a b,Z,m=>tx ((dS C a Z m).v.bind λ x m=>(truthy m x).bind λ c m=>if c then .ok x m else (dS C b Z m).v) ((dS C a Z m).t.bind λ c m=>if c then .ok true m else (dS C b Z m).t)
 |.cmp op a b,Z,m=>tx ((dS C a Z m).v.bind λ x m=>(dS C b Z m).v.bind λ y m=>(aD op x y m).bind λ c m=>.ok (.bl c) m) ((dS C a Z m).v.bind λ x m=>(dS C b Z m).v.bind λ y m=>aD op x y m)
 |.chain d o2 a b c,Z,m=>tx ((dS C a Z m).v.bind λ x m=>(dS C b Z m).v.bind λ y m=>(aD d x y m).bind λ k m=>
   if k then (dS C c Z m).v.bind λ z m=>(aD o2 y z m).bind λ k m=>.ok (.bl k) m else .ok (.bl false) m) ((dS C a Z m).v.bind λ x m=>(dS C b Z m).v.bind λ y m=>(aD d x y m).bind λ k m=>
   if k then (dS C c Z m).v.bind λ z m=>aD o2 y z m else .ok false m)
 |.ife t a b,Z,m=>tx ((dS C t Z m).t.bind λ c m=>if c then (dS C a Z m).v else (dS C b Z m).v) ((dS C t Z m).t.bind λ c m=>if c then (dS C a Z m).t else (dS C b Z m).t)
 |.tup es,Z,m=>vx ((aR C es Z m).bind λ ws m=>if ws.length<=lim then .ok (.tup ws) m else .no)
 |.lst es,Z,m=>vx ((aR C es Z m).bind λ ws m=>if ws.length<=lim then new (.lst ws) m else .no)
 |.idx a b,Z,m=>vx ((dS C a Z m).v.bind λ x m=>(dS C b Z m).v.bind λ y m=>bh x y m)
 |.slc a lo hi,Z,m=>vx ((dS C a Z m).v.bind λ x m=>(xr C lo Z m).bind λ l m=>(xr C hi Z m).bind λ u m=>ju x l u m)
 |.call f es,Z,m=>vx ((aR C es Z m).bind λ ws m=>C.call f ws m)
 |.blt b es,Z,m=>vx ((aR C es Z m).bind λ ws m=>bA b ws m)
 |.isI a t,Z,m=>vx ((dS C a Z m).v.bind λ x m=>match Hu m t x with
  |some b=>.ok (.bl b) m
  |none=>.no)
 |.meth o name es,Z,m=>vx ((dS C o Z m).v.bind λ x m=>if kdOf m x=oJ name then (aR C es Z m).bind λ ws m=>cy x name ws m else .no)
 |.comp g,Z,m=>vx ((gr C g Z m []).bind λ p m=>new (.lst p.1) m)
 |.lrng a,Z,m=>vx ((dS C a Z m).v.bind λ x m=>match x with
  |.int j=>if 0<=j/\j<=1000000 then new (.lst ((List.range j.toNat).map λ i=>W.int (i:Nat))) m else .no
  |_=>.no)
 |.frz a,Z,m=>vx (xm m (dS C a Z m).v)
 |.fld a f,Z,m=>vx ((dS C a Z m).v.bind λ x m=>pH C.cs x f m)
 |.make c es,Z,m=>vx ((aR C es Z m).bind λ ws m=>nR C c ws m)
 |.mth o f es,Z,m=>vx ((dS C o Z m).v.bind λ x m=>match pI C.cs x f m with
  |some i=>(aR C es Z m).bind λ ws m=>C.call i (x::ws) m
  |none=>.no)
 |.set0,_,m=>vx (new (.set []) m)
 |.fus u a,Z,m=>vx ((dS C a Z m).v.bind λ x m=>dI u x m)
 |.rng a,Z,m=>ix ((dS C a Z m).v.bind λ x m=>match x with
  |.int j=>if -(2^62)<=j/\j<2^62 then .ok (.rng 0 j.toNat) m else .no
  |_=>.no)
 |.rng2 a b,Z,m=>ix ((dS C a Z m).v.bind λ x m=>(dS C b Z m).v.bind λ y m=>match x,y with
  |.int i,.int j=>if -(2^62)<=i/\i<2^62/\-(2^62)<=j/\j<2^62 then .ok (.rng i (j - i).toNat) m else .no
  |_,_=>.no)
 |.enm a,Z,m=>ix ((dS C a Z m).v.bind λ x m=>match srcOf m x with
  |some s=>.ok (.enm s) m
  |none=>.no)
 |.zip es,Z,m=>ix ((aR C es Z m).bind λ xs m=>match rF m xs with
  |some ss=>.ok (.zip ss) m
  |none=>.no)
def aR(C:Cx):Es->Loc->Mem->R (List W)
 |.nil,_,m=>.ok [] m
 |.cons e es,Z,m=>(dS C e Z m).v.bind λ w m=>(aR C es Z m).bind λ ws m=>.ok (w::ws) m
def xr(C:Cx):Oe->Loc->Mem->R (Option Int)
 |.none,_,m=>.ok none m
 |.some e,Z,m=>(dS C e Z m).v.bind λ w m=>match w with
  |.int i=>.ok (some i) m
  |_=>.no
def gr(C:Cx):G->Loc->Mem->List W->R (List W×Loc)
 |.elt e,Z,m,a=>(dS C e Z m).v.bind λ w m=>if a.length<lim then .ok (a++[w],Z) m else .no
 |.gen t js it ifs rest,Z,m,a=>(dS C it Z m).i.bind λ s m=>bS s.get t (fun Z m=>aZ C ifs Z m) (fun Z m a=>gr C rest Z m a) (s.len m) 0 (fB js Z) m a
def aZ(C:Cx):Es->Loc->Mem->R Bool
 |.nil,_,m=>.ok true m
 |.cons e es,Z,m=>(dS C e Z m).t.bind λ b m=>if b then aZ C es Z m else .ok false m
end
def ao(C:Cx)(e:E)(Z:Loc)(m:Mem):R W:=(dS C e Z m).v
def bB(C:Cx)(e:E)(Z:Loc)(m:Mem):R Bool:=(dS C e Z m).t
def cN(C:Cx)(e:E)(Z:Loc)(m:Mem):R Src:=(dS C e Z m).i
section
variable{C:Cx}{Z:Loc}{m:Mem}
theorem bg(i:Nat):ao C (.var i) Z m=(match Z[i]? with
   |some (some w)=>.ok w m
   |_=>.no):=rfl
theorem fF(i:Nat):bB C (.var i) Z m=(ao C (.var i) Z m).bind λ w m=>D.truthy m w:=rfl
theorem bG(w:W):ao C (.cst w) Z m=(.ok w m):=rfl
theorem fG(w:W):bB C (.cst w) Z m=(ao C (.cst w) Z m).bind λ w m=>D.truthy m w:=rfl
theorem dW(c:Operator)(a b:E):ao C (.bin c a b) Z m=((ao C a Z m).bind λ x m=>(ao C b Z m).bind λ y m=>binop c x y m):=rfl
theorem fH(c:Operator)(a b:E):bB C (.bin c a b) Z m=(ao C (.bin c a b) Z m).bind λ w m=>D.truthy m w:=rfl
theorem gX(a:E):ao C (.neg a) Z m=((ao C a Z m).bind λ x m=>match x with
   |.int i=>.ok (.int (-i)) m
   |_=>.no):=rfl
theorem fJ(a:E):bB C (.neg a) Z m=(ao C (.neg a) Z m).bind λ w m=>D.truthy m w:=rfl
theorem ef(a:E):ao C (.not a) Z m=((ao C a Z m).bind λ x m=>match x with
   |.bl b=>.ok (.bl (!b)) m
   |_=>.no):=rfl
theorem dX(a b:E):ao C (.and a b) Z m=((ao C a Z m).bind λ x m=>match x with
   |.bl c=>if c then ao C b Z m else .ok (.bl false) m
   |_=>.no):=rfl
theorem gR(a b:E):ao C (.or a b) Z m=((ao C a Z m).bind λ x m=>(D.truthy m x).bind λ c m=>if c then .ok x m else ao C b Z m):=rfl
theorem dJ(d:CmpOp)(a b:E):ao C (.cmp d a b) Z m=((ao C a Z m).bind λ x m=>(ao C b Z m).bind λ y m=>(aD d x y m).bind λ c m=>.ok (.bl c) m):=rfl
theorem bC(d o2:CmpOp)(a b c:E):ao C (.chain d o2 a b c) Z m=((ao C a Z m).bind λ x m=>(ao C b Z m).bind λ y m=>(aD d x y m).bind λ k m=>
    if k then (ao C c Z m).bind λ z m=>(aD o2 y z m).bind λ k m=>.ok (.bl k) m else .ok (.bl false) m):=rfl
theorem dg(t a b:E):ao C (.ife t a b) Z m=((bB C t Z m).bind λ c m=>if c then ao C a Z m else ao C b Z m):=rfl
theorem dY(es:Es):ao C (.tup es) Z m=((aR C es Z m).bind λ ws m=>if ws.length<=lim then .ok (.tup ws) m else .no):=rfl
theorem fK(es:Es):bB C (.tup es) Z m=(ao C (.tup es) Z m).bind λ w m=>D.truthy m w:=rfl
theorem dM(es:Es):ao C (.lst es) Z m=((aR C es Z m).bind λ ws m=>if ws.length<=lim then new (.lst ws) m else .no):=rfl
theorem fL(es:Es):bB C (.lst es) Z m=(ao C (.lst es) Z m).bind λ w m=>D.truthy m w:=rfl
theorem dN(a b:E):ao C (.idx a b) Z m=((ao C a Z m).bind λ x m=>(ao C b Z m).bind λ y m=>bh x y m):=rfl
theorem fM(a b:E):bB C (.idx a b) Z m=(ao C (.idx a b) Z m).bind λ w m=>D.truthy m w:=rfl
theorem er(a:E)(lo b:Oe):ao C (.slc a lo b) Z m=((ao C a Z m).bind λ x m=>(xr C lo Z m).bind λ l m=>(xr C b Z m).bind λ u m=>ju x l u m):=rfl
theorem fN(a:E)(lo b:Oe):bB C (.slc a lo b) Z m=(ao C (.slc a lo b) Z m).bind λ w m=>D.truthy m w:=rfl
theorem fh(f:Nat)(es:Es):ao C (.call f es) Z m=((aR C es Z m).bind λ ws m=>C.call f ws m):=rfl
theorem cP(f:Nat)(es:Es):bB C (.call f es) Z m=(ao C (.call f es) Z m).bind λ w m=>D.truthy m w:=rfl
theorem bT(b:B)(es:Es):ao C (.blt b es) Z m=((aR C es Z m).bind λ ws m=>bA b ws m):=rfl
theorem cQ(b:B)(es:Es):bB C (.blt b es) Z m=(ao C (.blt b es) Z m).bind λ w m=>D.truthy m w:=rfl
theorem eU(a:E)(t:String):ao C (.isI a t) Z m=((ao C a Z m).bind λ x m=>match Hu m t x with
   |some b=>.ok (.bl b) m
   |none=>.no):=rfl
theorem fO(a:E)(t:String):bB C (.isI a t) Z m=(ao C (.isI a t) Z m).bind λ w m=>D.truthy m w:=rfl
theorem bN(o:E)(name:String)(es:Es):ao C (.meth o name es) Z m=((ao C o Z m).bind λ x m=>if kdOf m x=oJ name then (aR C es Z m).bind λ ws m=>cy x name ws m else .no):=rfl
theorem dj(o:E)(name:String)(es:Es):bB C (.meth o name es) Z m=(ao C (.meth o name es) Z m).bind λ w m=>D.truthy m w:=rfl
theorem dm(g:G):bB C (.comp g) Z m=(ao C (.comp g) Z m).bind λ w m=>D.truthy m w:=rfl
theorem cR(a:E):ao C (.lrng a) Z m=((ao C a Z m).bind λ x m=>match x with
   |.int j=>if 0<=j/\j<=1000000 then new (.lst ((List.range j.toNat).map λ i=>W.int (i:Nat))) m else .no
   |_=>.no):=rfl
theorem dw(a:E):bB C (.lrng a) Z m=(ao C (.lrng a) Z m).bind λ w m=>D.truthy m w:=rfl
theorem cH(u:U)(a:E):ao C (.fus u a) Z m=((ao C a Z m).bind λ x m=>dI u x m):=rfl
theorem eV(u:U)(a:E):bB C (.fus u a) Z m=(ao C (.fus u a) Z m).bind λ w m=>D.truthy m w:=rfl
theorem fP(a:E):bB C (.frz a) Z m=(ao C (.frz a) Z m).bind λ w m=>D.truthy m w:=rfl
theorem iD(a:E)(f:Str):ao C (.fld a f) Z m=((ao C a Z m).bind λ x m=>pH C.cs x f m):=rfl
theorem fQ(a:E)(f:Str):bB C (.fld a f) Z m=(ao C (.fld a f) Z m).bind λ w m=>D.truthy m w:=rfl
theorem bZ(c:Str)(es:Es):ao C (.make c es) Z m=((aR C es Z m).bind λ ws m=>nR C c ws m):=rfl
theorem dz(c:Str)(es:Es):bB C (.make c es) Z m=(ao C (.make c es) Z m).bind λ w m=>D.truthy m w:=rfl
theorem iE(o:E)(f:Str)(es:Es):ao C (.mth o f es) Z m=((ao C o Z m).bind λ x m=>match pI C.cs x f m with
   |some i=>(aR C es Z m).bind λ ws m=>C.call i (x::ws) m
   |none=>.no):=rfl
theorem fR(o:E)(f:Str)(es:Es):bB C (.mth o f es) Z m=(ao C (.mth o f es) Z m).bind λ w m=>D.truthy m w:=rfl
theorem cz :ao C (.set0) Z m=(new (.set []) m):=rfl
theorem dB :bB C (.set0) Z m=(ao C (.set0) Z m).bind λ w m=>D.truthy m w:=rfl
theorem eW(a b:E):bB C (.and a b) Z m=((bB C a Z m).bind λ c m=>if c then bB C b Z m else .ok false m):=rfl
theorem fY(a b:E):bB C (.or a b) Z m=((bB C a Z m).bind λ c m=>if c then .ok true m else bB C b Z m):=rfl
theorem dZ(a:E):bB C (.not a) Z m=((bB C a Z m).bind λ c m=>.ok (!c) m):=rfl
theorem bH(c:CmpOp)(a b:E):bB C (.cmp c a b) Z m=((ao C a Z m).bind λ x m=>(ao C b Z m).bind λ y m=>aD c x y m):=rfl
theorem bP(d o2:CmpOp)(a b c:E):bB C (.chain d o2 a b c) Z m=((ao C a Z m).bind λ x m=>(ao C b Z m).bind λ y m=>(aD d x y m).bind λ k m=>
   if k then (ao C c Z m).bind λ z m=>aD o2 y z m else .ok false m):=rfl
theorem eX(t a b:E):bB C (.ife t a b) Z m=((bB C t Z m).bind λ c m=>if c then bB C a Z m else bB C b Z m):=rfl
theorem aX:aR C .nil Z m=.ok [] m:=rfl
theorem aH(e:E)(es:Es):aR C (.cons e es) Z m=((ao C e Z m).bind λ w m=>(aR C es Z m).bind λ ws m=>.ok (w::ws) m):=rfl
theorem g8:xr C .none Z m=.ok none m:=rfl
theorem g9(e:E):xr C (.some e) Z m=((ao C e Z m).bind λ w m=>match w with
   |.int i=>.ok (some i) m
   |_=>.no):=rfl
theorem aT{J:Type}{a:α}{m:Mem}{f:α->Mem->R J}:(R.ok a m).bind f=f a m:=Eq.trans rfl rfl
theorem jv(i:Nat):cN C (.var i) Z m=(ao C (.var i) Z m).bind mG:=rfl
theorem jw(a b:E):cN C (.idx a b) Z m=(ao C (.idx a b) Z m).bind mG:=rfl
theorem ko(f:Nat)(es:Es):cN C (.call f es) Z m=(ao C (.call f es) Z m).bind mG:=rfl
theorem kq(a:E):cN C (.frz a) Z m=(ao C (.frz a) Z m).bind mG:=rfl
theorem pJ(a:E)(f:Str):cN C (.fld a f) Z m=(ao C (.fld a f) Z m).bind mG:=rfl
theorem pK(o:E)(f:Str)(es:Es):cN C (.mth o f es) Z m=(ao C (.mth o f es) Z m).bind mG:=rfl
theorem pL(a:E)(lo b:Oe):cN C (.slc a lo b) Z m=(ao C (.slc a lo b) Z m).bind mG:=rfl
theorem pM(w:W):cN C (.cst w) Z m=(ao C (.cst w) Z m).bind mG:=rfl
theorem pN(es:Es):cN C (.tup es) Z m=(ao C (.tup es) Z m).bind mG:=rfl
theorem pO(es:Es):cN C (.lst es) Z m=(ao C (.lst es) Z m).bind mG:=rfl
theorem pP(c:Operator)(a b:E):cN C (.bin c a b) Z m=(ao C (.bin c a b) Z m).bind mG:=rfl
theorem fj(g:G):ao C (.comp g) Z m=((gr C g Z m []).bind λ p m=>new (.lst p.1) m):=rfl
theorem gu(a:E):ao C (.frz a) Z m=xm m (ao C a Z m):=rfl
theorem kr(a:E):cN C (.rng a) Z m=(ao C a Z m).bind λ x m=>match x with
  |.int j=>if -(2^62)<=j/\j<2^62 then .ok (.rng 0 j.toNat) m else .no
  |_=>.no:=rfl
theorem ia(a b:E):cN C (.rng2 a b) Z m=(ao C a Z m).bind λ x m=>(ao C b Z m).bind λ y m=>match x,y with
  |.int i,.int j=>if -(2^62)<=i/\i<2^62/\-(2^62)<=j/\j<2^62 then .ok (.rng i (j - i).toNat) m else .no
  |_,_=>.no:=rfl
theorem iF(a:E):cN C (.enm a) Z m=(ao C a Z m).bind λ x m=>match srcOf m x with
  |some s=>.ok (.enm s) m
  |none=>.no:=rfl
theorem pQ(es:Es):cN C (.zip es) Z m=(aR C es Z m).bind λ xs m=>match rF m xs with
  |some ss=>.ok (.zip ss) m
  |none=>.no:=rfl
theorem Hy{a:List W}(e:E):gr C (.elt e) Z m a=(ao C e Z m).bind λ w m=>if a.length<lim then .ok (a++[w],Z) m else .no:=rfl
theorem Hz{a:List W}(t:T)(js:List Nat)(it:E)(ifs:Es)(b:G):gr C (.gen t js it ifs b) Z m a=(cN C it Z m).bind λ s m=>bS s.get t (fun Z m=>aZ C ifs Z m) (fun Z m a=>gr C b Z m a) (s.len m) 0 (fB js Z) m a:=rfl
theorem HA:aZ C .nil Z m=.ok true m:=rfl
theorem D0(e:E)(es:Es):aZ C (.cons e es) Z m=(bB C e Z m).bind λ b m=>if b then aZ C es Z m else .ok false m:=rfl
def eB:=And.intro (@aX) (@aH)
def BQ:=And.intro (@g8) (@g9)
def gv:=And.intro (@Hy) (@Hz)
def bX:=And.intro (@HA) (@D0)
end
mutual
def fC(C:Cx):A->W->Loc->Mem->R Loc
 |.pt t,w,Z,m=>match aA t w Z with
  |some Z=>.ok Z m
  |none=>.no
 |.sub o i,w,Z,m=>(ao C o Z m).bind λ x m=>(ao C i Z m).bind λ y m=>(kc x y w m).bind λ _ m=>.ok Z m
 |.tup l,w,Z,m=>match aM m w with
  |some xs=>eT C l xs Z m
  |none=>.no
def eT(C:Cx):As->List W->Loc->Mem->R Loc
 |.nil,xs,Z,m=>match xs with
  | []=>.ok Z m
  |_::_=>.no
 |.cons a l,xs,Z,m=>match xs with
  | []=>.no
  |x::xs=>(fC C a x Z m).bind fun Z m=>eT C l xs Z m
end
def BR(c:Operator)(x y:W)(m:Mem):R W:=match c with
 |.Add=>match x,y with
  |.int a,.int b=>.ok (.int (a+b)) m
  |_,_=>.no
 |.Sub=>match x,y with
  |.int a,.int b=>.ok (.int (a - b)) m
  |_,_=>.no
 |_=>.no
def outF:F->Mem->R W
 |.nx _,m=>.ok .non m
 |.rt w,m=>.ok w m
 |_,_=>.no
def mH(C:Cx)(h:BP)(Z:Loc)(w:W)(m:Mem):R F:=match h with
 |.drop=>.ok (.nx Z) m
 |.ret=>.ok (.rt w) m
 |.asg t=>(fC C t w Z m).bind fun Z m=>.ok (.nx Z) m
def zo(C:Cx)(h:BP)(Z:Loc)(a:Option W)(fl:F)(m:Mem):R F:=match fl with
 |.rz c b _=>.ok (.rz c b Z) m
 |fl=>(outF fl m).bind λ w m=>match a with
  |none=>mH C h Z w m
  |some x=>match w with
   |.non=>mH C h Z x m
   |_=>.no
def D3(c:Str):Option (Str×W)->O
 |none=>.exc c "" []
 |some (f,w)=>.exc c f [w]
def rG(i:Option Nat)(w:Option W)(Z:Loc):Loc:=match i with
 |none=>Z
 |some i=>Z.set i w
def gone(i:Option Nat)(fl:F)(m:Mem):R F:=match fl with
 |.nx Z=>.ok (.nx (rG i none Z)) m
 |.bk Z=>.ok (.bk (rG i none Z)) m
 |.ct Z=>.ok (.ct (rG i none Z)) m
 |.rt w=>.ok (.rt w) m
 |.rz _ _ _=>.no
mutual
def bf(C:Cx):S->Loc->Mem->R F
 |.asg t e,Z,m=>(ao C e Z m).bind λ w m=>(fC C t w Z m).bind fun Z m=>.ok (.nx Z) m
 |.aug i op e,Z,m=>match Z[i]? with
  |some (some x)=>(ao C e Z m).bind λ y m=>(BR op x y m).bind λ z m=>.ok (.nx (Z.set i (some z))) m
  |_=>.no
 |.expr e,Z,m=>(ao C e Z m).bind λ _ m=>.ok (.nx Z) m
 |.ret e,Z,m=>(ao C e Z m).bind λ w m=>.ok (.rt w) m
 |.retN,_,m=>.ok (.rt .non) m
 |.ife t a b,Z,m=>(bB C t Z m).bind λ c m=>if c then aC C a Z m else aC C b Z m
 |.for_ t it b,Z,m=>(cN C it Z m).bind λ s m=>dR s.get t (fun Z m=>aC C b Z m) (s.len m) 0 Z m
 |.while_ t b,Z,m=>nS (fun Z m=>bB C t Z m) (fun Z m=>aC C b Z m) C.fuel Z m
 |.pass,Z,m=>.ok (.nx Z) m
 |.brk,Z,m=>.ok (.bk Z) m
 |.cont,Z,m=>.ok (.ct Z) m
 |.never,_,_=>.no
 |.fas o f e,Z,m=>(ao C e Z m).bind λ w m=>(ao C o Z m).bind λ x m=>(mF C.cs x f w m).bind λ _ m=>.ok (.nx Z) m
 |.rais c f e,Z,m=>(ao C e Z m).bind λ w m=>.ok (.rz c (f.map λ g=>(g,w)) Z) m
 |.xc h none i es,Z,m=>(aR C es Z m).bind λ ws m=>(C.flow i ws m).bind λ fl m=>zo C h Z none fl m
 |.xc h (some c) i es,Z,m=>(aR C es Z m).bind λ ws m=>(C.flow i (.ref m.length::ws) (m++[.ins c []])).bind λ fl m1=>zo C h Z @(.ref m.length) fl m1
 |.tr b cs i h,Z,m=>(aC C b Z m).bind λ fl m=>match fl with
  |.rz c d Z1=>if cs.contains c then (aC C h (rG i @(.ref m.length) Z1) (m++[D3 c d])).bind λ fl m=>gone i fl m else .no
  |fl=>.ok fl m
def aC(C:Cx):Ss->Loc->Mem->R F
 |.nil,Z,m=>.ok (.nx Z) m
 |.cons s r,Z,m=>(bf C s Z m).bind λ f m=>match f with
  |.nx Z=>aC C r Z m
  |f=>.ok f m
end
section
variable{C:Cx}{Z:Loc}{m:Mem}
theorem gf(t:A)(e:E):bf C (.asg t e) Z m=(ao C e Z m).bind λ w m=>(fC C t w Z m).bind fun Z m=>.ok (.nx Z) m:=rfl
theorem sS(i:Nat)(a:Operator)(e:E):bf C (.aug i a e) Z m=match Z[i]? with
  |some (some x)=>(ao C e Z m).bind λ y m=>(BR a x y m).bind λ z m=>.ok (.nx (Z.set i (some z))) m
  |_=>.no:=rfl
theorem i8(e:E):bf C (.expr e) Z m=(ao C e Z m).bind λ _ m=>.ok (.nx Z) m:=rfl
theorem mJ(e:E):bf C (.ret e) Z m=(ao C e Z m).bind λ w m=>.ok (.rt w) m:=rfl
theorem ku:bf C .retN Z m=.ok (.rt .non) m:=rfl
theorem mK(t:E)(a b:Ss):bf C (.ife t a b) Z m=(bB C t Z m).bind λ c m=>if c then aC C a Z m else aC C b Z m:=rfl
theorem kB(t:T)(it:E)(b:Ss):bf C (.for_ t it b) Z m=(cN C it Z m).bind λ s m=>dR s.get t (fun Z m=>aC C b Z m) (s.len m) 0 Z m:=rfl
theorem kC(t:E)(b:Ss):bf C (.while_ t b) Z m=nS (fun Z m=>bB C t Z m) (fun Z m=>aC C b Z m) C.fuel Z m:=rfl
theorem kD:bf C .pass Z m=.ok (.nx Z) m:=rfl
theorem pR:bf C .brk Z m=.ok (.bk Z) m:=rfl
theorem kE:bf C .cont Z m=.ok (.ct Z) m:=rfl
theorem iG:bf C .never Z m=.no:=rfl
theorem mL(o:E)(f:Str)(e:E):bf C (.fas o f e) Z m=(ao C e Z m).bind λ w m=>(ao C o Z m).bind λ x m=>(mF C.cs x f w m).bind λ _ m=>.ok (.nx Z) m:=rfl
theorem rH(c:Str)(f:Option Str)(e:E):bf C (.rais c f e) Z m=(ao C e Z m).bind λ w m=>.ok (.rz c (f.map λ g=>(g,w)) Z) m:=rfl
theorem pS(h:BP)(i:Nat)(es:Es):bf C (.xc h none i es) Z m=(aR C es Z m).bind λ ws m=>(C.flow i ws m).bind λ fl m=>zo C h Z none fl m:=rfl
theorem pT(h:BP)(c:Str)(i:Nat)(es:Es):bf C (.xc h (some c) i es) Z m=(aR C es Z m).bind λ ws m=>(C.flow i (.ref m.length::ws) (m++[.ins c []])).bind λ fl m1=>zo C h Z @(.ref m.length) fl m1:=rfl
theorem Aj(b:Ss)(a:List Str)(i:Option Nat)(h:Ss):bf C (.tr b a i h) Z m=(aC C b Z m).bind λ fl m=>match fl with
  |.rz c d Z1=>if a.contains c then (aC C h (rG i @(.ref m.length) Z1) (m++[D3 c d])).bind λ fl m=>gone i fl m else .no
  |fl=>.ok fl m:=rfl
theorem kG:aC C .nil Z m=.ok (.nx Z) m:=rfl
theorem eY(s:S)(r:Ss):aC C (.cons s r) Z m=(bf C s Z m).bind λ f m=>match f with
  |.nx Z=>aC C r Z m
  |f=>.ok f m:=rfl
end
set_option genInjectivity false in
structure Fn where
 np:Nat
 nl:Nat
 body:Ss
def fk(n:Nat)(ws:List W):Loc:=ws.map some++List.replicate (n - ws.length) none
end D
end
section
namespace L2
open PySem PySem.Spec PyProof.Rows List
variable{C fa:Addr}{E' xe:Value->Shared->Prop}{H:Hp}{K:ae}{M:Model}{P:Program}{Q:Unit->Shared->Prop}{X:Cx}{bm:List Value}{e fl:Value}{h:Heap}{i:Option Value}{o:Obj}{aa:List (Addr×Obj)}{s:Shared}{tk:Tok}{Y:St}
def i9(h:Heap)(e:Addr)(cls:Value)(c:Option Addr)(tb:Value):Prop:=∃a b,h.get? e=some a/\a.cls=cls/\a.dict=c/\a.data=.fields b/\b[1]?=some tb
def zp(h:Heap)(T:Addr)(fl:Value):Prop:=∃b a,h.get? T=some b/\b.data=.fields a/\a[3]?=some fl
def Ak(h:Heap)(e:Addr)(tb:Value):Prop:=tb=.none\/∃T,tb=.ref T/\zp h T .none/\T≠e
section
variable{M:Model}{A:Around}{E:Value->Shared->Prop}{s:Shared}{base:Heap}{env:Env}{outer:List Env}{L e:Addr}{cls tb:Value}{od:Option Addr}
theorem i9.vQ{l:List Env}(f:s.heap.FunFrames base l)(g:i9 s.heap e cls od tb):e∉l.filterMap (·.frame):=λ d=>by
 let⟨_,o,b,a⟩:=f.mem d;let⟨m,c,k,_,_,j,_⟩:=g;rw[k] at b;cases b;exact a c j
theorem zp.vQ{l:List Env}{T:Addr}(f:s.heap.FunFrames base l)(g:zp s.heap T fl):T∉l.filterMap (·.frame):=λ d=>by
 let⟨_,o,b,a⟩:=f.mem d;let⟨m,c,k,j,_⟩:=g;rw[k] at b;cases b;exact a c j
theorem pU{D:Value}{c:Bool}(p:A.frames=some (env::outer))(u:s.heap.FunFrames base (env::outer))(I:env.frame=some L)(v:i9 s.heap e cls od tb)
  (h:∀h' T,(∀b o,s.heap.get? b=some o->b∉(env::outer).filterMap (·.frame)->b≠e->h'.get? b=some o)->(∀b o,s.heap.get? b=some o->b≠e->∃m,h'.get? b=some {o with slots:=m})->
   i9 h' e cls od (.ref T)->zp h' T (rawInt L)->s⁻¹<=T->Q () {s with heap:=h'}) :
  wpAny M A (frameOf env >>= λ a=>entryPlaceOf L c >>= λ k=>EntryCells.newEntry D a .none (rawInt L) .none k >>= λ b=>setField (.ref e) 1 b) Q E s:=by
 have S:=v.vQ u;let⟨t,F,R,O,N,y,x⟩:=v;refine MF (wpAny_frameOf_fun p u I λ g l=>?_);refine MF (wpAny_entryPlaceOf λ k f=>?_);unfold EntryCells.newEntry newFields;refine MF (OX ?_ (f.sizeOk5 _ _ _ _ _));have B:g.get? e=some t:=(l.2.1 e S).trans R;generalize j:({cls:=.type "traceback",dict:=none,data:=.fields ([D,.ref L,.none,rawInt L,.none]++(if k.isEmpty then List.replicate 6 Value.none else k)).toArray}:Obj)=n;have z:(g.push n).get? e=some t:=MH n B;have J:g.objs.size≠e:=NS (MI B);refine PC z y (N4.mp x).1 (h _ g.objs.size (λ b o r G d=>?_) (λ b o r d=>?_) ?_ ?_ ?_)
 .rw[NN _ _ (Ne.symm d)];exact MH _ ((l.2.1 b G).trans r)
 .let⟨m,q⟩:=l.2.2 b o r;exact⟨m,by rw[NN _ _ (Ne.symm d)];exact MH _ q⟩
 .have w:=OM y (·.setIfInBounds 1 (Value.ref g.objs.size));refine⟨_,_,N5 _ z (O2 w),(Obj.cls_mapFields _ _).trans O,?_,w,?_⟩
  .rw[<-N];unfold Obj.mapFields;split<;>rfl
  .have:1<F.size:=(N4.mp x).1;simp[this]
 .refine⟨n,_,?_,by rw[<-j],?_⟩
  .rw[NN _ _ (Ne.symm J)];exact MR g (by rw[<-j];rfl)
  .first | (simp;done) | (rcases f with rfl | ⟨_,_,_,_,_,_,_,rfl⟩<;>simp)
 .exact Qy l.1.symm
theorem xu{T:Addr}{x:Value}(j:zp s.heap T fl)(h:∀h',h'.objs.size=s⁻¹->(∀b,b≠T->h'.get? b=s.heap.get? b)->zp h' T x->Q () {s with heap:=h'}):wpAny M A (setField (.ref T) 3 x) Q E s:=by
 let⟨l,g,f,d,c⟩:=j;have a:=OM d (·.setIfInBounds 3 x);refine PC f d (N4.mp c).1 (h _ (Heap.size_after_update ..) (λ b k=>NN _ _ (Ne.symm k)) ⟨_,_,N5 _ f (O2 a),a,?_⟩);have:3<g.size:=(N4.mp c).1;simp[this]
theorem sU(f:A.frames=some (env::outer))(r:s.heap.FunFrames base (env::outer))(t:env.frame=some L)(B:i9 s.heap e cls od tb)(V:Ak s.heap e tb)
  (h:∀h' T,(∀b o,s.heap.get? b=some o->b∉(env::outer).filterMap (·.frame)->b≠e->tb≠.ref b->h'.get? b=some o)->(∀b o,s.heap.get? b=some o->b≠e->tb≠.ref b->∃O,h'.get? b=some {o with slots:=O})->
   i9 h' e cls od (.ref T)->zp h' T (rawInt L)->s⁻¹<=T->Q () {s with heap:=h'}):wpAny M A (noteFrame (.ref e) env) Q E s:=by
 let⟨S,I,G,h2,h3,F,D⟩:=id B;unfold noteFrame;erw[t];refine MF (Nv G F D ?_);rcases V with rfl | ⟨T,rfl,w,Kv⟩
 .rw[M8 'd'];exact pU f r t B λ h' T p n m l k=>h h' T (λ b o c a d _=>p b o c a d) (λ b o c a _=>n b o c a) m l k
 .let⟨oT,J,y,x,N⟩:=id w;rw[MW (show (Value.ref T != Value.none)=true from by simp)];refine MF (Nv y x N ?_);rw[M8 (show ¬((Value.none==rawInt L)=true) from by simp[rawInt])];refine MF (xu w λ g U j kT=>?_);have nT:=w.vQ r;have q:g.FunFrames base (env::outer):=r.of_keeps λ b o v Z=>⟨o,by rw[j b λ z=>by subst z;rw[y] at v;cases v;exact Z J x];exact v,rfl⟩;have u:i9 g e cls od (.ref T):=⟨S,I,by rw[j e (Ne.symm Kv)];exact G,h2,h3,F,D⟩;refine pU (s:={s with heap:=g}) f q t u λ h' T' p n m l k=>h h' T' (λ b o c a d R=>?_) (λ b o c a d=>?_) m l ?_
  .exact p b o (by rw[j b λ z=>R (by rw[z])];exact c) a d
  .exact n b o (by rw[j b λ z=>d (by rw[z])];exact c) a
  .rw[<-U];exact k
theorem nU{T:Addr}(c:i9 s.heap e cls od (.ref T))(a:zp s.heap T fl)(h:∀h',h'.objs.size=s⁻¹->(∀b,b≠T->h'.get? b=s.heap.get? b)->zp h' T .none->Q () {s with heap:=h'}):wpAny M A (setFlight (.ref e) none) Q E s:=by
 let⟨k,j,g,m,l,f,d⟩:=c;unfold setFlight;refine MF (Nv g f d ?_);rw[MW (show (Value.ref T != Value.none)=true from by simp)];exact xu a h
theorem xw(m:A.frames=some (env::outer))(F:s.heap.FunFrames base (env::outer))(G:env.frame=some L)(r:i9 s.heap e cls od tb)(D:Ak s.heap e tb)
  (h:∀h' T,(∀b o,s.heap.get? b=some o->b∉(env::outer).filterMap (·.frame)->b≠e->tb≠.ref b->h'.get? b=some o)->(∀b o,s.heap.get? b=some o->b≠e->tb≠.ref b->∃u,h'.get? b=some {o with slots:=u})->
   i9 h' e cls od (.ref T)->zp h' T .none->s⁻¹<=T->Q () {s with heap:=h'}):wpAny M A (leaving env (.ref e)) Q E s:=by
 unfold leaving;refine MF (sU m F G r D λ g T y x p w n=>?_);refine nU p w λ h' _ l B=>?_;have k:∀b o,s.heap.get? b=some o->b≠T:=λ b o q=>MQ (MO (MI q) n);have I:T≠e:=λ z=>by
  let⟨j,_,q,_⟩:=r;exact k e j q z.symm
 refine h h' T (λ b o a d c f=>by rw[l b (k b o a)];exact y b o a d c f) (λ b o a d c=>by rw[l b (k b o a)];exact x b o a d c) ?_ B n;let⟨j,t,a,d,c,f,v⟩:=p;exact⟨j,t,by rw[l e (Ne.symm I)];exact a,d,c,f,v⟩
end
def pV(g:Heap)(H:Hp)(h:Heap)(a:Addr)(cls:Value)(d:Option Addr):Prop:=
 ∃c,i9 h a cls d c/\Ak h a c/\g.get? a=none/\H a=none/\(∀T,c=.ref T->g.get? T=none/\H T=none)/\∀b o,g.get? b=some o->∃f,h.get? b=some f
def kH(P:Program)(w:World):sJ:=λ b H s E e c=>∃a d g f,e=.ref a/\c.os=s.os/\AllBare c.gens/\Un (frs b) [] H f s.heap c.heap/\fD P w f c.heap/\pV s.heap f c.heap a d g/\E d g f
theorem HB:Passes (kH X.prog X.w) X E0:=λ _ _ _ _ _ _ _ h=>by
 let⟨_,_,_,_,_,_,_,_,_,_,z⟩:=h;exact False.elim z
section
variable{X:Cx}{aa:List (Addr×Obj)}{Y:St}{H:Hp}{s s':Shared}{E:XK}{e:Value}{a:Addr}{cls:Value}{od:Option Addr}
theorem Inv.D4(I:Inv X aa Y H s)(h:kH X.prog X.w X.stack H s E e s'):∃a cls od d,e=.ref a/\Inv X aa Y d s'/\pV s.heap d s'.heap a cls od/\E cls od d:=by
 let⟨a,cls,od,d,rfl,j,c,g,f,x,q⟩:=h;exact⟨a,cls,od,d,rfl,I.BB (ch:=[]) j g f c λ b z=>absurd z 's',x,q⟩
theorem left(hx:X.ex=[])(l:X.stack=X.env::X.outer)(r:X.env.frame=some X.env.locals)(I:Inv X aa Y H s)(x:pV X.s₀.heap H s.heap a cls od)
  (hQ:∀h',Un (frs X.outer) [] X.H₀ H X.s₀.heap h'->fD X.prog X.w H h'->pV X.s₀.heap H h' a cls od->Q () {s with heap:=h'}):wpAny M X.A (leaving X.env (.ref a)) Q E' s:=by
 let⟨V,U,h2,S,R,O,h6⟩:=x;have hl:s.heap.FunFrames X.base (X.env::X.outer):=by rw[<-l];exact I.stack
 have fr:∀b∈(X.env::X.outer).filterMap (·.frame),H b=none:=λ b d=>I.jI b (by rw[l];exact d);refine xw (base:=X.base) (L:=X.env.locals) (by rw[<-l];exact I.ok.frames) hl r U h2 λ h' T N B k3 Z y=>?_;have v:∀b o,X.s₀.heap.get? b=some o->b≠a/\V≠.ref b/\b≠X.env.locals:=λ b o q=>⟨λ z=>(by rw[z,S] at q;cases q),λ z=>(by rw[(O b z).1] at q;cases q),MQ (MO (MI q) I.ok.above)⟩;have m:∀b,b∉X.ex:=λ b=>by rw[hx];simp
 have J:∀b u o,H b=some u->s.heap.get? b=some o->h'.get? b=some o:=λ b u o d q=>N b o q (λ z=>by rw[fr b z] at d;cases d) (λ z=>by rw[z,R] at d;cases d) λ z=>by rw[(O b z).2] at d;cases d
 have D:fD X.prog X.w H h':=λ b u d=>(I.hok b u d).stay (λ c o F q=>by
  rcases F with rfl | F
  .exact J _ _ _ d q
  .exact J _ _ _ F q) (λ _ q=>q) λ _ _ q=>q
 refine hQ h' ⟨λ b o q n d _=>?_,λ b o q n d _=>?_,λ b o q n _=>I.base.free b o q n (m b),λ b o q _=>?_,I.base.tups,I.base.gi,I.base.gM⟩ D ⟨.ref T,k3,.inr ⟨T,rfl,Z,λ z=>?_⟩,S,R,λ T' e=>?_,λ b o q=>?_⟩
 .let⟨k,j,t⟩:=v b o q;refine N b o (I.base.keep b o q n d (m b)) (λ z=>?_) k j;rw[Pp,r] at z;rcases MX.mp z with z | z
  .exact t z
  .exact d z
 .let⟨k,j,t⟩:=v b o q;let⟨sl,g⟩:=I.base.slot b o q n d (m b);let⟨f,p⟩:=B b _ g k j;exact⟨f,p⟩
 .let⟨k,j,t⟩:=v b o q;let⟨G,g⟩:=I.base.there b o q (m b);let⟨f,p⟩:=B b _ g k j;exact⟨_,p⟩
 .subst z;let⟨oe,_,q,_⟩:=U;exact absurd (MI q) (Qd.mpr y)
 .cases e;refine⟨?_,I.hok.fresh y⟩;cases z:X.s₀.heap.get? T with
  |none=>rfl
  |some o=>
   let⟨G,g⟩:=I.base.there T o z (m T);exact absurd (MI g) (Qd.mpr y)
 .let⟨k,j,t⟩:=v b o q;let⟨G,g⟩:=I.base.there b o q (m b);let⟨f,p⟩:=B b _ g k j;exact⟨_,p⟩
end
section
variable{prog:Program}{w:World}{A:Around}{R:Result->Shared->Prop}{h:Heap}{g:Array GenState}{d:Drawn}{t:Nat}{os:OsState}
variable{nm q:Str}{C N f:Addr}{bs bm bmB:List Value}{hdct:Bool}{sn:List Str}{sub:List Value}{ab:Bool}{col:Option Bool}{dd:Option Addr}{k0 k1 k2 k3 k5:Option Value}{B Bn newId nid initId inN:String}{bmN:List Value}
abbrev mO(a:List Value):Obj:={cls:=.type "tuple",data:=.seq a.toArray}
abbrev fm(C t:Addr):Obj:={cls:=.ref C,data:=.fields #[.ref t,.none,.none,.none,.bool false,.none]}
theorem D5(y:ExcBaseFacts Bn newId inN bmN)(m:bmB.contains (.type Bn)=true)(F:ExcBaseFacts B nid initId bmB)(T:OwnTail h bmB bm){D:Str->Option Value}{a:List Value}{Q:Fin->Shared->Prop}{E:Value->Shared->Prop}
  (l:h.get? C=@(excClassObj nm q C N bs bm hdct sn sub ab col dd k0 k1 k2 k3 k5 newId)) (J:h.Ns N D) (p:D "__init__"=@(.ref f)) (L:∀c,PySem.W.Looks (model prog w) h (bindSpecial (.ref f) c) (.ref f,[c])) (hrest:a.length<=sizeLine)
  (I:codeAny (model prog w) A (.call (.ref f) ⟨.ref (h.objs.size+1)::a,[]⟩) (λ r n=>match r with | .ok (.ret v)=>v=.none/\Q (.done (.ret (.ref (h.objs.size+1)))) n | .ok _=>False | .error e=>E e n) ⟨(h.push {cls:=.type "tuple",data:=.seq a.toArray}).push {cls:=.ref C,data:=.fields #[.ref h.objs.size,.none,.none,.none,.bool false,.none]},g,d,t,os⟩) :
  wpAny (model prog w) A (Builtin.«type.__call__» ⟨.ref C::a,[]⟩) Q E ⟨h,g,d,t,os⟩:=by
 repeat (first | with_reducible refine MZ l ?_ | with_reducible refine wpAny_madeBy_exc l ?_ | wp_step)
 refine codeAny_call_builtin_code (PD _ y.quiet) (wpAny_check_new_subU y m T l ?_);refine codeAny_exc_new_subU y m F T l ?_ hrest;show wpAny _ _ _ _ _ _;have k:∀b o,h.get? b=some o->((h.push {cls:=.type "tuple",data:=.seq a.toArray}).push {cls:=.ref C,data:=.fields #[.ref h.objs.size,.none,.none,.none,.bool false,.none]}).get? b=some o:=λ b o e=>MH _ (MH _ e);have G:=k _ _ l;have u:=J.keeps k;have j:((h.push {cls:=.type "tuple",data:=.seq a.toArray}).push {cls:=.ref C,data:=.fields #[.ref h.objs.size,.none,.none,.none,.bool false,.none]}).get? (h.objs.size+1)=some {cls:=.ref C,data:=.fields #[.ref h.objs.size,.none,.none,.none,.bool false,.none]}:=by heap_get
 have x:(Value.ref C::bm).contains (.ref C)=true:=by simp
 have O:=T.keeps k;unfold isInstance
 repeat (first | with_reducible refine MZ j ?_ | (with_reducible refine NO G ?_;rw[x]) | wp_step)
 show wpAny _ _ (typeLookup (.ref C) _) _ _ _;refine wpAny_typeLookup_tail G u O F.mroIs F.init.lookup ?_;rw[p];refine NG (MF (((L (.ref (h.objs.size+1))).keeps k).here ?_));refine MF (Px (NT I λ r n z=>?_));rcases r with e | (v | _ | _ | _)<;>first | exact z | exact z.elim | skip;let⟨rfl,z⟩:=z
 wp_walk
 exact z
theorem xA{E:Value->Shared->Prop}{Q:Value->Shared->Prop}(x:ExcBaseFacts Bn newId inN bmN)(l:bmB.contains (.type Bn)=true)(F:ExcBaseFacts B nid initId bmB)(T:OwnTail h bmB bm){m:Str->Option Value}{a:List Value}
  (c:h.get? C=@(excClassObj nm q C N bs bm hdct sn sub ab col dd k0 k1 k2 k3 k5 newId)) (p:h.Ns N m) (k:m "__init__"=@(.ref f)) (u:∀b,PySem.W.Looks (model prog w) h (bindSpecial (.ref f) b) (.ref f,[b])) (hrest:a.length<=sizeLine)
  (n:codeAny (model prog w) (A.under (.builtin "type.__call__" ⟨.ref C::a,[]⟩)) (.call (.ref f) ⟨.ref (h.objs.size+1)::a,[]⟩) (λ r j=>match r with | .ok (.ret v)=>v=.none/\Q (.ref (h.objs.size+1)) j | .ok _=>False | .error e=>E e j) ⟨(h.push {cls:=.type "tuple",data:=.seq a.toArray}).push {cls:=.ref C,data:=.fields #[.ref h.objs.size,.none,.none,.none,.bool false,.none]},g,d,t,os⟩) :
  wpAny (model prog w) A (call (.ref C) a) Q E ⟨h,g,d,t,os⟩:=by
 have G:=tc_lookup;have D:=tc_bind (.ref C);have y:(⟨h,g,d,t,os⟩:Shared).TypeIs (.ref C) "type":=⟨_,c,rfl⟩;refine Px (codeAny_of_tree ?_);show wpAny _ _ (callAny (.ref C) _) _ _ _
 repeat (any_goals (first | assumption | with_reducible refine MZ c ?_ | wp_step))
 refine⟨rfl,?_⟩;refine codeAny_call_builtin_at (PD _ 'k') entry_typeCall (wpAny_check_type_call_sub c (D5 x l F T c p k u hrest (NT n λ r j z=>?_)));rcases r with e | (v | _ | _ | _)<;>exact z
end
section
variable{prog:Program}{w:World}{A:Around}{E:Value->Shared->Prop}{h:Heap}{g:Array GenState}{d:Drawn}{t:Nat}{os:OsState}
variable{nm q:Str}{C N x:Addr}{bs bm bmB:List Value}{sn:List Str}{sub:List Value}{ab:Bool}{col:Option Bool}{dd:Option Addr}{k0 k1 k2 k3 k5:Option Value}{B newId sa owner:String}{name:Str}{v:Value}{o:Obj}{vs:Array Value}
theorem rJ(T:OwnTail h bmB bm){b:Value}{a:Str}(e:refuseLoop b a bmB=pure ()):refuseLoop b a bm=pure ():=by
 induction T with
 |base=>exact e
 |own _ _ _ _ c=>rw[refuseLoop_ref];exact c
theorem rK{Q:Fin->Shared->Prop}(SF:StoreFacts B bmB sa owner)(T:OwnTail h bmB bm)
  (hC:h.get? C=@(excClassObj nm q C N bs bm true sn sub ab col dd k0 k1 k2 k3 k5 newId)) (F:PySem.W.Looks (model prog w) h (typeLookup (.ref C) name) none)
  (n:h.get? x=some o) (hc:o.cls=.ref C) (J:o.dict=none) (m:o.data=.fields vs)
  (V:∀h' p,h'.get? x=some {o with dict:=some h.objs.size}->h'.Ns1 h.objs.size (λ y=>if y=name then some v else none)->(∀b u,b≠x->h.get? b=some u->h'.get? b=some u)->Q (.done (.ret .none)) ⟨h',g,d,p,os⟩) :
  wpAny (model prog w) A (Builtin.«object.__setattr__» ⟨[.ref x,.str name tk,v],[]⟩) Q E ⟨h,g,d,t,os⟩:=by
 have j:=rJ T (SF.passes (.ref x));unfold Builtin.«object.__setattr__»
 repeat (first | rw[refuse_eq] | (rw[refuseLoop_ref,j]) | (with_reducible refine MZ n ?_;rw[hc]) | with_reducible refine wpAny_mroOf_exc hC ?_ | with_reducible refine NQ F ?_ | wp_step)
 rw[J,M8 (by simp[typeHasDict])];split
 .ext f;cases f
 split
 .ext c f;rw[m] at f;cases f
 .have a:(h.push {cls:=.type "dict",data:=.dict #[]}).get? x=some o:=MH _ n;have k:x≠h.objs.size:=MQ (MI n);refine MF (wpAny_alloc' ?_);refine MF (wpAny_update' a ?_);refine MP ?_;have G:((h.push {cls:=.type "dict",data:=.dict #[]}).update x λ o=>{cls:=o.cls,dict:=some h.objs.size,data:=o.data,slots:=o.slots}).get? h.objs.size
    = some {cls:=.type "dict",data:=.dict #[]}:=
   (Heap.get?_update_ne _ _ _ _ k.symm).trans (Heap.get?_push_at rfl rfl)
  have D:((h.push {cls:=.type "dict",data:=.dict #[]}).update x λ o=>{cls:=o.cls,dict:=some h.objs.size,data:=o.data,slots:=o.slots}).Ns h.objs.size (λ _=>none):=
   ⟨_,#[],_,G,rfl,λ e Z=>absurd Z 's',λ _=>rfl⟩
  show wpAny _ _ (Builtin.ObjectAttr.storeInDict h.objs.size (.str name tk) name v) _ _ _;unfold Builtin.ObjectAttr.storeInDict Builtin.ObjectAttr.newKeyGuard;refine MF (MP (MF (wpAny_nsSet1 (Heap.Ns1.of_empty D) λ h' l R=>?_)));let⟨oD,esD,epD,z,FO,L⟩:=l.count (Within.cons name v Within.nil);refine MF (wpAny_lookBehind z (by rw[FO];exact pastItsLine_dict (Na L (by rw[Nh,Ox,N6];omega))) ?_)
  wp_walk
  refine V h' _ ?_ l (λ b ob O S=>?_)
  .refine(R.2 x k).trans (N5 _ a ?_);have I:=(Heap.get?_some_iff.mp n).2;let⟨oc,od,r,U⟩:=o;cases r<;>first | rfl | exact I
  .exact(R.2 b (MQ (MI S))).trans ((Heap.get?_update_ne _ _ _ _ O).trans (MH _ S))
theorem uV{a:Value}(b:StoreFacts B bmB sa owner)(T:OwnTail h bmB bm)
  (l:h.get? C=@(excClassObj nm q C N bs bm true sn sub ab col dd k0 k1 k2 k3 k5 newId)) (j:h.get? x=some o) (k:o.cls=.ref C) (c:Q () ⟨h,g,d,t,os⟩) :
  wpAny M A (checkBuiltinCall sa ⟨[.ref x,a,v],[]⟩) Q E ⟨h,g,d,t,os⟩:=by
 have n:(Value.ref C::bm).contains (.type owner)=true:=by rw[O4,T.hasType b.hasOwner,Ph]
 have f:=b.args (.ref x) a v;erw[checkBuiltinCall,b.kind,b.split];refine MF ?_
 .unfold isInstance
  repeat (first | (with_reducible refine MZ j ?_;rw[k]) | (with_reducible refine NO l ?_;rw[n]) | wp_step)
  cases hsig:Manifest.signature? sa with
  |none=>exact MP c
  |some sig=>
   erw[argsOk,hsig] at f;have m:Bind.checkArgs sa sig ⟨[.ref x,a,v],[]⟩=pure ():=f;show wpAny M A (Bind.checkArgs sa sig ⟨[.ref x,a,v],[]⟩) Q E _;rw[m];exact MP c
theorem uW(k:StoreFacts B bmB sa owner)(T:OwnTail h bmB bm)
  (r:h.get? C=@(excClassObj nm q C N bs bm true sn sub ab col dd k0 k1 k2 k3 k5 newId)) (D:PySem.W.Looks (model prog w) h (typeLookup (.ref C) "__setattr__") @(.builtin sa)) (m:PySem.W.Looks (model prog w) h (typeLookup (.ref C) name) none)
  (l:h.get? x=some o) (p:o.cls=.ref C) (n:o.dict=none) (j:o.data=.fields vs)
  (z:∀h' f,h'.get? x=some {o with dict:=some h.objs.size}->h'.Ns1 h.objs.size (λ y=>if y=name then some v else none)->(∀b u,b≠x->h.get? b=some u->h'.get? b=some u)->Q () ⟨h',g,d,f,os⟩) :
  wpAny (model prog w) A (setAttr (.ref x) name v) Q E ⟨h,g,d,t,os⟩:=by
 have F:=k.slot.bind (.ref x);unfold setAttr callSpecial? specialOf
 repeat (any_goals (first | assumption | (with_reducible refine MZ l ?_;rw[p]) | with_reducible refine NQ D ?_ | wp_step))
 refine Oz k.slot.plain k.entry (uV k T r l p (rK k T r m l p n j λ h' f a b c=>?_))
 repeat (any_goals (first | assumption | wp_step))
 exact z h' f a b c
end
def VE:List Value:=[.type "ValueError",.type "Exception",.type "BaseException",.type "object"]
structure XC(K:ae)(C:Addr)(bm:List Value)(i:Option Value):Prop where
 ex:∃(nm q:Str) (N:Addr) (bs:List Value) (sn:List Str) (sub:List Value) (ab:Bool) (col:Option Bool) (dd:Option Addr) (k0 k1 k2 k3 k5:Option Value) (Bn newId inN:String) (bmN:List Value) (mN:Str->Option Value),
  K.lookup C=some (excClassObj nm q C N bs bm true sn sub ab col dd k0 k1 k2 k3 k5 newId)/\ExcBaseFacts Bn newId inN bmN/\VE.contains (.type Bn)=true/\mN "__init__"=i/\∀h,K.In h->h.Ns N mN/\OwnTail h VE bm
 sa:PySem.W.findIn K (.ref C) "__setattr__"=@(some (.builtin "object.__setattr__"))
 kp:PySem.W.keepIn K (.ref C)=true
def iH(a:Addr)(o:Obj):HO:=.ext λ h=>h.get? a=some o
theorem rL{w:World}{a:Addr}(e:h.get? a=some o):aW P w H h a (iH a o):=⟨e,⟨o,e⟩,λ _ _ p k=>k o p⟩
theorem gI{w:World}{a:Addr}(b:fD P w H h)(e:H a=@(iH a o)):h.get? a=some o:=(show aW P w H h a (iH a o) from b a _ e).1
def BS(H:Hp)(a:Addr):Hp:=λ b=>if b=a then none else H b
section
variable{X:Cx}{aa:List (Addr×Obj)}{Y:St}{H:Hp}{s:Shared}
theorem Inv.drop{a:Addr}{g:Heap->Prop}(I:Inv X aa Y H s)(e:H a=@(.ext g)):Inv X aa Y (BS H a) s:=by
 have k:∀b u,b≠a->H b=u->BS H a b=u:=λ b u n q=>by unfold BS;rw[M8 n];exact q
 have z:∀b,H b=none->BS H a b=none:=λ b q=>by unfold BS;split<;>first | rfl | exact q
 refine⟨I.ok,I.os,I.bare,⟨I.base.keep,I.base.slot,λ b o q n l=>z _ (I.base.free b o q n l),I.base.there,λ b f q=>?_,λ b o u q=>?_,λ b j q=>?_⟩,I.loc,I.cell,z _ I.free,λ x c q=>z _ (I.freeC x c q),λ p t=>?_,λ b u q=>?_,I.len⟩
 .have d:=I.base.tups b f q;exact k b _ (λ y=>by rw[y,e] at d;cases d) d
 .have d:=I.base.gi b o u q;exact k b _ (λ y=>by rw[y,e] at d;cases d) d
 .let⟨m,d⟩:=I.base.gM b j q;exact⟨m,k b _ (λ y=>by rw[y,e] at d;cases d) d⟩
 .let⟨A,w,v⟩:=I.pin p t;exact⟨A,z _ w,v⟩
 .unfold BS at q;split at q
  .cases q
  .exact(I.hok b u q).stay (λ _ _ _ r=>r) (λ c r=>k c _ (λ y=>by rw[y,e] at r;cases r) r) λ c f r=>k c _ (λ y=>by rw[y,e] at r;cases r) r
theorem uX{a:Addr}{vs:Array Value}{f:Str}{y:V}{u:Value}{A:Around}{E:Value->Shared->Prop}(c:XC X.K C bm i)(nf:PySem.W.findIn X.K (.ref C) f=some none)
  (I:Inv X aa Y H s) (e:H a=@(iH a o)) (hc:o.cls=.ref C) (S:o.dict=none) (D:o.data=.fields vs) (ry:RelV y u)
  (hQ:∀dx Z,H dx=none->dx≠a->Inv X aa Y (upd (upd H a (iH a {o with dict:=some dx})) dx (.xd [(f,y)])) Z->Q () Z):wpAny (model X.prog X.w) A (setAttr (.ref a) f u) Q E s:=by
 let⟨nm,q,N,bs,sn,sub,ab,col,dd,k0,k1,k2,k3,k5,Bn,R,inN,bmN,mN,hC,Fn,hBn,hi,T⟩:=c.ex;have hx:=gI I.hok e;let⟨B,g,d,t,os⟩:=s;refine uW (bmB:=VE) F.store_ValueError (T _ I.eS).2 (I.eS _ _ hC) (Nr I.eS c.sa) (Nr I.eS nf) hx hc S D λ h' O h1 h2 J=>?_;have ne:B.objs.size≠a:=NS (MI hx);have hn:H B.objs.size=none:=I.hok.fresh (MK _);have k:∀b r,H b=some r->b≠a->upd (upd H a (iH a {o with dict:=some B.objs.size})) B.objs.size (.xd [(f,y)]) b=some r:=λ b r m j=>by rw[ai (au m hn),ai j];exact m
 refine hQ B.objs.size _ hn ne (I.un (t':=O) (h':=h') ⟨λ b p m j _ _=>J b p (λ z=>by rw[z,e] at j;cases j) m,λ b p m j _ _=>⟨p.slots,J b p (λ z=>by rw[z,e] at j;cases j) m⟩,λ b p m j _=>?_,λ b p m _=>?_,λ b xs q=>k b _ q (λ z=>(by rw[z,e] at q;cases q)),
  λ b p v q=>k b _ q (λ z=>(by rw[z,e] at q;cases q)),λ b ps q=>⟨#[],(by rw[k b _ q (λ z=>(by rw[z,e] at q;cases q))];simp)⟩⟩ λ b r q=>?_)
 .rw[ai (MQ (MI m)),ai (λ z=>(by rw[z,e] at j;cases j))];exact j
 .by_cases z:b=a
  .exact⟨_,by rw[z];exact h1⟩
  .exact⟨p,J b p z m⟩
 .by_cases z:b=B.objs.size
  .subst z;rw[av] at q;cases q;refine⟨_,h2,λ G=>?_⟩;show eO (List.lookup G [(f,y)]) (if G=f then some u else none)
   by_cases l:G=f
   .have U:(G==f)=true:=Ny.mpr l;erw[List.lookup,U,MW l];exact ry
   .have U:(G==f)=false:=N1.mpr l;erw[List.lookup,U,M8 l];trivial
  .rw[ai z] at q
   by_cases L:b=a
   .subst L;rw[av] at q;cases q;exact rL h1
   .rw[ai L] at q;refine(I.hok b r q).stay (λ c v x n=>J c v ?_ n) (λ c n=>k c _ n λ l=>by rw[l,e] at n;cases n) λ c xs n=>k c _ n λ l=>by rw[l,e] at n;cases n
    rcases x with rfl | x
    .exact L
    .intro l;rw[l,e] at x;cases x
end
def HC(C:Addr)(g d:TE)(f:Str):TS:=λ D Y H=>d Y H λ y j=>g Y j λ x c=>∃a t,x=.ref a/\c a=some (iH a (fm C t))/\
 ∀b,c b=none->b≠a->D.nx Y (upd (upd c a (iH a {fm C t with dict:=some b})) b (.xd [(f,y)]))
def FE(C:Addr)(f:Str):Sp:=λ c H Q _=>∃a t y,c=[.ref a,y]/\H a=some (iH a (fm C t))/\∀b,H b=none->b≠a->Q .non (upd (upd H a (iH a {fm C t with dict:=some b})) b (.xd [(f,y)]))
section
variable{X:Cx}{o value:Expr}{f:Str}{pos pos':Pos}{ta tv:TE}{C:Addr}{bm:List Value}{i:Option Value}
theorem Am(c:XC X.K C bm i)(m:PySem.W.findIn X.K (.ref C) f=some none)(v:PE X o ta)(n:PE X value tv)(p:swapsWith value @(.Attribute o f pos') pos.line X.env=pure false):PS X (.Assign [.Attribute o f pos'] value pos) (HC C ta tv f):=by
 intro aa s Y H D I h;refine O0 (br (n aa s Y H _ I h) λ u d ⟨y,G,F,g,q⟩=>br (v aa d Y G _ F q) λ l L ⟨x,N,E,j,a,t,w,z,k⟩=>?_) p;subst w;obtain rfl:l=Value.ref a:=j;exact uX c m E z rfl rfl rfl g λ A J r b B=>⟨Y,_,B,k A r b⟩
theorem An{CX:sJ}{k:Nat}{fd:FuncData}{G:List Str}{E:XK}{v:V}{u:Value}(c:XC X.K C bm @(.ref fa))(R:PySem.W.typeIn X.K (.ref fa)=@(.type "function"))
  (F:bQ X.prog X.w X.K X.mg X.base z9 k fa fd G (FE C f)) (hr:bI (k+1) X.A) (hb:Binds X.K fd G []) (O:G.length=2) (I:Inv X aa Y H s) (r:RelV v u) {Q:Value->Shared->Prop}
  (hQ:∀a dx m,H dx=none->Inv X aa Y (upd H dx (.xd [(f,v)])) m->pV s.heap (upd H dx (.xd [(f,v)])) m.heap a (.ref C) (some dx)->(∃z,m.heap.get? a=some {fm C z with dict:=some dx})->Q (.ref a) m):wpAny (model X.prog X.w) X.A (call (.ref C) [u]) Q E' s:=by
 let⟨nm,q,N,bs,sn,sub,ab,col,dd,k0,k1,k2,k3,k5,Bn,L,inN,bmN,mN,hC,Fn,S,hi,T⟩:=c.ex;let⟨l,g,d,t,os⟩:=s;let⟨hN,hT⟩:=T _ I.eS;refine xA (bmB:=VE) Fn S OA hT (I.eS _ _ hC) hN hi (λ p=>PySem.W.bind_fn I.eS p R) (by rw[N6];show 1<=_;decide) ?_;generalize x:l.objs.size=z;have e2:((l.push (mO [u])).push (fm C z)).get? (z+1)=some (fm C z):=by
  have:=MR (l.push (mO [u])) (o:=fm C z) rfl
  rwa [NV,x] at this
 have I2:Inv X aa Y (upd H (z+1) (iH (z+1) (fm C z))) ⟨(l.push (mO [u])).push (fm C z),g,d,t,os⟩:=
  I.laid (t':=t) (h':=(l.push (mO [u])).push (fm C z)) (a:=z+1) (λ b J q=>MH _ (MH _ q)) (by rw[<-x];exact NW _) (rL e2)
 have hn:H (z+1)=none:=I.hok.fresh (by rw[<-x];exact NW _);refine NT (F.run _ X.stack _ _ ⟨[.ref (z+1),u],[]⟩ [.ref (z+1),u] [.ref (z+1),v] (λ v' H'=>v'=.non/\∃dx,H dx=none/\dx≠z+1/\H'=upd (upd (upd H (z+1) (iH (z+1) (fm C z))) (z+1) (iH (z+1) {fm C z with dict:=some dx})) dx (.xd [(f,v)])) E0
  (hr.make C [u] []) (I2.wB.make C [u] []) (by have:=hb ⟨(l.push (mO [u])).push (fm C z),g,d,t,os⟩ [.ref (z+1),u] I2.eS (by rw[O];rfl);rwa [NL] at this) %[rfl,|r] ⟨z+1,z,v,rfl,av,λ dx B j=>⟨rfl,dx,?_,j,rfl⟩⟩) λ rr m n=>?_
 .rw[ai j] at B;exact B
 .cases rr with
  |error e=>exact False.elim n
  |ok fl=>
   cases fl with
   |ret u'=>
    let⟨v',H',Z,rv,ev,dx,B,j,eH⟩:=I2.after n;subst ev;subst eH;have U:upd (upd (upd H (z+1) (iH (z+1) (fm C z))) (z+1) (iH (z+1) {fm C z with dict:=some dx})) dx (.xd [(f,v)]) (z+1)=some (iH (z+1) {fm C z with dict:=some dx}):=by rw[ai (Ne.symm j),av]
    have I4:=Z.drop U;have eD:BS (upd (upd (upd H (z+1) (iH (z+1) (fm C z))) (z+1) (iH (z+1) {fm C z with dict:=some dx})) dx (.xd [(f,v)])) (z+1)=upd H dx (.xd [(f,v)]):=by
     funext b;unfold BS
     by_cases y:b=z+1
     .rw[MW y,y,ai (Ne.symm j),hn]
     .rw[M8 y]
      by_cases D:b=dx
      .rw[D,av,av]
      .rw[ai D,ai y,ai y,ai D]
    rw[eD] at I4;refine⟨rv,hQ (z+1) dx m B I4 ⟨.none,⟨_,_,gI Z.hok U,rfl,rfl,rfl,rfl⟩,.inl rfl,Heap.get?_none_of_le (by show l.objs.size<=z+1;rw[<-x];exact NW _),?_,λ T e=>(by cases e),λ b J q=>?_⟩ ⟨z,gI Z.hok U⟩⟩
    .rw[ai (Ne.symm j)];exact hn
    .have q0:((l.push (mO [u])).push (fm C z)).get? b=some J:=MH _ (MH _ q);let⟨_,_,_,_,un,_⟩:=id n;exact un.there b J q0 's'
   |next=>exact False.elim n
   |brk=>exact False.elim n
   |cont=>exact False.elim n
end
def Old(X:Cx)(aa:List (Addr×Obj))(g:Heap):Prop:=(∀b o,X.s₀.heap.get? b=some o->∃a,g.get? b=some a)/\∀p∈X.pn++aa,∃a,g.get? p.1=some a
theorem Inv.old(I:Inv X aa Y H s)(a:X.ex=[]):Old X aa s.heap:=⟨λ b o e=>I.base.there b o e (by rw[a];simp),λ p c=>⟨_,(I.pin p c).1⟩⟩
theorem pV.old{g:Heap}{m:Hp}{a:Addr}{cls:Value}{f:Option Addr}(d:Old X aa g)(x:pV g m h a cls f):pV X.s₀.heap m h a cls f:=by
 have k:∀b,g.get? b=none->X.s₀.heap.get? b=none:=λ b q=>by
  cases z:X.s₀.heap.get? b with
  |none=>rfl
  |some o=>
   let⟨j,c⟩:=d.1 b o z;rw[q] at c;cases c
 let⟨n,v,u,t,r,l,p⟩:=x;exact⟨n,v,u,k _ t,r,λ T e=>⟨k _ (l T e).1,(l T e).2⟩,λ b o q=>by
  let⟨j,c⟩:=d.1 b o q;exact p b j c⟩
def jC(X:Cx)(Y:St)(cls:Value)(b:Option Addr)(H:Hp):Prop:=∀(aa:List (Addr×Obj)) (s:Shared) (a:Addr) (g:Heap),Inv X aa Y H s->Old X aa g->pV g H s.heap a cls b->X.xe (.ref a) s
theorem XC.base(c:XC K C bm i){A:Around}{E:Value->Shared->Prop}{env:Env}{x:Sem Value}{Q:Flow->Shared->Prop}(p:A.handled=none)
  (h:wpAny M A x (λ v a=>∃e j z,v=.ref e/\K.In a.heap/\a.heap.get? e=some {fm C z with dict:=j}/\E (.ref e) a) E s):wpAny M A (raiseStmt env (some x) none) Q E s:=by
 let⟨I,q,N,bs,F,m,ab,y,dd,U,S,R,O,L,Bn,f,n,B,J,u,Fn,w,Z,T⟩:=c.ex;unfold raiseStmt;refine MF (MV h (λ v a b=>?_) λ _ _ x=>x);let⟨e,j,z,rfl,k,r,t⟩:=b;let⟨V,g,d,tk,G⟩:=a;have l:=k _ _ u;have D:(Value.ref C::bm).contains (.type "BaseException")=true:=by rw[O4,(T _ k).2.hasType (show VE.contains (.type "BaseException")=true from by decide),Ph]
 repeat (first | with_reducible refine MZ r ?_ | with_reducible refine MZ l ?_ | (with_reducible refine NO l ?_;rw[D]) | wp_step)
 exact wpAny_raiseNew_none p t
def D6(X:Cx)(C:Addr)(f:Str)(c:TE):TS:=λ _ Y H=>c Y H λ y b=>∀a,b a=none->jC X Y (.ref C) (some a) (upd b a (.xd [(f,y)]))
section
variable{X:Cx}{e:Expr}{f x:Str}{pos cpos np:Pos}{tv:TE}{C:Addr}{bm:List Value}
theorem xB{k:Nat}{L:FuncData}{j:List Str}(c:XC X.K C bm @(.ref fa))(n:PySem.W.typeIn X.K (.ref fa)=@(.type "function"))
  (F:bQ X.prog X.w X.K X.mg X.base z9 k fa L j (FE C f)) (G:bI (k+1) X.A) (hb:Binds X.K L j []) (m:j.length=2) (l:X.ex=[]) (Z:Gl X x) (V:X.mg x=@(.ref C)) (U:PE X e tv) (t:(x==("__debug__":Str))=false:=by decide)
  (J:starEach [e] X.env=(false,eval e X.env)::starEach [] X.env:=by rfl) (p:evalOpt @(.Call (.Name x np) [e] [] cpos) X.env=some (eval (.Call (.Name x np) [e] [] cpos) X.env):=by rfl):PS X (.Raise @(.Call (.Name x np) [e] [] cpos) none pos) (D6 X C f tv):=by
 intro aa s Y H D I h;rw[arm_exec_Raise,p];refine MF (NC ?_);show wpAny _ _ (raiseStmt X.env @(do let v <-eval (.Call (.Name x np) [e] [] cpos) X.env;standAt pos;pure v) none) _ _ _;refine c.base G.hd (MF ?_);refine Nt (dG I Z V ?_ t);have h':wu tv wm Y H λ g d=>match g with | [y]=>∀b,d b=none->jC X Y (.ref C) (some b) (upd d b (.xd [(f,y)])) | _=>False:=h
 refine NP (h₀:=X.base) I.ok.mod.kin c.kp (br (bW U eZ J cpos aa s Y H _ I h') λ us s1 ⟨g,d,B,r,q⟩=>⟨B.eS,?_⟩) J rfl;obtain⟨y,rfl⟩:∃y,g=[y]:=by
  match g,q with
  | [y],_=>exact⟨y,rfl⟩
 replace q:∀b,d b=none->jC X Y (.ref C) (some b) (upd d b (.xd [(f,y)])):=q;let⟨u,rfl,S⟩:=vals1 r;refine An (CX:=z9) (E:=E0) c n F G hb m B S λ a b R hd N O ⟨z,T⟩=>?_;refine MF (NC (MP ?_));exact⟨a,_,z,rfl,N.eS,T,q b hd aa R a _ N (B.old l) O⟩
end
theorem aW.HD{w:World}{a:Addr}{o:HO}(x:aW P w H h a o):∃u,h.get? a=some u:=by
 cases o with
 |lst xs=>let⟨_,_,_,_,e⟩:=x;exact⟨_,e⟩
 |tup xs=>let⟨_,_,_,c,e,_⟩:=x;exact⟨_,e⟩
 |dK b=>let⟨_,_,_,_,o,_,_,e,_⟩:=x;exact⟨_,e⟩
 |dT b=>let⟨_,_,_,_,o,_,_,e,_⟩:=x;exact⟨_,e⟩
 |set S n=>let⟨o,_,_,_,e,_⟩:=x;exact⟨_,e⟩
 |ins C g fs=>let⟨_,_,_,e,_⟩:=x;exact⟨_,e⟩
 |own y=>let⟨_,e⟩:=x;exact⟨_,e⟩
 |xd fs=>let⟨_,⟨_,_,_,e,_⟩,_⟩:=x;exact⟨_,e⟩
 |rng lo hi=>let⟨_,_,_,e⟩:=x;exact⟨_,e⟩
 |frz c u=>let⟨e,_⟩:=x;exact⟨_,e⟩
 |tbl ps=>exact⟨_,show h.get? a=some _ from x⟩
 |met f y=>exact⟨_,show h.get? a=some _ from x⟩
 |ext d=>let⟨_,⟨_,e⟩,_⟩:=x;exact⟨_,e⟩
def Ao(X:Cx)(C:Addr)(a:TE):TS:=λ _ Y H=>a Y H λ _ b=>jC X Y (.ref C) none b
section
variable{X:Cx}{e:Expr}{f x:Str}{pos cpos np:Pos}{tv:TE}{C:Addr}{bm:List Value}
theorem uY(c:XC X.K C bm none)(n:X.A.handled=none)(w:X.ex=[])(hg:Gl X x)(j:X.mg x=@(.ref C))(hv:PE X e tv)(E:(x==("__debug__":Str))=false:=by decide)
  (L:starEach [e] X.env=(false,eval e X.env)::starEach [] X.env:=by rfl) (B:evalOpt @(.Call (.Name x np) [e] [] cpos) X.env=some (eval (.Call (.Name x np) [e] [] cpos) X.env):=by rfl):PS X (.Raise @(.Call (.Name x np) [e] [] cpos) none pos) (Ao X C tv):=by
 intro aa s Y H D I h;let⟨nm,q,N,bs,sn,U,ab,col,dd,k0,k1,k2,k3,k5,Bn,p,inN,bmN,mN,hC,Fn,F,hi,T⟩:=c.ex;rw[arm_exec_Raise,B];refine MF (NC ?_);show wpAny _ _ (raiseStmt X.env @(do let v <-eval (.Call (.Name x np) [e] [] cpos) X.env;standAt pos;pure v) none) _ _ _;refine c.base n (MF ?_);refine Nt (dG I hg j ?_ E);have G:wu tv wm Y H λ m l=>match m with | [_]=>jC X Y (.ref C) none l | _=>False:=h
 refine NP (h₀:=X.base) I.ok.mod.kin c.kp (br (bW hv eZ L cpos aa s Y H _ I G) λ us V ⟨m,l,k,r,q⟩=>⟨k.eS,?_⟩) L rfl;obtain⟨y,rfl⟩:∃y,m=[y]:=by
  match m,q with
  | [y],_=>exact⟨y,rfl⟩
 replace q:jC X Y (.ref C) none l:=q;let⟨u,rfl,ru⟩:=vals1 r;let⟨n,g,d,t,Z⟩:=V;let⟨hN,hT⟩:=T _ k.eS;refine wpAny_call_exc_subU (bmB:=VE) (hrest:=by rw[N6];show 1<=_;decide) Fn F OA hT (k.eS _ _ hC) hN hi λ G a j=>?_;refine MF (NC (MP ?_));let⟨z,O,g2,g3⟩:=j.there;have R:Inv X aa Y l ⟨G,g,d,t,Z⟩:=k.kept (t':=t) j.keeps;have hn:l a=none:=by
  cases S:l a with
  |none=>rfl
  |some o=>
   let⟨ob,J⟩:=aW.HD (k.hok _ _ S);rw[show n.get? a=none from j.new] at J;cases J
 exact⟨a,none,z,rfl,R.eS,O,q aa _ a n R (k.old w) ⟨.none,⟨_,_,O,rfl,rfl,rfl,rfl⟩,.inl rfl,j.new,hn,λ T e=>(by cases e),λ b o q=>⟨o,j.keeps b o q⟩⟩⟩
end
section
variable{P:Program}{w:World}{K:ae}{mg:Str->Option Value}{base:Heap}{N:List Str}{qual:Str}{scope:Scope}{f:Addr}{cd:Value}{A:Around}{outer:List Env}{s:Shared}{H:Hp}{E:XK}
theorem sV{cls:Value}{b:Option Addr}{d:Hp}(h:E cls b d):jC (iz (kH P w) P w K mg base N qual scope f cd A outer s H E) Y cls b d:=λ aa m a g I l x=>
 left (X:=iz (kH P w) P w K mg base N qual scope f cd A outer s H E) rfl rfl rfl I (x.old l) λ n k c j=>⟨a,cls,b,d,rfl,I.os,I.bare,k,c,j,h⟩
theorem BU(l:X.ex=[]){k:XK}(h:∀cls c d,k cls c d->jC X Y cls c d){j:Hp}{g b:Shared}(I:Inv X aa Y j g)(m:kH X.prog X.w X.stack j g k e b):X.xe e b:=by
 let⟨a,cls,c,d,rfl,n,x,q⟩:=I.D4 m;exact h _ _ _ q aa b a _ n (I.old l) x
theorem Aq:PassesOwn (model P w) (iz (kH P w) P w K mg base N qual scope f cd A outer s H E).A (iz (kH P w) P w K mg base N qual scope f cd A outer s H E).env (iz (kH P w) P w K mg base N qual scope f cd A outer s H E).xe:=by
 have:=PassesOwn.leaving (M:=model P w) (A:=A.deeper (envOfC qual scope s⁻¹ f cd)) (env:=envOfC qual scope s⁻¹ f cd) (Q₁:=λ e a=>kH P w outer H s E e a) (E₁:=λ b a=>kH P w outer H s E b a);exact this
end
section
variable{X:Cx}{aa:List (Addr×Obj)}{Y:St}{H:Hp}{s:Shared}{a:Addr}{cls:Value}{od:Option Addr}{g:Heap}
theorem Inv.past{h':Heap}{tb:Value}(I:Inv X aa Y H s)(hx:X.ex=[])(ol:Old X aa g)(h1:i9 s.heap a cls od tb)(h2:Ak s.heap a tb)(h3:g.get? a=none)(h4:H a=none)(h5:∀T,tb=.ref T->g.get? T=none/\H T=none)
  (S:∀b o,s.heap.get? b=some o->b∉frs X.stack->b≠a->tb≠.ref b->h'.get? b=some o) (D:∀b o,s.heap.get? b=some o->b≠a->tb≠.ref b->∃B,h'.get? b=some {o with slots:=B})
  : Inv X aa Y H {s with heap:=h'}:=by
 have na:∀b o,s.heap.get? b=some o->(∀j,o.data≠.fields j)->b≠a/\tb≠.ref b:=λ b o q nf=>by
  let⟨oe,j,e1,_,_,Z,_⟩:=h1;refine⟨λ z=>?_,λ z=>?_⟩
  .rw[z,e1] at q;cases q;exact nf j Z
  .rcases h2 with y | ⟨T,y,⟨oT,ts,t1,t2,_⟩,_⟩
   .rw[y] at z;cases z
   .rw[y] at z;cases z;rw[t1] at q;cases q;exact nf ts t2
 have R:∀b o,g.get? b=some o->b≠a/\tb≠.ref b:=λ b o q=>⟨λ z=>(by rw[z,h3] at q;cases q),λ z=>(by rw[(h5 b z).1] at q;cases q)⟩;have f:∀b o,X.s₀.heap.get? b=some o->b≠a/\tb≠.ref b:=λ b o q=>by
  let⟨O,q'⟩:=ol.1 b o q;exact R b O q'
 have fr:∀b∈frs X.stack,H b=none:=I.jI;have A:∀b,b∉X.ex:=λ b=>by rw[hx];simp
 have kh:∀b u o,H b=some u->s.heap.get? b=some o->h'.get? b=some o:=λ b u o d q=>S b o q (λ z=>by rw[fr b z] at d;cases d) (λ z=>by rw[z,h4] at d;cases d) λ z=>by rw[(h5 b z).2] at d;cases d
 have lo:∀b o,X.s₀.heap.get? b=some o->b∈frs X.stack->b∈X.fs:=λ b o q d=>by
  rcases MX.mp (I.iV b d) with e | e
  .rw[e] at q;exact absurd (MI q) (Qd.mpr I.ok.above)
  .exact e
 let⟨m,hm,hl⟩:=I.loc;have U:h'.Ns X.env.locals m:=by
  let⟨o,es,ep,l,t,r⟩:=hm;let⟨J,G⟩:=na _ _ l (λ j z=>by rw[t] at z;cases z);let⟨B,q⟩:=D _ _ l J G;exact⟨_,es,ep,q,t,r⟩
 have w:∀c v,s.heap.IsCell c v->h'.IsCell c v:=λ c v ⟨o,l,t⟩=>by
  let⟨J,G⟩:=na _ _ l (λ j z=>by rw[t] at z;cases z);let⟨B,q⟩:=D _ _ l J G;exact⟨_,q,t⟩
 refine⟨I.ok,I.os,I.bare,⟨λ b o q n d _=>?_,λ b o q n d _=>?_,λ b o q n _=>I.base.free b o q n (A b),λ b o q _=>?_,I.base.tups,I.base.gi,I.base.gM⟩,⟨m,U,λ i x v e1 Z e3=>?_⟩,λ x c q=>?_,I.free,I.freeC,λ p hp=>?_,λ b u d=>?_,I.len⟩
 .exact S b o (I.base.keep b o q n d (A b)) (λ z=>d (lo b o q z)) (f b o q).1 (f b o q).2
 .let⟨B,N⟩:=I.base.slot b o q n d (A b);let⟨k,L⟩:=D b _ N (f b o q).1 (f b o q).2;exact⟨k,L⟩
 .let⟨O,N⟩:=I.base.there b o q (A b);let⟨k,L⟩:=D b _ N (f b o q).1 (f b o q).2;exact⟨_,L⟩
 .let⟨u,r,z⟩:=hl i x v e1 Z e3;refine⟨u,r,?_⟩;rcases z with⟨F,E⟩ | ⟨F,c,E,z3⟩
  .exact .inl ⟨F,E⟩
  .exact .inr ⟨F,c,E,w _ _ z3⟩
 .let⟨v,z⟩:=I.cell x c q;exact⟨v,w _ _ z⟩
 .let⟨p1,p2,p3,p4,p5⟩:=I.pin p hp;let⟨O,y⟩:=ol.2 p hp;refine⟨S _ _ p1 (λ z=>?_) (R _ _ y).1 (R _ _ y).2,p2,p3,p4,p5⟩;rcases MX.mp (I.iV _ z) with e | e
  .exact p3 e
  .exact p4 e
 .refine(I.hok b u d).stay (λ c o V q=>?_) (λ _ q=>q) λ _ _ q=>q;rcases V with rfl | V
  .exact kh _ _ _ d q
  .exact kh _ _ _ V q
theorem landed(hx:X.ex=[])(c:X.stack=X.env::X.outer)(v:X.env.frame=some X.env.locals)(I:Inv X aa Y H s)(ol:Old X aa g)(x:pV g H s.heap a cls od)
  (hQ:∀h',Inv X aa Y H {s with heap:=h'}->pV g H h' a cls od->Q () {s with heap:=h'}):wpAny M X.A (noteFrame (.ref a) X.env) (λ _ Z=>wpAny M X.A (setFlight (.ref a) none) Q E' Z) E' s:=by
 let⟨V,B,R,w,O,N,J⟩:=x;have hl:s.heap.FunFrames X.base (X.env::X.outer):=by rw[<-c];exact I.stack
 refine sU (base:=X.base) (L:=X.env.locals) (by rw[<-c];exact I.ok.frames) hl v B R λ g1 T k1 G F k4 u=>?_;refine nU (s:={s with heap:=g1}) F k4 λ h' _ l j2=>?_;have k:∀b o,s.heap.get? b=some o->b≠T:=λ b o q=>MQ (MO (MI q) u);let⟨E,U,j,p,q3,q4,q5⟩:=F;have f:T≠a:=λ z=>by
  let⟨r,_,q,_⟩:=B;exact k a r q z.symm
 have ka:h'.get? a=some E:=by rw[l a (Ne.symm f)];exact j
 have hH:H T=none:=I.hok.fresh u;have I':Inv X aa Y H {s with heap:=h'}:=I.past hx ol B R w O N (λ b o d n m S=>by rw[l b (k b o d)];exact k1 b o d (by rw[<-c];exact n) m S) (λ b o d n m=>by
  let⟨D,y⟩:=G b o d n m;exact⟨D,by rw[l b (k b o d)];exact y⟩)
 refine hQ h' I' ⟨.ref T,⟨E,U,ka,p,q3,q4,q5⟩,.inr ⟨T,rfl,j2,f⟩,w,O,λ T' e=>?_,λ b o q=>?_⟩
 .cases e;refine⟨?_,hH⟩;cases z:g.get? T with
  |none=>rfl
  |some o=>
   let⟨t,q⟩:=J T o z;exact absurd (MI q) (Qd.mpr u)
 .have n1:b≠a:=λ z=>by rw[z,w] at q;cases q
  have n2:V≠.ref b:=λ z=>by rw[(N b z).1] at q;cases q
  let⟨t,j⟩:=J b o q;let⟨D,p⟩:=G b t j n1 n2;exact⟨_,by rw[l b (k b t j)];exact p⟩
end
section
variable{prog:Program}{w:World}{A:Around}{E:Value->Shared->Prop}{h:Heap}{g:Array GenState}{d:Drawn}{t:Nat}{os:OsState}
variable{nm q:Str}{C N x dx:Addr}{bs bm:List Value}{sn:List Str}{sub:List Value}{ab:Bool}{col:Option Bool}{dd:Option Addr}{k0 k1 k2 k3 k5:Option Value}{newId:String}{name:Str}{v:Value}{o:Obj}{vs:Array Value}{mA:Str->Option Value}
theorem mP{P e:Addr}{I:List Value}{j:Option Value}{z:Obj}{Q:Bool->Shared->Prop}(c:XC K C bm i)(p:XC K P I j)(r:K.In h)(he:h.get? e=some z)(a:z.cls=.ref C)
  (m:Q ((Value.ref C::bm).contains (.ref P)) ⟨h,g,d,t,os⟩):wpAny M A (excMatches (.ref e) (.ref P)) Q E ⟨h,g,d,t,os⟩:=by
 let⟨nm,q,N,bs,sn,sub,ab,col,dd,k0,k1,k2,k3,k5,Bn,newId,inN,bmN,mN,u,Fn,hBn,hi,T⟩:=c.ex;let⟨L,q',N',bs',J,y,ab',F,dd',Z,V,U,S,R,Bn',k,B,G,O,l,Fn',D,hi',T'⟩:=p.ex;have u:=r _ _ u;have l:=r _ _ l;have Al:(Value.ref P::I).contains (.type "BaseException")=true:=by rw[O4,(T' _ r).2.hasType (show VE.contains (.type "BaseException")=true from by decide),Ph]
 have f:=tc_notTuple;generalize n:(Value.ref C::bm).contains (.ref P)=b at m;unfold excMatches
 repeat (first | (with_reducible refine MZ he ?_;rw[a]) | with_reducible refine MZ l ?_ | (with_reducible refine NO l ?_;rw[Al]) | (with_reducible refine NO u ?_;rw[n]) | wp_step)
 cases b<;>first | exact m | (wp_walk;exact m)
theorem uZ{Q:Fin->Shared->Prop}(r:h.get? C=@(excClassObj nm q C N bs bm true sn sub ab col dd k0 k1 k2 k3 k5 newId))(j:PySem.W.Looks (model prog w) h (typeLookup (.ref C) name) none)
  (l:h.get? x=some o) (m:o.cls=.ref C) (a:o.data=.fields vs) (k:o.dict=some dx) (f:h.Ns1 dx mA) (n:mA name=some v) (p:Q (.done (.ret v)) ⟨h,g,d,t,os⟩) :
  wpAny (model prog w) A (Builtin.«object.__getattribute__» ⟨[.ref x,.str name tk],[]⟩) Q E ⟨h,g,d,t,os⟩:=by
 unfold Builtin.«object.__getattribute__»
 repeat (first | (with_reducible refine MZ l ?_;rw[m]) | with_reducible refine NQ j ?_ | wp_step)
 split
 .ext c b;rw[a] at b;cases b
 unfold instanceDict
 repeat (first | (with_reducible refine MZ l ?_;rw[m]) | with_reducible refine MZ r ?_ | wp_step)
 rw[k]
 repeat (first | (with_reducible refine wpAny_nsGet f.ns ?_;rw[n]) | wp_step)
 exact p
theorem iI{a:Value}(l:h.get? C=@(excClassObj nm q C N bs bm true sn sub ab col dd k0 k1 k2 k3 k5 newId))(m:bm.contains (.type "BaseException")=true)
  (c:h.get? x=some o) (k:o.cls=.ref C) (f:Q () ⟨h,g,d,t,os⟩):wpAny M A (checkBuiltinCall "BaseException.__getattribute__" ⟨[.ref x,a],[]⟩) Q E ⟨h,g,d,t,os⟩:=by
 have j:builtinKind "BaseException.__getattribute__"=some .slot:=by decide +kernel
 have b:splitId "BaseException.__getattribute__"=some ("BaseException","__getattribute__"):=by decide +kernel
 have n:(Value.ref C::bm).contains (.type "BaseException")=true:=by rw[O4,m,Ph]
 have p:=PySem.F.args_bexc_ga (.ref x) a;erw[checkBuiltinCall,j,b];refine MF ?_
 .unfold isInstance
  repeat (first | (with_reducible refine MZ c ?_;rw[k]) | (with_reducible refine NO l ?_;rw[n]) | wp_step)
  exact f
theorem xC{a:Bool}{Q:Value->Shared->Prop}(r:ExcAttrFacts "ValueError")(p:h.get? C=@(excClassObj nm q C N bs bm true sn sub ab col dd k0 k1 k2 k3 k5 newId))(y:bm.contains (.type "BaseException")=true)
  (l:PySem.W.Looks (model prog w) h (typeLookup (.ref C) "__getattribute__") @(.builtin "BaseException.__getattribute__")) (k:PySem.W.Looks (model prog w) h (typeLookup (.ref C) "__getattr__") none)
  (j:PySem.W.Looks (model prog w) h (typeLookup (.ref C) name) none) (c:h.get? x=some o) (n:o.cls=.ref C) (b:o.data=.fields vs) (m:o.dict=some dx) (f:h.Ns1 dx mA) (u:mA name=some v) (D:handedOut v=pure v) (B:Q v ⟨h,g,d,t+1,os⟩) :
  wpAny (model prog w) A (getAttr (.ref x) name a) Q E ⟨h,g,d,t,os⟩:=by
 have F:=r.ga.bind (.ref x);have G:(a&&onTheHeap (Value.builtin "BaseException.__getattribute__"))=false:=by cases a<;>rfl
 have z:(Value.builtin "BaseException.__getattribute__"==Value.builtin "object.__getattribute__")=false:=by decide +kernel
 have I:(onTheHeap (Value.ref C)&&Value.builtin "BaseException.__getattribute__"==Value.builtin "object.__getattribute__")=false:=by rw[z];rfl
 unfold getAttr
 repeat (any_goals (first | assumption | (with_reducible refine MZ c ?_;rw[n]) | with_reducible refine NQ l ?_ | with_reducible refine NQ k ?_ | wp_step))
 refine Oz r.ga.plain Qm (iI p y c n (uZ p j c n b m f u ?_))
 repeat (any_goals (first | assumption | wp_step))
end
abbrev Cx.lH(X:Cx)(pn:List (Addr×Obj))(xe:Value->Shared->Prop):Cx:={X with pn:=X.pn++pn,xe:=xe}
abbrev Cx.jD(X:Cx)(e:Value)(pn:List (Addr×Obj))(xe:Value->Shared->Prop):Cx:={X with A:=X.A.mark (some e),calm:=false,pn:=X.pn++pn,xe:=xe}
section
variable{X:Cx}{aa:List (Addr×Obj)}{Y:St}{H:Hp}{s:Shared}{a:Addr}{cls:Value}{od:Option Addr}{g:Heap}
theorem Inv.lH(I:Inv X aa Y H s):Inv (X.lH aa xe) [] Y H s:=
 ⟨⟨I.ok.mod,I.ok.kind,I.ok.glob,I.ok.blt,I.ok.above,I.ok.inj,I.ok.has,I.ok.cab,I.ok.hd,I.ok.frames,I.ok.stk,I.ok.exf,I.ok.bs,I.ok.bsz,I.ok.noex,I.ok.exfs,I.ok.g6,I.ok.frf⟩,
  I.os,I.bare,I.base,I.loc,I.cell,I.free,I.freeC,λ p b=>I.pin p (~~~b),I.hok,I.len⟩
theorem Inv.pW{b:List (Addr×Obj)}(I:Inv (X.lH aa xe) b Y H s):Inv X aa Y H s:=
 ⟨⟨I.ok.mod,I.ok.kind,I.ok.glob,I.ok.blt,I.ok.above,I.ok.inj,I.ok.has,I.ok.cab,I.ok.hd,I.ok.frames,I.ok.stk,I.ok.exf,I.ok.bs,I.ok.bsz,I.ok.noex,I.ok.exfs,I.ok.g6,I.ok.frf⟩,
  I.os,I.bare,I.base,I.loc,I.cell,I.free,I.freeC,λ p c=>I.pin p (NY _ c),I.hok,I.len⟩
theorem Inv.jD(I:Inv X aa Y H s):Inv (X.jD e aa xe) [] Y H s:=
 ⟨⟨I.ok.mod,I.ok.kind,I.ok.glob,I.ok.blt,I.ok.above,I.ok.inj,I.ok.has,I.ok.cab,λ z=>(by cases z),I.ok.frames,I.ok.stk,I.ok.exf,I.ok.bs,I.ok.bsz,I.ok.noex,I.ok.exfs,I.ok.g6,I.ok.frf⟩,
  I.os,I.bare,I.base,I.loc,I.cell,I.free,I.freeC,λ p b=>I.pin p (~~~b),I.hok,I.len⟩
theorem Inv.jx(c:X.Ok)(I:Inv (X.jD e aa xe) [] Y H s):Inv X aa Y H s:=
 ⟨c,I.os,I.bare,I.base,I.loc,I.cell,I.free,I.freeC,λ p b=>I.pin p (by rw[NL];exact b),I.hok,I.len⟩
theorem xD{A:Around}(V:X.ex=[])(I:Inv X aa Y H s)(O:Old X aa g)(x:pV g H s.heap a cls od)
  (D:∀h',Inv X aa Y H {s with heap:=h'}->pV g H h' a cls od->Q () {s with heap:=h'}):wpAny M A (setFlight (.ref a) none) Q E' s:=by
 let⟨tb,d,Z,p,m,l,E⟩:=x;rcases Z with rfl | ⟨T,rfl,B,c⟩
 .let⟨y,v,u,G,F,t,r⟩:=id d;unfold setFlight;refine MF (Nv u t r ?_);rw[M8 'd'];exact MP (D s.heap I ⟨.none,d,.inl rfl,p,m,λ T e=>(by cases e),E⟩)
 .refine nU d B λ h' _ f U=>?_;have w:∀b,b≠a->Value.ref T≠.ref b->b≠T:=λ b _ n z=>n (by rw[z]);have S:i9 h' a cls od (.ref T):=by
   let⟨y,v,u,G,F,t,r⟩:=d;exact⟨y,v,(by rw[f a (Ne.symm c)];exact u),G,F,t,r⟩
  refine D h' (I.past V O d (.inr ⟨T,rfl,B,c⟩) p m l (λ b o k _ j J=>by rw[f b (w b j J)];exact k) λ b o k L j=>⟨o.slots,by rw[f b (w b L j)];exact k⟩) ⟨.ref T,S,.inr ⟨T,rfl,U,c⟩,p,m,l,λ b o q=>?_⟩;let⟨R,N⟩:=E b o q;refine⟨R,?_⟩;rw[f b λ z=>by
   subst z;rw[(l _ rfl).1] at q;cases q]
  exact N
theorem name_goes{A:Around}{E:Value->Shared->Prop}{i:Nat}{n:Str}{pos:Pos}(I:Inv X aa Y H s)(hN:X.N.Nodup)(S:X.N[i]?=some n)(hk:X.env.kindOf n=some .local)
  (hQ:∀L,Inv X aa (Y.set i none) H L->Q () L):wpAny M A (do bindName X.env n .none;unbindBehindTheSuite X.env n pos) Q E s:=by
 let⟨m,R,hl⟩:=id I.loc;have t:(X.env.scope.kind==.class||(X.env.scope.kind==.module&&X.env.locals != X.env.globals))=false:=by rw[I.ok.kind];rfl
 have D:i<Y.length:=by rw[I.len];exact(MG.mp S).1
 refine wpAny_nameGoes_keeps hk R t λ h' v x f=>hQ _ ?_;have J:=I.vR;let⟨oL,_,_,hoL,_⟩:=id R;refine⟨I.ok,I.os,I.bare,⟨λ b o e n F r=>?_,λ b o e n F r=>?_,I.base.free,λ b o e r=>?_,I.base.tups,I.base.gi,I.base.gM⟩,⟨_,x,λ j y T l w e3=>?_⟩,λ y c e=>?_,I.free,I.freeC,λ p hp=>?_,λ b ob e=>?_,~~~I.len⟩
 .exact(f.2 b (MQ (MO (MI e) I.ok.above))).trans (I.base.keep b o e n F r)
 .let⟨V,l⟩:=I.base.slot b o e n F r;exact⟨V,(f.2 b (MQ (MO (MI e) I.ok.above))).trans l⟩
 .let⟨o',l⟩:=I.base.there b o e r;exact⟨o',(f.2 b (MQ (MO (MI e) I.ok.above))).trans l⟩
 .by_cases B:j=i
  .subst B;rw[Nb D] at w;cases w
  .rw[M7 (Ne.symm B)] at w;let⟨U,Z,q⟩:=hl j y T l w e3;refine⟨U,Z,?_⟩;rcases q with⟨k,e⟩ | ⟨k,c,e,z⟩
   .refine .inl ⟨k,?_⟩;have:y≠n:=λ e=>B (jU hN l (e▸S));simp[this,e]
   .exact .inr ⟨k,c,e,z.sameBut f (J y c e)⟩
 .let⟨G,z⟩:=I.cell y c e;exact⟨G,z.sameBut f (J y c e)⟩
 .let⟨e,n,O,nf,d⟩:=I.pin p hp;exact⟨(f.2 p.1 O).trans e,n,O,nf,d⟩
 .refine(I.hok b ob e).stay (λ c G u q=>(f.2 c ?_).trans q) (λ _ q=>q) λ _ _ q=>q;rintro rfl;rcases u with rfl | u
  .rw[I.free] at e;cases e
  .rw[I.free] at u;cases u
end
def Au(C:Addr)(b:Option Addr)(o:Obj):Prop:=o.cls=.ref C/\o.dict=b/\∃a,o.data=.fields a
section
variable{X:Cx}{aa:List (Addr×Obj)}{Y:St}{H:Hp}{s:Shared}{a C:Addr}{od:Option Addr}{g:Heap}
theorem tracked(I:Inv X aa Y H s)(B:Old X aa g)(x:pV g H s.heap a (.ref C) od):∃D,Au C od D/\H a=none/\Inv X aa Y (upd H a (iH a D)) s:=by
 let⟨tb,⟨U,J,A,e2,e3,w,e5⟩,h2,G,F,h5,h6⟩:=x;have t:X.env.locals≠a:=λ z=>by
  let⟨m,⟨o,es,ep,k,d,_⟩,_⟩:=I.loc;rw[z,A] at k;cases k;rw[w] at d;cases d
 have j:∀b u,H b=some u->b≠a:=λ b u q z=>by rw[z,F] at q;cases q
 refine⟨U,⟨e2,e3,J,w⟩,F,I.ok,I.os,I.bare,⟨I.base.keep,I.base.slot,λ b o q n Z=>?_,I.base.there,λ b l q=>?_,λ b o u q=>?_,λ b L q=>?_⟩,I.loc,I.cell,?_,λ y c q=>?_,λ p E=>?_,λ b u q=>?_,I.len⟩
 .let⟨V,f⟩:=B.1 b o q;rw[ai λ z=>by rw[z,G] at f;cases f];exact I.base.free b o q n Z
 .rw[ai (j _ _ (I.base.tups b l q))];exact I.base.tups b l q
 .rw[ai (j _ _ (I.base.gi b o u q))];exact I.base.gi b o u q
 .let⟨m,f⟩:=I.base.gM b L q;exact⟨m,by rw[ai (j _ _ f)];exact f⟩
 .rw[ai t];exact I.free
 .rw[ai λ z=>?_]
  .exact I.freeC y c q
  .let⟨v,o,k,d⟩:=I.cell y c q;rw[z,A] at k;cases k;rw[w] at d;cases d
 .let⟨T,S,R,O,N⟩:=I.pin p E;let⟨V,f⟩:=B.2 p E;exact⟨T,by rw[ai λ z=>by rw[z,G] at f;cases f];exact S,R,O,N⟩
 .by_cases z:b=a
  .subst z;rw[av] at q;cases q;exact rL A
  .rw[ai z] at q;exact(I.hok b u q).stay (λ _ _ _ r=>r) (λ c r=>by rw[ai (j _ _ r)];exact r) λ c l r=>by rw[ai (j _ _ r)];exact r
end
abbrev pX:Value->Shared->Prop:=λ _ _=>False
def Ends.gone(D:Ends)(i:Nat):Ends:={nx:=fun Y H=>D.nx (Y.set i none) H,rt:=D.rt,bk:=fun Y H=>D.bk (Y.set i none) H,ct:=fun Y H=>D.ct (Y.set i none) H}
def L4(X:Cx)(P:Addr)(i:Nat)(ts:Cx->TS)(D:Ends)(Y:St)(cls:Value)(d:Option Addr)(H:Hp):Prop:=
 ∃C bm j,cls=.ref C/\XC X.K C bm j/\(Value.ref C::bm).contains (.ref P)=true/\∀a c b,Au C d b->H a=none->ts (X.jD (.ref a) c pX) (D.gone i) (Y.set i @(.ref a)) (upd H a (iH a b))
def L5(X:Cx)(P:Addr)(ts:Cx->TS)(D:Ends)(Y:St)(cls:Value)(d:Option Addr)(H:Hp):Prop:=
 ∃C bm j,cls=.ref C/\XC X.K C bm j/\(Value.ref C::bm).contains (.ref P)=true/\∀a c b,Au C d b->H a=none->ts (X.jD (.ref a) c pX) D Y (upd H a (iH a b))
def Kw(X:Cx)(g:Ends->St->Value->Option Addr->Hp->Prop)(tb:Cx->TS):TS:=λ D Y H=>∀c xe,(∀a b d f,g D a b d f->jC (X.lH c xe) a b d f)->tb (X.lH c xe) D Y H
section
variable{X:Cx}{body suite:List Stmt}{b₀:Stmt}{cn n:Str}{np hpos pos:Pos}{P:Addr}{Ar:List Value}{jP:Option Value}{i:Nat}{tb ts:Cx->TS}{hd:Ends->St->Value->Option Addr->Hp->Prop}{h₀:ExceptHandler}
theorem xE(N:X.ex=[])(F:X.stack=X.env::X.outer)(J:X.env.frame=some X.env.locals)
  (R:∀pn xe,PassesOwn (model X.prog X.w) X.A X.env xe->gF (X.lH pn xe) body (tb (X.lH pn xe)))
  (O:∀aa Y H s a g cls x D,Inv X aa Y H s->Old X aa g->pV g H s.heap a cls x->hd D Y cls x H->wpAny (model X.prog X.w) X.A (handleBy (.ref a) X.env [h₀]) (SP X aa D) X.xe s) :
  PS X (.Try body [h₀] [] [] pos) (Kw X hd tb):=by
 intro aa s Y H D I h;refine wpAny_Try_except ?_;have B:=R aa (λ e c=>wpAny (model X.prog X.w) X.A (noteFrame e X.env) (λ _ m=>wpAny (model X.prog X.w) X.A (setFlight e none) (λ _ l=>wpAny (model X.prog X.w) X.A (handleBy e X.env [h₀]) (SP X aa D) X.xe l) X.xe m) X.xe c) PassesOwn.looking
  [] s Y H D I.lH (h aa _ fun y cls x U q Z V a g T t L=>landed N F J T.pW ⟨t.1,λ p G=>t.2 p (NY _ G)⟩ L λ h' S E=>O aa y U _ a g cls x D S ⟨t.1,λ p G=>t.2 p (NY _ G)⟩ E q)
 refine MV B (λ f c q=>?_) λ _ _ z=>z;cases f with
 |next=>
  let⟨b,k,j,d⟩:=q;exact sE aa c b k D j.pW d
 |brk=>
  let⟨b,k,j,d⟩:=q;exact⟨b,k,j.pW,d⟩
 |cont=>
  let⟨b,k,j,d⟩:=q;exact⟨b,k,j.pW,d⟩
 |ret u=>
  let⟨v,b,k,j,r,d⟩:=q;exact⟨v,b,k,j.pW,r,d⟩
theorem Ky(hx:X.ex=[])(y:X.N.Nodup)(x:X.N[i]?=some n)(t:X.env.kindOf n=some .local)(p:XC X.K P Ar jP)(hg:Gl X cn)(hm:X.mg cn=@(.ref P))
  (hs:∀a pn,gF (X.jD (.ref a) pn pX) (b₀::suite) (ts (X.jD (.ref a) pn pX))) (O:(cn==("__debug__":Str))=false:=by decide)
  (aa:List (Addr×Obj)) (Y:St) (H:Hp) (s:Shared) (a:Addr) (g:Heap) (B:Value) (T:Option Addr) (D:Ends) (I:Inv X aa Y H s) (S:Old X aa g) (R:pV g H s.heap a B T) (h:L4 X P i ts D Y B T H) :
  wpAny (model X.prog X.w) X.A (handleBy (.ref a) X.env [.ExceptHandler @(.Name cn np) (some n) (b₀::suite) hpos]) (SP X aa D) X.xe s:=by
 let⟨C,bm,j,rfl,c,L,q⟩:=h;refine wpAny_handleBy_cons (codeAny_handlers_test ?_) (by intro z;cases z);refine dG (X:=X.jD (.ref a) aa pX) I.jD hg hm ?_ O;let⟨tb,⟨oe,vs,e1,e2,_⟩,_⟩:=id R;let⟨hp,gg,d,tk,os⟩:=s;refine mP c p I.eS e1 e2 ?_;rw[L];refine codeAny_handlers_suite_as ?_;refine xD hx I S R λ h2 I2 E=>?_;let⟨oa,U,J,I3⟩:=tracked I2 S E;refine jV (X:=X.jD (.ref a) aa pX) (I3.jD (e:=.ref a) (xe:=pX)) y x (.inl t) (v:=V.ref a) rfl (λ Z I4=>?_) (.inr t);refine MV (hs a aa [] Z _ _ _ I4 (q a _ oa U J)) (λ f s5 z=>?_) λ _ _ z=>z.elim;cases f with
 |next=>
  let⟨b,F,m,k⟩:=z;exact name_goes (m.jx I.ok) y x t λ G l=>⟨_,_,l,k⟩
 |brk=>
  let⟨b,F,m,k⟩:=z;exact name_goes (m.jx I.ok) y x t λ G l=>⟨_,_,l,k⟩
 |cont=>
  let⟨b,F,m,k⟩:=z;exact name_goes (m.jx I.ok) y x t λ G l=>⟨_,_,l,k⟩
 |ret u=>
  let⟨v,b,F,m,r,k⟩:=z;exact name_goes (m.jx I.ok) y x t λ G l=>⟨v,_,_,l,r,k⟩
theorem Kz(O:X.ex=[])(p:XC X.K P Ar jP)(T:Gl X cn)(S:X.mg cn=@(.ref P))
  (R:∀a pn,gF (X.jD (.ref a) pn pX) (b₀::suite) (ts (X.jD (.ref a) pn pX))) (E:(cn==("__debug__":Str))=false:=by decide)
  (aa:List (Addr×Obj)) (Y:St) (H:Hp) (s:Shared) (a:Addr) (g:Heap) (t:Value) (J:Option Addr) (D:Ends) (I:Inv X aa Y H s) (G:Old X aa g) (F:pV g H s.heap a t J) (h:L5 X P ts D Y t J H) :
  wpAny (model X.prog X.w) X.A (handleBy (.ref a) X.env [.ExceptHandler @(.Name cn np) none (b₀::suite) hpos]) (SP X aa D) X.xe s:=by
 let⟨C,bm,j,rfl,c,B,q⟩:=h;refine wpAny_handleBy_cons (codeAny_handlers_test ?_) (by intro z;cases z);refine dG (X:=X.jD (.ref a) aa pX) I.jD T S ?_ E;let⟨tb,⟨oe,vs,V,U,_⟩,_⟩:=id F;let⟨hp,gg,d,tk,os⟩:=s;refine mP c p I.eS V U ?_;rw[B];refine codeAny_handlers_suite ?_;refine xD O I G F λ h2 I2 x=>?_;let⟨N,L,y,Z⟩:=tracked I2 G x;refine MV (R a aa [] _ _ _ _ (Z.jD (e:=.ref a) (xe:=pX)) (q a _ N L y)) (λ f s5 z=>?_) λ _ _ z=>z.elim;cases f with
 |next=>
  let⟨b,k,m,l⟩:=z;exact⟨b,k,m.jx I.ok,l⟩
 |brk=>
  let⟨b,k,m,l⟩:=z;exact⟨b,k,m.jx I.ok,l⟩
 |cont=>
  let⟨b,k,m,l⟩:=z;exact⟨b,k,m.jx I.ok,l⟩
 |ret u=>
  let⟨v,b,k,m,r,l⟩:=z;exact⟨v,b,k,m.jx I.ok,r,l⟩
end
section
variable{prog:Program}{w:World}{A:Around}{E:Value->Shared->Prop}{h:Heap}{g:Array GenState}{d:Drawn}{t:Nat}{os:OsState}
variable{nm q:Str}{C N x:Addr}{bs bm:List Value}{sn:List Str}{sub:List Value}{ab:Bool}{col:Option Bool}{dd:Option Addr}{k0 k1 k2 k3 k5:Option Value}{newId:String}{o:Obj}
theorem rM{R:Result->Shared->Prop}(f:h.get? C=@(excClassObj nm q C N bs bm true sn sub ab col dd k0 k1 k2 k3 k5 newId))(c:bm.contains (.type "object")=true)(a:h.get? x=some o)(b:o.cls=.ref C)(l:R (.ok (.ret (.ref C))) ⟨h,g,d,t,os⟩) :
  codeAny (model prog w) A (.call (.builtin "getset_descriptor.__get__") ⟨[.builtin "object.__class__",.ref x,.ref C],[]⟩) R ⟨h,g,d,t,os⟩:=by
 have j:(⟨h,g,d,t,os⟩:Shared).TypeIs (.builtin "object.__class__") "getset_descriptor":=Ou;have k:(Value.ref C::bm).contains (.type (".".intercalate ("object.__class__".cutAt '.').dropLast))=true:=by rw[PySem.F.owner_object_class,O4,c,Ph]
 refine Oz PySem.F.slot_gs_get.plain PySem.F.entry_gs_get (PySem.F.slot_gs_get.check _ _ _ _ _ _ _ _ j (PySem.F.args_gs_get _ _ _) ?_)
 repeat (any_goals (first | assumption | (with_reducible refine MZ a ?_;rw[b]) | (with_reducible refine NO f ?_;rw[k]) | wp_step))
 refine⟨PD _ 'k',codeAny_builtin PySem.F.entry_object_class ?_⟩
 repeat (any_goals (first | assumption | (with_reducible refine MZ a ?_;rw[b]) | wp_step))
theorem nV{Q:Fin->Shared->Prop}(j:h.get? C=@(excClassObj nm q C N bs bm true sn sub ab col dd k0 k1 k2 k3 k5 newId))(f:bm.contains (.type "object")=true)(c:PySem.W.Looks (model prog w) h (typeLookup (.ref C) "__class__") @(.builtin "object.__class__"))
  (a:h.get? x=some o) (b:o.cls=.ref C) (k:Q (.done (.ret (.ref C))) ⟨h,g,d,t,os⟩):wpAny (model prog w) A (Builtin.«object.__getattribute__» ⟨[.ref x,.str "__class__" tk],[]⟩) Q E ⟨h,g,d,t,os⟩:=by
 have p:(⟨h,g,d,t,os⟩:Shared).TypeIs (.builtin "object.__class__") "getset_descriptor":=Ou;have n:=Ou;have m:=PySem.F.slot_gs_get.lookup;have l:=PySem.F.slot_gs_set.lookup
 repeat (any_goals (first | assumption | (with_reducible refine MZ a ?_;rw[b]) | with_reducible refine NQ c ?_ | wp_step))
 refine rM j f a b ?_
 repeat (any_goals (first | assumption | wp_step))
theorem u0{Q:Value->Shared->Prop}(j:h.get? C=@(excClassObj nm q C N bs bm true sn sub ab col dd k0 k1 k2 k3 k5 newId))(l:bm.contains (.type "object")=true)(m:bm.contains (.type "BaseException")=true)
  (k:PySem.W.Looks (model prog w) h (typeLookup (.ref C) "__class__") @(.builtin "object.__class__")) (c:PySem.W.Looks (model prog w) h (typeLookup (.ref C) "__getattribute__") @(.builtin "BaseException.__getattribute__")) (b:PySem.W.Looks (model prog w) h (typeLookup (.ref C) "__getattr__") none)
  (a:h.get? x=some o) (f:o.cls=.ref C) (p:Q (.ref C) ⟨h,g,d,t,os⟩):wpAny (model prog w) A (getAttrBy (.ref x) (.str "__class__" tk) false) Q E ⟨h,g,d,t,os⟩:=by
 have r:=PySem.F.excAttr_ValueError.ga.bind (.ref x);have n:(Value.builtin "BaseException.__getattribute__"==Value.builtin "object.__getattribute__")=false:=by decide +kernel
 have u:(onTheHeap (Value.ref C)&&Value.builtin "BaseException.__getattribute__"==Value.builtin "object.__getattribute__")=false:=by rw[n];rfl
 repeat (any_goals (first | assumption | (with_reducible refine MZ a ?_;rw[f]) | with_reducible refine NQ c ?_ | with_reducible refine NQ b ?_ | wp_step))
 refine Oz PySem.F.excAttr_ValueError.ga.plain Qm (iI j m a f (nV j l k a f ?_))
 repeat (any_goals (first | assumption | wp_step))
theorem pY{Q:Option Value->Shared->Prop}(l:h.get? C=@(excClassObj nm q C N bs bm true sn sub ab col dd k0 k1 k2 k3 k5 newId))(k:bm.contains (.type "object")=true)(m:bm.contains (.type "BaseException")=true)
  (f:PySem.W.Looks (model prog w) h (typeLookup (.ref C) "__class__") @(.builtin "object.__class__")) (b:PySem.W.Looks (model prog w) h (typeLookup (.ref C) "__getattribute__") @(.builtin "BaseException.__getattribute__")) (a:PySem.W.Looks (model prog w) h (typeLookup (.ref C) "__getattr__") none)
  (c:h.get? x=some o) (j:o.cls=.ref C) (n:Q @(.ref C) ⟨h,g,d,t+1,os⟩):wpAny (model prog w) A (getAttr? (.ref x) "__class__") Q E ⟨h,g,d,t,os⟩:=by
 unfold getAttr? getAttrBy?
 repeat (any_goals (first | assumption | with_reducible apply u0 l k m f b a c j | wp_step))
end
structure XG(K:ae)(C:Addr):Prop where
 ga:PySem.W.findIn K (.ref C) "__getattribute__"=@(some (.builtin "BaseException.__getattribute__"))
 gt:PySem.W.findIn K (.ref C) "__getattr__"=some none
 kl:PySem.W.findIn K (.ref C) "__class__"=@(some (.builtin "object.__class__"))
theorem pZ{x:Addr}(c:XC K C bm i)(r:XG K C):PySem.W.KitX K (.ref x) (.ref C) (λ h=>∃o,h.get? x=some o/\o.cls=.ref C):=by
 let⟨U,q,N,bs,L,u,ab,I,G,k0,k1,k2,k3,Z,Bn,a,y,J,V,f,Fn,D,hi,T⟩:=c.ex;refine⟨λ M h X p=>?_,λ M h X p=>?_,λ h m G v n O X b=>?_,λ {prog w A E Q s} X p k=>?_⟩
 .let⟨o,l,j⟩:=p;exact j▸(PySem.W.Looks.ld l).andThen .now
 .intro A' Q' E' R k q;unfold isType loadHead;exact MF (wpAny_loadPart (k _ _ (X _ _ f)) (MP q))
 .refine Bool.eq_false_iff.mpr λ q=>?_;have e:C=m:=Value.ref.inj (Ny.mp q);subst e;have z:=OE Obj.data (Nd ((X _ _ f).symm.trans b));cases z
 .let⟨o,l,j⟩:=p;let⟨hh,g,d,t,S⟩:=s;have B:bm.contains (.type "object")=true:=(T _ X).2.hasType (show VE.contains (.type "object")=true from by decide);have F:bm.contains (.type "BaseException")=true:=(T _ X).2.hasType (show VE.contains (.type "BaseException")=true from by decide);exact pY (X _ _ f) B F (Nr X r.kl) (Nr X r.ga) (Nr X r.gt) l j k
section
variable{X:Cx}
theorem xF:cg X (.builtin "isinstance") (λ xs H Q=>∃a C f d bm j y u b,xs=[.ref a,y]/\H a=some (iH a d)/\Au C f d/\XC X.K C bm j/\XG X.K C/\(∀u',RelV y u'->u'=u)/\PySem.W.kitOne X.K (.ref C) u=some b/\Q (.bl b) H):=by
 intro aa s Y H xs v Q I m h;let⟨a,C,f,d,bm,j,y,u,b,rfl,t,g,c,r,q,e,k⟩:=h;let⟨l,w,rfl,p,n⟩:=vals2 m;obtain rfl:l=Value.ref a:=p;obtain rfl:=q _ n;exact PySem.W.kia_one (pZ c r) I.eS ⟨d,gI I.hok t,g.1⟩ e (λ z=>nomatch z) λ tk=>⟨.bl b,H,I.tok tk,rfl,k⟩
theorem u5:cg X (.builtin "isinstance") (λ xs H Q=>∃a C p f bm j tp ys vs b,xs=[.ref a,.ref tp]/\H a=some (iH a f)/\Au C p f/\XC X.K C bm j/\XG X.K C/\H tp=some (.tup ys)/\(∀d,Vals ys d->d=vs)/\PySem.W.kitAny X.K (.ref C) vs=some b/\Q (.bl b) H):=by
 intro aa s Y H xs O Q I x h;let⟨a,C,p,f,bm,j,tp,ys,vs,b,rfl,J,t,c,r,G,F,e,k⟩:=h;let⟨v,u,rfl,A,y⟩:=vals2 x;obtain rfl:v=Value.ref a:=A;obtain rfl:u=Value.ref tp:=y;let⟨_,l,q,o,N,L,m⟩:=(show aW X.prog X.w H s.heap tp (.tup ys) from I.hok tp _ G);obtain rfl:=F _ q;let⟨E,D,g,B⟩:=o;let⟨n,m⟩:=m;obtain rfl:E=Value.type "tuple":=L;obtain rfl:g=Data.seq l.toArray n:=m;exact PySem.W.kia_tup (pZ c r) I.eS ⟨f,gI I.hok J,t.1⟩ N e (λ z=>nomatch z) λ tk=>⟨.bl b,H,I.tok tk,rfl,k⟩
def KA(K:ae)(k:TE)(f:Str):TE:=fun Y H Q=>k Y H λ x b=>∃a C g c bm j d y,x=.ref a/\b a=some (iH a c)/\Au C (some g) c/\XC K C bm j/\XG K C/\PySem.W.findIn K (.ref C) f=some none/\b g=some (.xd d)/\d.lookup f=some y/\Q y b
theorem D8{e:Expr}{f:Str}{pos:Pos}{m:TE}(he:PE X e m)(hb:attributeBase e f X.env (eval e X.env)=eval e X.env):PE X (.Attribute e f pos) (KA X.K m f):=by
 intro aa s Y H Q I h;refine sI hb (br (he aa s Y H _ I h) λ u n ⟨x,A,b,J,a,C,z,oa,bm,j,fs,y,ex,ha,⟨E,D,vs,B⟩,c,r,L,hd,l,q⟩=>?_);subst ex;obtain rfl:u=Value.ref a:=J;let⟨R,O,V⟩:=(show aW X.prog X.w A n.heap z (.xd fs) from b.hok z _ hd);let⟨u,U,p⟩:=eO.some_of (v:=y) (o:=R f) (by rw[<-l];exact V f);let⟨nm,q',N,bs,sn,G,ab,col,dd,k0,k1,k2,k3,k5,Bn,k,S,bmN,mN,hC,Fn,hBn,hi,T⟩:=c.ex;have hB:bm.contains (.type "BaseException")=true:=(T _ b.eS).2.hasType (show VE.contains (.type "BaseException")=true from by decide);have Z:=gI b.hok ha;let⟨hh,g,d,t,os⟩:=n;exact xC PySem.F.excAttr_ValueError (b.eS _ _ hC) hB (Nr b.eS r.ga) (Nr b.eS r.gt) (Nr b.eS L) Z E B D O U
  (PySem.W.handedOut_of (lZ p)) ⟨y,A,b.tok _,p,q⟩
end
def zq(X:Cx)(Y:St):XK:=λ a b H=>jC X Y a b H
def rN(X:Cx)(sp:Sp)(b:List V)(t:TA):TE:=fun Y H Q=>t Y H λ a c=>sp (a++b) c Q (zq X Y)
def rO(X:Cx)(C:Addr)(sp:Sp)(d:List V)(t:TA):TE:=fun Y H Q=>t Y H λ c b=>∀x a,b x=none->b a=none->a≠x->
 sp (.ref x::(c++d)) (upd (upd b a (.own x)) x (.ins C a [])) (λ v f=>v=.non/\Q (.ref x) f) (zq X Y)
section
variable{X:Cx}{k:Nat}{f C:Addr}{fd:FuncData}{ps:List Str}{sp:Sp}{gP:List V}{ds:List Value}{x m:Str}{p pos apos:Pos}{e o:Expr}{es:List Expr}{ta:TE}{t:TA}
theorem Av{Q:VK}{us:List Value}{vs:List V}(c:X.ex=[])(F:bQ X.prog X.w X.K X.mg X.base (kH X.prog X.w) k f fd ps sp)(d:bI k X.A)(l:Binds X.K fd ps ds)(j:Vals gP ds)
  (I:Inv X aa Y H s) (r:Vals vs us) (h:sp (vs++gP) H Q (zq X Y)):wpAny (model X.prog X.w) X.A (call (.ref f) us) (EP X aa Y Q) X.xe s:=by
 have b:Vals (vs++gP) (us++ds):=r.append j;have g:(us++ds).length=ps.length:=by rw[<-b.length];exact F.len _ _ _ _ h
 refine Px (NT (F.run X.A X.stack s H ⟨us,[]⟩ (us++ds) (vs++gP) Q (zq X Y) d I.wB (l s us I.eS g) b h) λ r n a=>?_);cases r with
 |error e=>exact BU c (λ _ _ _ z=>z) I a
 |ok fl=>
  cases fl with
  |ret u=>exact I.after a
  |next=>exact False.elim a
  |brk=>exact False.elim a
  |cont=>exact False.elim a
theorem xG(d:X.ex=[])(F:bQ X.prog X.w X.K X.mg X.base (kH X.prog X.w) k f fd ps sp)(g:bI k X.A)(n:Gl X x)(j:X.mg x=@(.ref f))(l:PySem.W.keepIn X.K (.ref f)=true)(y:Binds X.K fd ps ds)(v:Vals gP ds)
  (z:PA X (e::es) t) (b:(x==("__debug__":Str))=false:=by decide) (u:starEach (e::es) X.env=(false,eval e X.env)::starEach es X.env:=by rfl) (a:(backTo pos (starEach es X.env)).any (·.1)=false:=by rfl) :
  PE X (.Call (.Name x p) (e::es) [] pos) (rN X sp gP t):=by
 intro aa s Y H Q I h;refine Nt (dG I n j ?_ b);refine NP (h₀:=X.base) I.ok.mod.kin l (br (z pos aa s Y H _ I h) λ D E ⟨B,G,c,r,q⟩=>⟨c.eS,?_⟩) u a;exact Av d F g y v c r q
theorem u6{Q:VK}{us:List Value}{vs:List V}(l:X.ex=[])(M:Mk X.K C f)(F:bQ X.prog X.w X.K X.mg X.base (kH X.prog X.w) k f fd ps sp)(n:bI (k+1) X.A)(B:Binds X.K fd ps ds)(y:Vals gP ds)
  (I:Inv X aa Y H s) (r:Vals vs us)
  (h:∀x dx,H x=none->H dx=none->dx≠x->sp (.ref x::(vs++gP)) (upd (upd H dx (.own x)) x (.ins C dx [])) (λ v G=>v=.non/\Q (.ref x) G) (zq X Y)) :
  wpAny (model X.prog X.w) X.A (call (.ref C) us) (EP X aa Y Q) X.xe s:=by
 have d:=h (s⁻¹+1) s⁻¹ (I.hok.fresh (NW _)) (I.hok.fresh (MK _)) (MQ (Ob _));have b:=Inv.made (C:=C) I;have c:Vals (V.ref (s⁻¹+1)::(vs++gP)) (Value.ref (s⁻¹+1)::(us++ds)):=.cons rfl (r.append y);have q:(Value.ref (s⁻¹+1)::us++ds).length=ps.length:=by
  have e:=c.length;rw[F.len _ _ _ _ d] at e;exact e.symm
 refine Px (oX (f:=f) I.eS M.makes M.init (Ny.mp M.fn) (NT (F.run _ X.stack _ _ ⟨Value.ref (s⁻¹+1)::us,[]⟩ (Value.ref (s⁻¹+1)::(us++ds)) _ _ (zq X Y) (n.make C us [])
  (b.wB.make C us []) (B _ (Value.ref (s⁻¹+1)::us) b.eS q) c d) λ r L a=>?_))
 cases r with
 |error e=>exact BU l (λ _ _ _ z=>z) b a
 |ok fl=>
  cases fl with
  |ret u=>
   let⟨v,J,E,g,D,j⟩:=b.after a;subst D;exact⟨g,⟨V.ref (s⁻¹+1),J,E,rfl,j⟩⟩
  |next=>exact False.elim a
  |brk=>exact False.elim a
  |cont=>exact False.elim a
theorem xH(d:X.ex=[])(M:Mk X.K C f)(F:bQ X.prog X.w X.K X.mg X.base (kH X.prog X.w) k f fd ps sp)(g:bI (k+1) X.A)(l:Gl X x)(j:X.mg x=@(.ref C))(v:Binds X.K fd ps ds)(u:Vals gP ds)
  (y:PA X (e::es) t) (b:(x==("__debug__":Str))=false:=by decide) (n:starEach (e::es) X.env=(false,eval e X.env)::starEach es X.env:=by rfl) (a:(backTo pos (starEach es X.env)).any (·.1)=false:=by rfl) :
  PE X (.Call (.Name x p) (e::es) [] pos) (rO X C sp gP t):=by
 intro aa s Y H Q I h;refine Nt (dG I l j ?_ b);refine NP (h₀:=X.base) I.ok.mod.kin M.kp (br (y pos aa s Y H _ I h) λ B D ⟨z,E,c,r,q⟩=>⟨c.eS,?_⟩) n a;exact u6 d M F g v u c r q
end
theorem BK.L6{w:World}{j:Str->Option Value}{base:Heap}{x qual:Str}{st:Stmt}{f:Addr}{l:FuncData}{N c:List Str}{k:Nat}{sp:Sp}(F:BK K x qual st f l)(S:fW N c (aE st))(d:∀vs H Q E,sp vs H Q E->vs.length=c.length)
  (b:∀(a:Value) (A:Around) (outer:List Env) (s:Shared) (H:Hp) (vs:List V) (Q:VK) (E:XK),bI k (A.deeper (envOfC qual (aE st) s⁻¹ f a))->sp vs H Q E->
   ∃t,gF (iz (kH P w) P w K j base N qual (aE st) f a A outer s H E) (cj st) t/\t {nx:=λ _ u=>Q .non u,rt:=Q} (start N vs) H):bQ P w K j base (kH P w) (k+1) f l c sp:=by
 let⟨z,y,B,r,v,G,a,D,n,rfl,p,g⟩:=F.ex;exact BG p g S d λ A outer s H vs Q E q m=>b a A outer s H vs Q E q m
theorem Aw{w:World}{G:Str->Option Value}{base:Heap}{x qual:Str}{st:Stmt}{z:FuncData}{b v d:Str}{u r p n:Pos}{k:Nat}(F:BK K x qual st fa z)(S:fW [b,v] [b,v] (aE st))
  (m:cj st=[.Assign [.Attribute (.Name b u) d r] (.Name v p) n]) (c:XC K C bm i) (D:PySem.W.findIn K (.ref C) d=some none) (j:BA (aE st) b) (g:BA (aE st) v)
  (T:(b==("__debug__":Str))=false) (R:(b==("__classdict__":Str))=false) (O:(v==("__debug__":Str))=false) (N:(v==("__classdict__":Str))=false)
  (I:∀env:Env,swapsWith (.Name v p) @(.Attribute (.Name b u) d r) n.line env=pure false):bQ P w K G base z9 (k+1) fa z [b,v] (FE C d):=by
 refine F.ok S (λ B H Q E h=>?_) (λ Z A f s H B Q E hr h=>?_)
 .let⟨a,t,y,rfl,_⟩:=h;rfl
 .let⟨a,t,y,rfl,L,q⟩:=h;rw[m];refine⟨_,zA (Am c D (qN (i:=0) rfl j T R) (qN (i:=1) rfl g O N) (I _)),?_⟩;exact⟨y,rfl,V.ref a,rfl,a,t,rfl,L,λ U J l=>q U J l⟩
end L2
end
section
namespace D
open PySem PySem.Spec PyProof.Rows L2 List
variable{H H2:Hp}{d p:Addr}{e:Expr}{n:Nat}{o:O}{v:V}{vs:List V}{ws:List W}{Δ:Option Addr}{J β2:List Addr}{Y:L2.St}
def p6(K:ae)(H:Hp)(a:Addr)(xs:List V):Prop:=(∃o,H a=@(.frz o (.lst xs)))\/
 ∃(o:Obj) (b:Array Value) (n:Nat),K.lookup a=some o/\o.cls=.type "list"/\o.dict=none/\o.data=.seq b n/\b.size<=sizeLine/\Vals xs b.toList
theorem p6.l{K:ae}{a:Addr}{xs:List V}(h:p6 K H a xs):gk K H a xs:=h.elim (λ ⟨o,e⟩=>.inl (.inr ⟨o,e⟩)) .inr
def ah(K:ae)(c:Str):Addr:=match PySem.W.nsIn K mainGlobals c with
 |some (some (.ref C))=>C
 |_=>0
set_option genInjectivity false in
structure Cl where
 P:Program
 w:World
section
variable(K:ae)(cl:Cl)
mutual
inductive RW(J:List Addr)(H:Hp):W->V->Prop
 |non:RW J H .non .non
 |bl (b:Bool):RW J H (.bl b) (.bl b)
 |int (i:Int):RW J H (.int i) (.int i)
 |str (x:Str):RW J H (.str x) (.str x)
 |tup {a vs xs}:dQ K H a vs->aJ J H xs vs->RW J H (.tup xs) (.ref a)
 |fz {a vs xs}:p6 K H a vs->aJ J H xs vs->RW J H (.fz xs) (.ref a)
 |obj {a c ks xs dx o fs}:H a=some (.frz o (.ins (ah K c) dx fs))->ks=fs.map (·.1)->aJ J H xs (fs.map (·.2))->RW J H (.obj c ks xs) (.ref a)
 |ref {n a}:J[n]?=some a->RW J H (.ref n) (.ref a)
inductive aJ(J:List Addr)(H:Hp):List W->List V->Prop
 |nil:aJ J H [] []
 |cons {w:W} {v:V} {ws:List W} {vs:List V}:RW J H w v->aJ J H ws vs->aJ J H (w::ws) (v::vs)
end
inductive fS(J:List Addr)(H:Hp):List (Str×W)->List (Str×V)->Prop
 |nil:fS J H [] []
 |cons {f w v ws vs}:RW K J H w v->fS J H ws vs->fS J H ((f,w)::ws) ((f,v)::vs)
def keyed(a:List (Str×V)):List (Key×V):=a.map λ p=>(.inr p.1,p.2)
def XD(H:Hp)(a:Option Addr)(f:Str)(vs:List V):Prop:=(a=none/\vs=[])\/∃b y,a=some b/\vs=[y]/\H b=@(.xd [(f,y)])
def RO(J:List Addr)(H:Hp)(a:Addr):O->Prop
 |.lst ws=>∃vs,H a=some (.lst vs)/\aJ K J H ws vs
 |.ins c fs=>∃dx fs',H a=some (.ins (ah K c) dx fs')/\fS K J H fs fs'
 |.set ks=>∃S,H a=some (j8 cl.P cl.w a S ks.length)/\∀k,S k=j9 k ks
 |.dic fs=>∃fs',H a=some (.dK (keyed fs'))/\fS K J H fs fs'
 |.exc c f ws=>∃g b vs,H a=some (iH a g)/\Au (ah K c) b g/\aJ K J H ws vs/\XD H b f vs
structure Rel(J:List Addr)(m:Mem)(H:Hp):Prop where
 len:J.length=m.length
 nd:J.Nodup
 obj:∀{n:Nat} {o:O} {a:Addr},m[n]?=some o->J[n]?=some a->RO K cl J H a o
structure cC(Δ:Option Addr)(J:List Addr)(H:Hp)(J':List Addr)(H':Hp):Prop where
 pre:∃γ,J'=J++γ/\∀a∈γ,H a=none
 keep:∀{a:Addr} {o:HO},H a=some o->a∉J->some a≠Δ->H' a=some o
abbrev Ext:=cC none
structure RL(J:List Addr)(H:Hp)(Z:Loc)(Y:L2.St):Prop where
 len:Z.length=Y.length
 at_:∀{i:Nat} {w:W},Z[i]?=some (some w)->∃v,Y[i]?=some (some v)/\RW K J H w v
end
section
variable{K:ae}{cl:Cl}{J J' J'':List Addr}{H H' sW:Hp}{m m':Mem}{a:Addr}
theorem Rel.mem(r:Rel K cl J m H)(h:a∈J):∃(n:Nat) (o:O),J[n]?=some a/\m[n]?=some o/\RO K cl J H a o:=by
 let⟨n,b⟩:=Qj h;have c:n<m.length:=by
  have:=(MG.mp b).1;rw[r.len] at this;exact this
 exact⟨n,m[n],b,by simp[c],r.obj (by simp[c]) b⟩
theorem RO.ex(h:RO K cl J H a o):∃u,H a=some u/\(∀xs,u≠.tup xs)/\∀g x,u≠.frz g x:=by
 cases o with
 |lst ws=>let⟨vs,e,_⟩:=h;exact⟨_,e,(by intro _ z;cases z),(by intro _ _ z;cases z)⟩
 |ins c fs=>let⟨l,b,e,_⟩:=h;exact⟨_,e,(by intro _ z;cases z),(by intro _ _ z;cases z)⟩
 |set k=>let⟨S,e,_⟩:=h;exact⟨_,e,(by intro _ z;cases z),(by intro _ _ z;cases z)⟩
 |dic fs=>let⟨b,e,_⟩:=h;exact⟨_,e,(by intro _ z;cases z),(by intro _ _ z;cases z)⟩
 |exc c f ws=>let⟨j,i,vs,e,_⟩:=h;exact⟨_,e,(by intro _ z;cases z),(by intro _ _ z;cases z)⟩
theorem RO.HE(h:RO K cl J H a o)(g:List (Str×V)):H a≠some (.xd g):=λ q=>by
 cases o with
 |lst ws=>let⟨vs,e,_⟩:=h;rw[q] at e;cases e
 |ins c g=>let⟨l,b,e,_⟩:=h;rw[q] at e;cases e
 |set k=>let⟨S,e,_⟩:=h;rw[q] at e;cases e
 |dic g=>let⟨b,e,_⟩:=h;rw[q] at e;cases e
 |exc c f ws=>let⟨j,i,vs,e,_⟩:=h;rw[q] at e;cases e
theorem Rel.HE(r:Rel K cl J m H){b:List (Str×V)}(e:H a=@(.xd b)):a∉J:=λ h=>by
 let⟨n,o,_,_,x⟩:=r.mem h;exact x.HE b e
theorem Rel.ex(r:Rel K cl J m H)(h:a∈J):∃u,H a=some u/\(∀xs,u≠.tup xs)/\∀b x,u≠.frz b x:=by
 let⟨n,o,_,_,x⟩:=r.mem h;exact x.ex
theorem Ext.refl:cC Δ J H J H:=⟨⟨[],by simp,by simp⟩,λ h _ _=>h⟩
theorem cC.trans(x:cC Δ J H J' H')(k:Rel K cl J' m' H')(y:cC Δ J' H' J'' sW)(q:∀d,Δ=some d->H' d≠none:=by intro d z;cases z):cC Δ J H J'' sW:=by
 let⟨j,rfl,c⟩:=x.pre;let⟨i,rfl,b⟩:=y.pre;refine⟨⟨j++i,by simp,λ a l=>?_⟩,λ {a o} h hn f=>?_⟩
 .rcases Nc.mp l with z | z
  .exact c a z
  .by_cases g:a∈J
   .let⟨u,e,_⟩:=k.ex (NY _ g);rw[b a z] at e;cases e
   .cases e:H a with
    |none=>rfl
    |some o=>
     by_cases f:some a=Δ
     .exact absurd (b a z) (q a f.symm)
     .have:=x.keep e g f;rw[b a z] at this;cases this
 .refine y.keep (x.keep h hn f) (λ z=>?_) f;rcases Nc.mp z with z | z
  .exact hn z
  .rw[c a z] at h;cases h
def ja:Option HO->Prop
 |some (.lst _)=>True
 |some (.dK _)=>True
 |_=>False
theorem cC.toD(x:Ext J H J' H'):cC (some d) J H J' H':=⟨x.pre,λ h b _=>x.keep h b 's'⟩
theorem cC.Jj(x:cC Δ J H J' H')(r:Rel K cl J m H)(i:∀d,Δ=some d->ja (H d))(h:dQ K H a vs):dQ K H' a vs:=by
 rcases h with h | h
 .refine .inl ?_;have c:a∉J:=λ z=>by
   let⟨u,e,g,f⟩:=r.ex z;rcases h with h | ⟨o,h⟩
   .rw[h] at e;cases e;exact g _ rfl
   .rw[h] at e;cases e;exact f _ _ rfl
  have b:some a≠Δ:=λ z=>by
   have e:=i a z.symm;rcases h with h | ⟨o,h⟩
   .rw[h] at e;exact e
   .rw[h] at e;exact e
  rcases h with h | ⟨o,h⟩
  .exact .inl (x.keep h c b)
  .exact .inr ⟨o,x.keep h c b⟩
 .exact .inr h
theorem cC.L7(x:cC Δ J H J' H')(r:Rel K cl J m H)(c:∀d,Δ=some d->ja (H d))(h:p6 K H a vs):p6 K H' a vs:=by
 rcases h with⟨o,h⟩ | h
 .refine .inl ⟨o,x.keep h (λ z=>?_) λ z=>?_⟩
  .let⟨u,e,f,b⟩:=r.ex z;rw[h] at e;cases e;exact b _ _ rfl
  .have e:=c a z.symm;rw[h] at e;exact e
 .exact .inr h
theorem cC.fz(x:cC Δ J H J' H')(r:Rel K cl J m H)(c:∀d,Δ=some d->ja (H d)){o:Obj}{u:HO}(h:H a=@(.frz o u)):H' a=some (.frz o u):=by
 refine x.keep h (λ z=>?_) λ z=>?_
 .let⟨u,e,f,b⟩:=r.ex z;rw[h] at e;cases e;exact b _ _ rfl
 .have e:=c a z.symm;rw[h] at e;exact e
theorem cC.get(x:cC Δ J H J' H')(h:J[n]?=some a):J'[n]?=some a:=by
 let⟨b,rfl,_⟩:=x.pre;rw[ML (MG.mp h).1];exact h
theorem RW.gen(c:∀{a:Addr} {vs:List V},dQ K H a vs->dQ K H2 a vs)(j:∀{a:Addr} {vs:List V},p6 K H a vs->p6 K H2 a vs)(g:∀{a:Addr} {o:Obj} {u:HO},H a=some (.frz o u)->H2 a=@(.frz o u))(f:∀{n:Nat} {a:Addr},J[n]?=some a->β2[n]?=some a){w:W}(q:RW K J H w v):RW K β2 H2 w v:=
 RW.rec (motive_1:=λ w v _=>RW K β2 H2 w v) (motive_2:=λ w v _=>aJ K β2 H2 w v) .non .bl .int .str (λ h _ i=>.tup (c h) i) (λ h _ i=>.fz (j h) i) (λ h e _ i=>.obj (g h) e i) (λ h=>.ref (f h)) .nil (λ _ _ a b=>.cons a b) q
theorem aJ.u7(f:∀{w:W} {v:V},RW K J H w v->RW K β2 H2 w v){w:List W}{v:List V}(q:aJ K J H w v):aJ K β2 H2 w v:=by
 induction w generalizing v with
 |nil=>cases q;exact .nil
 |cons x w c=>cases q with | cons a b=>exact .cons (f a) (c b)
theorem fS.u7(f:∀{w:W} {v:V},RW K J H w v->RW K β2 H2 w v){w:List (Str×W)}{v:List (Str×V)}(q:fS K J H w v):fS K β2 H2 w v:=by
 induction q with
 |nil=>exact .nil
 |cons a b c=>exact .cons (f a) c
theorem RW.bU(r:Rel K cl J m H)(b:∀d,Δ=some d->ja (H d))(x:cC Δ J H J' H'){w:W}(q:RW K J H w v):RW K J' H' w v:=
 q.gen (x.Jj r b) (x.L7 r b) (x.fz r b) x.get
theorem aJ.bU(r:Rel K cl J m H)(b:∀d,Δ=some d->ja (H d))(x:cC Δ J H J' H'){w:List W}{v:List V}(q:aJ K J H w v):aJ K J' H' w v:=q.u7 (RW.bU r b x)
theorem zu{P:Addr->Prop}:∀d,(none:Option Addr)=some d->P d:=λ d z=>by cases z
theorem RW.mono(r:Rel K cl J m H)(x:Ext J H J' H'){w:W}(h:RW K J H w v):RW K J' H' w v:=h.bU r zu x
theorem aJ.mono(r:Rel K cl J m H)(x:Ext J H J' H'){w:List W}{v:List V}(h:aJ K J H w v):aJ K J' H' w v:=h.bU r zu x
theorem fS.bU(r:Rel K cl J m H)(b:∀d,Δ=some d->ja (H d))(x:cC Δ J H J' H'){w:List (Str×W)}{v:List (Str×V)}(q:fS K J H w v):fS K J' H' w v:=q.u7 (RW.bU r b x)
theorem RL.bU(r:Rel K cl J m H)(b:∀d,Δ=some d->ja (H d))(x:cC Δ J H J' H'){Z:Loc}(l:RL K J H Z Y):RL K J' H' Z Y:=
 ⟨l.len,λ h=>let ⟨v,e,q⟩:=l.at_ h;⟨v,e,q.bU r b x⟩⟩
theorem RL.mono(r:Rel K cl J m H)(x:Ext J H J' H'){Z:Loc}(l:RL K J H Z Y):RL K J' H' Z Y:=l.bU r zu x
theorem RO.bU(r:Rel K cl J m H)(i:∀d,Δ=some d->ja (H d))(x:cC Δ J H J' H')(g:H' a=H a)(h:RO K cl J H a o):RO K cl J' H' a o:=by
 cases o with
 |lst ws=>let⟨vs,e,t⟩:=h;exact⟨vs,g.trans e,t.bU r i x⟩
 |ins c fs=>let⟨j,b,e,t⟩:=h;exact⟨j,b,g.trans e,t.bU r i x⟩
 |set A=>let⟨S,e,t⟩:=h;exact⟨S,g.trans e,t⟩
 |dic fs=>let⟨b,e,t⟩:=h;exact⟨b,g.trans e,t.bU r i x⟩
 |exc c f ws=>
  let⟨s,q,vs,e,l,t,d⟩:=h;refine⟨s,q,vs,g.trans e,l,t.bU r i x,?_⟩;rcases d with d | ⟨j,y,w,u,k⟩
  .exact .inl d
  .refine .inr ⟨j,y,w,u,x.keep k (r.HE k) λ z=>?_⟩;have e:=i j z.symm;rw[k] at e;exact e
theorem RO.mono(r:Rel K cl J m H)(x:Ext J H J' H')(b:H' a=H a)(h:RO K cl J H a o):RO K cl J' H' a o:=h.bU r zu x b
theorem aJ.length:∀{ws:List W} {vs:List V},aJ K J H ws vs->ws.length=vs.length
 |_,_,.nil=>rfl
 |_,_,.cons _ t=>by rw[Nh,Nh,aJ.length t]
theorem aJ.get:∀{ws:List W} {vs:List V} {i:Nat} {w:W},aJ K J H ws vs->ws[i]?=some w->∃v,vs[i]?=some v/\RW K J H w v
 |_,_,_,_,.nil,e=>by simp at e
 |_,_,0,_,.cons h t,e=>by simp at e;subst e;exact⟨_,rfl,h⟩
 |_,_,i+1,_,.cons h t,e=>by simpa using aJ.get (i:=i) t (~~~e)
theorem aJ.append:∀{v w:List W} {d e:List V},aJ K J H v d->aJ K J H w e->aJ K J H (v++w) (d++e):=by
 intro v
 induction v with
 |nil=>intro w d e h s;cases h;exact s
 |cons x v b=>intro w d e h s;cases h with | cons q t=>exact .cons q (b t s)
theorem aJ.take:∀{ws:List W} {vs:List V} (n:Nat),aJ K J H ws vs->aJ K J H (ws.take n) (vs.take n)
 |_,_,0,_=>.nil
 |_,_,_+1,.nil=>.nil
 |_,_,n+1,.cons h t=>.cons h (aJ.take n t)
theorem aJ.drop:∀{ws:List W} {vs:List V} (n:Nat),aJ K J H ws vs->aJ K J H (ws.drop n) (vs.drop n)
 |_,_,0,r=>r
 |_,_,_+1,.nil=>.nil
 |_,_,n+1,.cons h t=>aJ.drop n t
theorem aJ.set{w:W}(r:RW K J H w v):∀{ws:List W} {vs:List V} (i:Nat),aJ K J H ws vs->aJ K J H (ws.set i w) (vs.set i v)
 |_,_,_,.nil=>.nil
 |_,_,0,.cons _ t=>.cons r t
 |_,_,i+1,.cons q t=>.cons q (aJ.set r i t)
theorem aJ.bools{f:List Bool}:∀{ws:List W} {vs:List V},aJ K J H ws vs->D.bools ws=Option.some f->vs=f.map V.bl:=by
 induction f with
 |nil=>
  intro ws vs h e;cases h with
  |nil=>rfl
  |cons q t=>cases q<;>simp[D.bools] at e
 |cons b f g=>
  intro ws vs h e;cases h with
  |nil=>simp[D.bools] at e
  |cons q t=>
   cases q with
   |bl c=>
    erw[D.bools,ME] at e;let⟨r,j,i⟩:=e;cases i;rw[g t j];rfl
   |_=>simp[D.bools] at e
theorem RW.sub(h:∀{n:Nat} {a:Addr},J[n]?=Option.some a->J'[n]?=Option.some a){w:W}(q:RW K J H w v):RW K J' H w v:=q.gen id id id h
theorem aJ.sub(h:∀{n:Nat} {a:Addr},J[n]?=Option.some a->J'[n]?=Option.some a){w:List W}{v:List V}(q:aJ K J H w v):aJ K J' H w v:=q.u7 (RW.sub h)
theorem fS.sub(h:∀{n:Nat} {a:Addr},J[n]?=Option.some a->J'[n]?=Option.some a){w:List (Str×W)}{v:List (Str×V)}(q:fS K J H w v):fS K J' H w v:=q.u7 (RW.sub h)
theorem RO.sub(h:∀{n:Nat} {a:Addr},J[n]?=Option.some a->J'[n]?=Option.some a)(q:RO K cl J H a o):RO K cl J' H a o:=by
 cases o with
 |lst ws=>let⟨vs,e,t⟩:=q;exact⟨vs,e,t.sub h⟩
 |ins c fs=>let⟨k,b,e,t⟩:=q;exact⟨k,b,e,t.sub h⟩
 |set l=>exact q
 |dic fs=>let⟨b,e,t⟩:=q;exact⟨b,e,t.sub h⟩
 |exc c f ws=>let⟨j,i,vs,e,g,t,d⟩:=q;exact⟨j,i,vs,e,g,t.sub h,d⟩
theorem Rel.p7(r:Rel K cl J m H)(b:H p=none)(vs:List V):Ext J H J (upd H p (.tup vs))/\Rel K cl J m (upd H p (.tup vs)):=by
 have x:Ext J H J (upd H p (.tup vs)):=⟨⟨[],by simp,by simp⟩,λ h _ _=>by rw[ai (au h b)];exact h⟩;refine⟨x,r.len,r.nd,λ f c=>?_⟩;have q:=r.obj f c;let⟨u,e,_⟩:=q.ex;exact q.mono r x (ai (au e b))
theorem Rel.HF(r:Rel K cl J m H)(b:H p=none):p∉J:=λ z=>by
 let⟨u,e,_⟩:=r.ex z;rw[b] at e;cases e
theorem Rel.xJ(r:Rel K cl J m H){ho:HO}(g:H p=none)(q:∀x:Ext J H (J++[p]) (upd H p ho),RO K cl (J++[p]) (upd H p ho) p o):Ext J H (J++[p]) (upd H p ho)/\Rel K cl (J++[p]) (m++[o]) (upd H p ho):=by
 have x:Ext J H (J++[p]) (upd H p ho):=⟨⟨[p],rfl,λ a i=>by simp at i;rw[i];exact g⟩,λ h _ _=>by rw[ai (au h g)];exact h⟩;refine⟨x,by simp[r.len],?_,λ {n s a} c f=>?_⟩
 .rw[Pj];refine⟨r.nd,by simp,λ a i b k=>?_⟩;simp at k;subst k;rintro rfl;exact r.HF g i
 .by_cases j:n<m.length
  .rw[ML j] at c;rw[ML (by rw[r.len];exact j)] at f;have q:=r.obj c f;let⟨u,e,_⟩:=q.ex;exact q.mono r x (ai (au e g))
  .have l:=(MG.mp c).1;simp at l;have e:n=m.length:=by omega
   subst e;rw[MU (MK _)] at c;rw[<-r.len,MU (MK _)] at f;simp at c f;subst c f;exact q x
theorem Rel.newL(r:Rel K cl J m H)(b:H p=none)(q:aJ K J H ws vs):Ext J H (J++[p]) (upd H p (.lst vs))/\Rel K cl (J++[p]) (m++[.lst ws]) (upd H p (.lst vs)):=
 r.xJ b λ x=>⟨vs,av,q.mono r x⟩
theorem Rel.KC(r:Rel K cl J m H){u':HO}(f:ja (H d))(c:d∉J):cC (Option.some d) J H J (upd H d u')/\Rel K cl J m (upd H d u'):=by
 have x:cC (Option.some d) J H J (upd H d u'):=⟨⟨[],by simp,by simp⟩,λ {a o} h _ na=>by rw[ai (λ z=>na (by rw[z]))];exact h⟩;refine⟨x,r.len,r.nd,λ g b=>?_⟩;have q:=r.obj g b;refine q.bU r (λ i z=>?_) x (ai λ z=>?_)
 .cases z;exact f
 .exact c (by rw[<-z];exact Nm b)
theorem Rel.out(r:Rel K cl J m H){i:O}(l:d∉J)(t:RO K cl J H d i):Rel K cl (J++[d]) (m++[i]) H:=by
 have g:∀{n:Nat} {a:Addr},J[n]?=Option.some a->(J++[d])[n]?=Option.some a:=λ {n a} h=>by
  rw[ML (MG.mp h).1];exact h
 refine⟨by simp[r.len],?_,λ {n o a} c f=>?_⟩
 .rw[Pj];refine⟨r.nd,by simp,λ a q b k=>?_⟩;simp at k;subst k;rintro rfl;exact l q
 .by_cases j:n<m.length
  .rw[ML j] at c;rw[ML (by rw[r.len];exact j)] at f;exact(r.obj c f).sub g
  .have s:=(MG.mp c).1;simp at s;have e:n=m.length:=by omega
   subst e;rw[MU (MK _)] at c;rw[<-r.len,MU (MK _)] at f;simp at c f;subst c f;exact t.sub g
theorem Rel.last(r:Rel K cl J m H)(p:Addr):(J++[p])[m.length]?=Option.some p:=by
 rw[<-r.len,MU (MK _)];simp
theorem Rel.HG(r:Rel K cl J m H){l:List W}{c:List V}(t:m[n]?=Option.some o)(j:J[n]?=Option.some a)(q:aJ K J H l c):Ext J H J (upd H a (.lst c))/\Rel K cl J (m.set n (.lst l)) (upd H a (.lst c)):=by
 have w:a∈J:=Nm j;have x:Ext J H J (upd H a (.lst c)):=⟨⟨[],by simp,by simp⟩,λ {b u} h hn _=>by rw[ai (show b≠a from λ z=>hn (by rw[z];exact w))];exact h⟩;refine⟨x,by simp[r.len],r.nd,λ {k B b} g f=>?_⟩
 by_cases i:n=k
 .subst i;rw[j] at f;cases f;rw[Nb (MG.mp t).1] at g;cases g;exact⟨c,av,q.mono r x⟩
 .rw[M7 i] at g;have s:=r.obj g f;refine s.mono r x (ai ?_);rintro rfl;let⟨D,A⟩:=MG.mp f;let⟨C,y⟩:=MG.mp j;exact i ((Qo r.nd).mp (y.trans A.symm))
theorem Rel.getL(r:Rel K cl J m H){w:W}(q:RW K J H w v)(e:D.getL m w=Option.some ws):∃a vs,v=.ref a/\gk K H a vs/\aJ K J H ws vs:=by
 cases q with
 |ref h=>
  unfold D.getL at e;dsimp only at e;split at e
  .ext c b;cases e;let⟨vs,z,t⟩:=r.obj b h;exact⟨_,vs,rfl,.inl (.inl z),t⟩
  .cases e
 |fz h t=>cases e;exact⟨_,_,rfl,h.l,t⟩
 |_=>simp[D.getL] at e
theorem Rel.aM(r:Rel K cl J m H){w:W}(q:RW K J H w v)(e:D.aM m w=Option.some ws):∃a vs,v=.ref a/\(gk K H a vs\/dQ K H a vs)/\aJ K J H ws vs:=by
 cases w with
 |tup xs=>
  cases q with
  |tup h t=>
   cases e;exact⟨_,_,rfl,.inr h,t⟩
 |_=>
  let⟨a,vs,f,c,b⟩:=r.getL q e;exact⟨a,vs,f,.inl c,b⟩
theorem Rel.lst(r:Rel K cl J m H)(q:RW K J H (.ref n) v)(e:m[n]?=Option.some (.lst ws)):∃a vs,v=.ref a/\J[n]?=Option.some a/\H a=Option.some (.lst vs)/\aJ K J H ws vs:=by
 cases q with
 |ref h=>
  let⟨vs,z,t⟩:=r.obj e h;exact⟨_,vs,rfl,h,z,t⟩
theorem gw{f:W->Option PyData}:∀{ws:List W} {vs:List V} {b:List PyData},(∀w v d,w∈ws->RW K J H w v->f w=Option.some d->Dt K H v d)->aJ K J H ws vs->dH f ws=Option.some b->BN K H vs b
 | [],_,_,_,.nil,e=>by cases e;exact .nil
 |w::ws,_,_,h,.cons q t,e=>by
  unfold dH at e;split at e
  .cases e
  .ext d j;split at e
   .cases e
   .ext b i;cases e;exact .cons (h w _ d Nk q j) (gw (λ c g d' hw=>h c g d' (M3 _ hw)) t i)
theorem fZ(r:Rel K cl J m H):∀(n:Nat) {w:W} {v:V} {d:PyData},RW K J H w v->toD n m w=Option.some d->Dt K H v d
 |0,_,_,_,_,e=>by cases e
 |n+1,w,v,d,q,e=>by
  unfold toD at e;cases q with
  |non=>cases e;exact .non
  |bl b=>cases e;exact .bl b
  |int i=>cases e;exact .int i
  |str x=>
   dsimp only at e;split at e
   .cases e;exact .str x
   .cases e
  |tup h t=>
   erw[ME] at e;let⟨g,f,c⟩:=e;subst c;exact .tup h (gw (λ w v d _ q e=>fZ r n q e) t f)
  |fz h t=>
   erw[ME] at e;let⟨g,f,c⟩:=e;subst c;exact .lst h.l (gw (λ w v d _ q e=>fZ r n q e) t f)
  |obj h y t=>cases e
  |ref h=>
   dsimp only at e;split at e
   .ext xs f;erw[ME] at e;let⟨g,c,u⟩:=e;subst u;let⟨a,vs,s,k,j⟩:=r.getL (.ref h) f;cases s;exact .lst k (gw (λ w v d _ q e=>fZ r n q e) j c)
   .cases e
theorem gx{f:W->Option PyData}:∀{ws:List W} {b:List PyData},(∀w d,f w=Option.some d->d.canLay0=true/\d.depth<=n)->dH f ws=Option.some b->PyData.canLayAll0 b=true/\PyData.depthAll b<=n
 | [],_,_,e=>by cases e;exact⟨rfl,N7 _⟩
 |w::ws,_,h,e=>by
  unfold dH at e;split at e
  .cases e
  .ext d g;split at e
   .cases e
   .ext b c;cases e;let⟨j,l⟩:=h w d g;let⟨i,k⟩:=gx h c;refine⟨by simp[PyData.canLayAll0,j,i],?_⟩;erw[PyData.depthAll];omega
theorem ck:∀(n:Nat) {w:W} {d:PyData},toD n m w=Option.some d->d.canLay0=true/\d.depth<=n
 |0,_,_,e=>by cases e
 |n+1,w,d,e=>by
  unfold toD at e;cases w with
  |non=>cases e;exact⟨rfl,by simp[PyData.depth]⟩
  |bl b=>cases e;exact⟨rfl,by simp[PyData.depth]⟩
  |int i=>cases e;exact⟨rfl,by simp[PyData.depth]⟩
  |str x=>
   dsimp only at e;split at e
   .ext q;cases e;exact⟨q,by simp[PyData.depth]⟩
   .cases e
  |tup xs=>
   erw[ME] at e;let⟨j,h,f⟩:=e;subst f;let⟨g,l⟩:=gx (λ w d e=>ck n e) h;exact⟨g,by erw[PyData.depth];omega⟩
  |fz xs=>
   erw[ME] at e;let⟨j,h,f⟩:=e;subst f;let⟨g,l⟩:=gx (λ w d e=>ck n e) h;exact⟨g,by erw[PyData.depth];omega⟩
  |obj c ks vs=>cases e
  |ref k=>
   dsimp only at e;split at e
   .erw[ME] at e;let⟨j,f,r⟩:=e;subst r;let⟨g,l⟩:=gx (λ w d e=>ck n e) f;exact⟨g,by erw[PyData.depth];omega⟩
   .cases e
theorem R.af{b γ:Type}{x:R b}{f:b->Mem->R γ}{c:γ}(h:x.bind f=.ok c m'):∃a m,x=.ok a m/\f a m=.ok c m':=by
 cases x with
 |no=>cases h
 |ok a m=>exact⟨a,m,rfl,h⟩
end
structure UN(X:L2.Cx)(cl:Cl):Prop where
 un:X.A.units+64<cLine
 P:cl.P=X.prog
 w:cl.w=X.w
 gd:X.A.guards=some []
theorem bV:lim<=sizeLine:=by rw[N6];decide
section
variable(X:L2.Cx)(cl:Cl)
inductive SE(ev:Loc->Mem->R W)(Y:L2.St)(H:Hp)(Q:VK):Prop
 |mk (J:List Addr) (Z:Loc) (m:Mem) (w:W) (m':Mem) (h1:Rel X.K cl J m H) (h2:RL X.K J H Z Y) (h3:ev Z m=.ok w m') (h4:∀J' H' v,Ext J H J' H'->Rel X.K cl J' m' H'->RW X.K J' H' w v->Q v H'):SE ev Y H Q
inductive ST(ev:Loc->Mem->R Bool)(Y:L2.St)(H:Hp)(Q:Bool->Hp->Prop):Prop
 |mk (J:List Addr) (Z:Loc) (m:Mem) (b:Bool) (m':Mem) (h1:Rel X.K cl J m H) (h2:RL X.K J H Z Y) (h3:ev Z m=.ok b m') (h4:∀J' H',Ext J H J' H'->Rel X.K cl J' m' H'->Q b H'):ST ev Y H Q
inductive SA(ev:Loc->Mem->R (List W))(Y:L2.St)(H:Hp)(Q:List V->Hp->Prop):Prop
 |mk (J:List Addr) (Z:Loc) (m:Mem) (ws:List W) (m':Mem) (h1:Rel X.K cl J m H) (h2:RL X.K J H Z Y) (h3:ev Z m=.ok ws m') (h4:∀J' H' vs,Ext J H J' H'->Rel X.K cl J' m' H'->aJ X.K J' H' ws vs->Q vs H'):SA ev Y H Q
inductive FF(ev:Loc->Mem->R (Option Int))(Y:L2.St)(H:Hp)(Q:Option Int->Hp->Prop):Prop
 |mk (J:List Addr) (Z:Loc) (m:Mem) (o:Option Int) (m':Mem) (h1:Rel X.K cl J m H) (h2:RL X.K J H Z Y) (h3:ev Z m=.ok o m') (h4:∀J' H',Ext J H J' H'->Rel X.K cl J' m' H'->Q o H'):FF ev Y H Q
inductive Ax(f:W->W->Mem->R W)(x y:V)(H:Hp)(Q:VK):Prop
 |mk (J:List Addr) (m:Mem) (wx wy w:W) (m':Mem) (h1:Rel X.K cl J m H) (h2:RW X.K J H wx x) (h3:RW X.K J H wy y) (h4:f wx wy m=.ok w m') (h5:∀J' H' v,Ext J H J' H'->Rel X.K cl J' m' H'->RW X.K J' H' w v->Q v H'):Ax f x y H Q
inductive Lq(f:List W->Mem->R W)(xs:List V)(H:Hp)(Q:VK):Prop
 |mk (J:List Addr) (m:Mem) (ws:List W) (w:W) (m':Mem) (h1:Rel X.K cl J m H) (h2:aJ X.K J H ws xs) (h3:f ws m=.ok w m') (h4:∀J' H' v,Ext J H J' H'->Rel X.K cl J' m' H'->RW X.K J' H' w v->Q v H'):Lq f xs H Q
end
theorem PE.imp{X:L2.Cx}{t t':TE}(h:PE X e t)(i:∀Y H Q,t' Y H Q->t Y H Q):PE X e t':=λ a s Y H Q I q=>h a s Y H Q I (i Y H Q q)
theorem PT.imp{X:L2.Cx}{t t':TT}(h:PT X e t)(i:∀Y H Q,t' Y H Q->t Y H Q):PT X e t':=λ a s Y H Q I q=>h a s Y H Q I (i Y H Q q)
theorem PW.imp{X:L2.Cx}{t t':TT}(h:PW X e t)(i:∀Y H Q,t' Y H Q->t Y H Q):PW X e t':=λ a b s Y H Q I q=>h a b s Y H Q I (i Y H Q q)
theorem PA.imp{X:L2.Cx}{e:List Expr}{t t':TA}(h:PA X e t)(i:∀Y H Q,t' Y H Q->t Y H Q):PA X e t':=λ a b s Y H Q I q=>h a b s Y H Q I (i Y H Q q)
theorem PO.imp{X:L2.Cx}{e:Option Expr}{t t':TO}(h:PO X e t)(i:∀Y H Q,t' Y H Q->t Y H Q):PO X e t':=λ a s Y H Q I q=>h a s Y H Q I (i Y H Q q)
theorem jb{z:Str}:∀(a:List (Str×V)),iZ (keyed a) (.inr z)=a.lookup z:=by
 intro a
 induction a with
 |nil=>rfl
 |cons p r b=>
  let⟨k,v⟩:=p;unfold iZ keyed at b ⊢;rw[Ni,OL,MT]
  by_cases h:k=z
  .subst h;simp
  .have f:(z==k)=false:=by simpa using λ e=>h e.symm
   have c:decide ((Sum.inr k:Key)=.inr z)=false:=Ng λ e=>h (Sum.inr.inj e);rw[f];erw[c];exact b
theorem fS.look{K:ae}{z:Str}{b:List (Str×W)}{a:List (Str×V)}(h:fS K J H b a):(b.lookup z).isSome=(a.lookup z).isSome/\∀w,b.lookup z=some w->∃v,a.lookup z=some v/\RW K J H w v:=by
 induction h with
 |nil=>exact⟨rfl,λ w e=>by cases e⟩
 |@cons f w v ws vs q t c=>
  rw[MT,MT];cases h:z==f with
  |true=>exact⟨rfl,λ g e=>by cases e;exact⟨v,rfl,q⟩⟩
  |false=>exact c
theorem D9{X:L2.Cx}:DA X (λ x y H Q=>∃z a i v,y=.str z/\x=.ref a/\H a=some (.dK (keyed i))/\i.lookup z=some v/\Q v H):=by
 intro b c C s Y H x y v u Q I m l h t;let⟨z,a,i,o,rfl,rfl,e,w,q⟩:=h;cases m;let⟨_,B,vs,g,j⟩:=sO I.hok (.inl e);let⟨A,r,f⟩:=eO.some_of (v:=o) (o:=valueAt vs (.inr z)) (by rw[<-w,<-jb];exact g.val (.inr z));exact tail_any j.typeIs slot_dict_getitem.lookup (wpAny_getItem_of (mq (k:=.inr z) l) j.mapOf r ⟨o,H,I.tok _,f,q⟩) t
section
variable{X:L2.Cx}{cl:Cl}
theorem xM:fu X (binaryOp .Add) (λ x y H Q=>∃a b ys,x=.ref a/\y=.ref b/\dQ X.K H a []/\dQ X.K H b ys/\Q (.ref b) H):=by
 intro T s Y H x y v u Q I C B h;let⟨a,b,ys,rfl,rfl,P,N,q⟩:=h;cases C;cases B;let⟨M,E,G,_⟩:=I.tuple P;let⟨c,D,F,_⟩:=I.tuple N;cases E;let⟨⟨S,R,w,A⟩,m,t,n,r⟩:=id G;let⟨⟨z,k,l,j⟩,f,i,L,g⟩:=id F;simp only at t r i g;subst t r i g;exact Qa ⟨_,m,rfl⟩ ⟨_,f,rfl⟩ PR Qu OU ON (OF _ _)
   (tuple_addW0 a b _ c.toArray n L R k A j 's') ⟨m,f,⟨.ref b,H,I,rfl,q⟩⟩
theorem Ay:fu X (binaryOp .Add) (λ x y H Q=>∃a b xs ys,x=.ref a/\y=.ref b/\gk X.K H a xs/\gk X.K H b ys/\xs.length+ys.length<=sizeLine/\∀p,H p=none->Q (.ref p) (upd H p (.lst (xs++ys)))):=by
 intro aa s Y H x y v u Q I L G h;let⟨a,b,xs,ys,rfl,rfl,T,S,hz,q⟩:=h;cases L;cases G;let⟨f,t,N,_⟩:=I.list T;let⟨c,g,M,_⟩:=I.list S;let⟨⟨cls,Z,C,E⟩,n,w,B,R,A⟩:=id N;let⟨⟨D,m,r,l⟩,P,i,k,z,j⟩:=id M;simp only at B A k j;subst B A k j;have l1:=t.length;have l2:=g.length;have U:f.toArray++c.toArray=(f++c).toArray:=by simp
 refine Qa ⟨_,w,rfl⟩ ⟨_,i,rfl⟩ noFill_list_add seq_list_add PySem.F.slot_list_add PySem.F.entry_list_add (PySem.F.args_list_add_2 _ _)
   (list_addW a b f.toArray c.toArray n P Z m E l (by rw[MS,MS];omega)) ⟨w,i,?_⟩
 rw[U];exact⟨.ref _,_,I.Hl (t':=s.toks) (t.append g) (by rw[N9];omega),rfl,q _ I.fresh⟩
theorem Ea(M:Operator):fu X (binaryOp M) (Ax X cl (binop M)):=by
 intro i s Y H x y v u Q I g f h;let⟨J,m,wx,Z,w,m',r,l,j,e,k⟩:=h;unfold binop at e;split at e
 .
  split at e
  .cases e;cases l;cases j;exact Dk i s Y H _ _ v u Q I g f ⟨_,_,rfl,rfl,k _ _ _ Ext.refl r (.int _)⟩
  .ext P N;split at e
   .ext c;cases e;cases l with
    |tup D q=>
     cases j with
     |tup C A=>
      ext a vs b F;cases q with
      |nil=>exact xM i s Y H _ _ v u Q I g f ⟨_,_,_,rfl,rfl,D,C,k _ _ _ Ext.refl r (.tup C (~~~A))⟩
      |cons q t=>
       ext w1 L R B;have S:(L::B).length+F.length<=lim:=by
        rw[<-(aJ.cons q t).length,<-A.length];exact c
       refine zU i s Y H _ _ v u Q I g f ⟨_,_,_,_,rfl,rfl,D,C,by simp,Na S bV,λ z=>?_,λ z p K=>?_⟩
       .subst z;cases A;exact k _ _ _ Ext.refl r (.tup D (by simpa using aJ.cons q t))
       .let⟨E,G⟩:=r.p7 K (L::B++F);refine k _ _ _ E G (.tup (.of av) ?_);exact((aJ.cons q t).append A).mono r E
   .cases e
  .split at e
   .ext c;cases e;cases l;cases j;exact qV i s Y H _ _ v u Q I g f ⟨_,_,rfl,rfl,Na c bV,k _ _ _ Ext.refl r (.str _)⟩
   .cases e
  .unfold Ae at e;split at e
   .ext P N U T;split at e
    .ext c;cases e;let⟨a,vs,rfl,D,q⟩:=r.getL l U;let⟨b,F,rfl,C,A⟩:=r.getL j T;refine Ay i s Y H _ _ v u Q I g f ⟨_,_,_,_,rfl,rfl,D,C,?_,λ p K=>?_⟩
     .rw[<-q.length,<-A.length];exact Na c bV
     .let⟨E,G⟩:=r.newL K (q.append A);exact k _ _ _ E G (.ref (r.last p))
    .cases e
   .cases e
 .
  split at e
  .cases e;cases l;cases j;exact Dm i s Y H _ _ v u Q I g f ⟨_,_,rfl,rfl,k _ _ _ Ext.refl r (.int _)⟩
  .cases e
 .
  split at e
  .split at e
   .ext c;cases e;cases l;cases j;refine Dn i s Y H _ _ v u Q I g f ⟨_,_,rfl,rfl,?_,k _ _ _ Ext.refl r (.int _)⟩;simpa[jr,zI] using c
   .cases e
  .cases e
 .split at e
  .split at e
   .ext c;cases e;cases l;cases j;exact zJ i s Y H _ _ v u Q I g f ⟨_,_,rfl,rfl,c,k _ _ _ Ext.refl r (.int _)⟩
   .cases e
  .cases e
 .split at e
  .split at e
   .ext c;cases e;cases l;cases j;exact Dp i s Y H _ _ v u Q I g f ⟨_,_,rfl,rfl,c,k _ _ _ Ext.refl r (.int _)⟩
   .cases e
  .cases e
 .split at e
  .split at e
   .ext c;cases e;cases l;cases j;exact Dq i s Y H _ _ v u Q I g f ⟨_,_,rfl,rfl,c,k _ _ _ Ext.refl r (.int _)⟩
   .cases e
  .cases e
 .split at e
  .split at e
   .ext c;cases e;cases l;cases j;exact Dr i s Y H _ _ v u Q I g f ⟨_,_,rfl,rfl,c,k _ _ _ Ext.refl r (.int _)⟩
   .cases e
  .cases e
 .split at e
  .split at e
   .ext c;cases e;cases l;cases j;exact Ds i s Y H _ _ v u Q I g f ⟨_,_,rfl,rfl,c,k _ _ _ Ext.refl r (.int _)⟩
   .cases e
  .cases e
 .split at e
  .cases e;cases l;cases j;exact Du i s Y H _ _ v u Q I g f ⟨_,_,rfl,rfl,k _ _ _ Ext.refl r (.int _)⟩
  .cases e
 .cases e
theorem HH(q:UN X cl):fu X (compareOp .Eq) (Ax X cl λ x y m=>(uR m x y).bind λ c m=>.ok (.bl c) m):=by
 intro z s Y H x y v u Q I i g h;let⟨J,m,B,A,w,D,r,l,j,e,k⟩:=h;let⟨c,C,a,t⟩:=R.af e;cases t;unfold uR at a;split at a
 .ext F E b f;cases a;exact DN q.un z s Y H _ _ v u Q I i g ⟨_,_,fZ r _ l b,fZ r _ j f,(ck _ b).1,(ck _ f).1,(ck _ b).2,k _ _ _ Ext.refl r (.bl _)⟩
 .cases a
theorem HJ(A:UN X cl):fu X (compareOp .NotEq) (Ax X cl λ x y m=>((uR m x y).bind λ b m=>.ok (!b) m).bind λ c m=>.ok (.bl c) m):=by
 intro B s Y H x y v u Q I l j h;let⟨J,m,D,C,w,E,r,t,q,e,k⟩:=h;let⟨c,z,a,g⟩:=R.af e;cases g;let⟨c,z,a,g⟩:=R.af a;cases g;unfold uR at a;split at a
 .ext G F f i;cases a;exact DO A.un B s Y H _ _ v u Q I l j ⟨_,_,fZ r _ t f,fZ r _ q i,(ck _ f).1,(ck _ i).1,(ck _ f).2,k _ _ _ Ext.refl r (.bl _)⟩
 .cases a
theorem jc(T:UN X cl)(b:Bool){M:List (Addr×Obj)}{s:Shared}{x y:V}{v u:Value}{Q:VK}{m E:Mem}{D C:W}{ys:List W}{c:Bool}(I:Inv X M Y H s)(P:RelV x v)(N:RelV y u)
  (r:Rel X.K cl J m H) (S:RW X.K J H D x) (R:RW X.K J H C y) (U:aM m C=some ys) (l:jA m D ys=.ok c E) (k:E=m->Q (.bl (if b then !c else c)) H) :
  wpAny (model X.prog X.w) X.A (compareOp (if b then .NotIn else .In) v u) (EP X M Y Q) X.xe s:=by
 let⟨a,vs,rfl,g,t⟩:=r.aM R U;cases N;unfold jA at l;split at l
 .ext d B G F;cases l;have k:=k rfl;let⟨j,l2⟩:=ck _ G;let⟨i,l4⟩:=gx (λ w d e=>ck 60 e) F;have L:BN X.K H vs B:=gw (λ w v d _ q e=>fZ r _ q e) t F;let⟨as,h⟩:=I.reads (fZ r _ S G) P;have z:X.A.units+1+min (PyData.depthAll B) d.depth<cLine:=by
   have:min (PyData.depthAll B) d.depth<=d.depth:=Nat.min_le_right _ _;have:=T.un;omega
  rcases g with g | g
  .let⟨Z,f⟩:=I.reads (Dt.lst g L) (u:=Value.ref a) rfl;cases b with
   |false=>exact SeqAt.in_list_reads f h i j z ⟨.bl _,H,I,rfl,k⟩
   |true=>exact SeqAt.notIn_list_reads f h i j z ⟨.bl _,H,I,rfl,k⟩
  .let⟨Z,f⟩:=I.reads (Dt.tup g L) (u:=Value.ref a) rfl;cases b with
   |false=>exact SeqAt.in_tuple_reads f h i j z ⟨.bl _,H,I,rfl,k⟩
   |true=>exact SeqAt.notIn_tuple_reads f h i j z ⟨.bl _,H,I,rfl,k⟩
 .cases l
theorem aJ.ints{K:ae}:∀ns:List Int,aJ K J H (ns.map W.int) (ns.map V.int)
 | []=>.nil
 |i::r=>.cons (.int i) (aJ.ints r)
theorem aJ.iB{K:ae}:∀{ws:List W} {vs:List V} {ns:List Int},aJ K J H ws vs->D.iB ws=some ns->vs=ns.map V.int
 |_,_,_,.nil,h=>by cases h;rfl
 |_,_,_,.cons (w:=w) q t,h=>by
  cases w with
  |int i=>
   erw[D.iB,ME] at h;let⟨r,a,rfl⟩:=h;cases q;rw[t.iB a];rfl
  |_=>cases h
theorem p8{K:ae}{w:W}{k:L2.Key}(q:RW K J H w v)(e:wY w=some k):v=kV k:=by
 cases q with
 |int i=>cases e;rfl
 |str x=>cases e;rfl
 |_=>cases e
theorem HK(i:UN X cl):fu X (compareOp .In) (Ax X cl λ x y m=>(pG m x y).bind λ c m=>.ok (.bl c) m):=by
 rintro A s Y H x y v u Q I f b ⟨J,m,N,M,w,Z,r,h,g,e,k⟩;let⟨c,U,a,G⟩:=R.af e;cases G;unfold pG at a;split at a
 .split at a
  .cases a;cases h;cases g;exact uz A s Y H _ _ v u Q I f b ⟨_,_,rfl,rfl,k _ _ _ Ext.refl r (.bl _)⟩
  .cases a
 .ext n;split at a
  .ext L j;exact jc i false I f b r h g (by simp[aM,getL,j]) a λ z=>by subst z;exact k _ _ _ Ext.refl r (.bl _)
  .ext ks j;split at a
   .ext B F;cases a;cases g with
    |ref l=>
     let⟨S,q,C⟩:=r.obj j l;rw[i.P,i.w] at q;refine uM A s Y H _ _ v u Q I f b ⟨_,S,_,B,rfl,p8 h F,q,?_⟩;rw[C];exact k _ _ _ Ext.refl r (.bl _)
   .cases a
  .ext fs j;split at a
   .ext z;cases a;cases h;cases g with
    |ref l=>
     let⟨E,D,t⟩:=r.obj j l;cases b;refine Kc (o:=E.lookup z) (by have:=i.un;omega) I (by rw[<-jb];exact .k (k:=.inr z) D) f λ T K=>⟨.bl _,H,K,rfl,?_⟩;rw[<-t.look.1];exact k _ _ _ Ext.refl r (.bl _)
   .cases a
  .cases a
 .exact jc i false I f b r h g rfl a λ z=>by subst z;exact k _ _ _ Ext.refl r (.bl _)
 .exact jc i false I f b r h g rfl a λ z=>by subst z;exact k _ _ _ Ext.refl r (.bl _)
 .cases a
theorem sX{K:ae}{w:W}(q:RW K J H w v):decide (v=.non)=jt w:=by
 cases q<;>first | rfl | exact Ng (λ z=>nomatch z)
theorem jd(l:UN X cl)(F:CmpOp):fu X (compareOp F) (Ax X cl λ x y m=>(aD F x y m).bind λ c m=>.ok (.bl c) m):=by
 cases F with
 |Eq=>exact HH l
 |NotEq=>exact HJ l
 |Lt=>
  rintro i s Y H x y v u Q I f b ⟨J,m,A,q,w,C,r,h,g,e,k⟩;let⟨c,B,a,j⟩:=R.af e;cases j;unfold aD at a;dsimp only at a;split at a
  .cases a;cases h;cases g;exact G4 i s Y H _ _ v u Q I f b ⟨_,_,rfl,rfl,k _ _ _ Ext.refl r (.bl _)⟩
  .cases a;cases h;cases g;exact uy i s Y H _ _ v u Q I f b ⟨_,_,rfl,rfl,k _ _ _ Ext.refl r (.bl _)⟩
  .cases a
 |LtE=>
  rintro i s Y H x y v u Q I f b ⟨J,m,A,q,w,C,r,h,g,e,k⟩;let⟨c,B,a,j⟩:=R.af e;cases j;unfold aD at a;dsimp only at a;split at a
  .cases a;cases h;cases g;exact G5 i s Y H _ _ v u Q I f b ⟨_,_,rfl,rfl,k _ _ _ Ext.refl r (.bl _)⟩
  .cases a;cases h;cases g;exact uN i s Y H _ _ v u Q I f b ⟨_,_,rfl,rfl,k _ _ _ Ext.refl r (.bl _)⟩
  .cases a
 |Gt=>
  rintro i s Y H x y v u Q I f b ⟨J,m,A,q,w,C,r,h,g,e,k⟩;let⟨c,B,a,j⟩:=R.af e;cases j;unfold aD at a;dsimp only at a;split at a
  .cases a;cases h;cases g;exact G6 i s Y H _ _ v u Q I f b ⟨_,_,rfl,rfl,k _ _ _ Ext.refl r (.bl _)⟩
  .cases a
 |GtE=>
  rintro i s Y H x y v u Q I f b ⟨J,m,A,q,w,C,r,h,g,e,k⟩;let⟨c,B,a,j⟩:=R.af e;cases j;unfold aD at a;dsimp only at a;split at a
  .cases a;cases h;cases g;exact G7 i s Y H _ _ v u Q I f b ⟨_,_,rfl,rfl,k _ _ _ Ext.refl r (.bl _)⟩
  .cases a
 |Is=>
  rintro i s Y H x y v u Q I f b ⟨J,m,A,q,w,C,r,h,g,e,k⟩;let⟨c,B,a,j⟩:=R.af e;cases j;unfold aD at a;dsimp only at a;split at a
  .cases a;cases g;refine Dw i s Y H _ _ v u Q I f b ⟨rfl,?_⟩;rw[sX h];exact k _ _ _ Ext.refl r (.bl _)
  .cases a
 |IsNot=>
  rintro i s Y H x y v u Q I f b ⟨J,m,A,q,w,C,r,h,g,e,k⟩;let⟨c,B,a,j⟩:=R.af e;cases j;unfold aD at a;dsimp only at a;split at a
  .cases a;cases g;refine zK i s Y H _ _ v u Q I f b ⟨rfl,?_⟩;rw[sX h];exact k _ _ _ Ext.refl r (.bl _)
  .cases a
 |In=>exact HK l
 |NotIn=>
  rintro i s Y H x y v u Q I f b ⟨J,m,A,q,w,C,r,h,g,e,k⟩;let⟨c,B,a,j⟩:=R.af e;cases j;unfold aD at a;dsimp only at a;split at a
  .ext n;split at a
   .ext T G;let⟨L,K,E,D⟩:=R.af a;cases D;exact jc l true I f b r h g (by simp[aM,getL,G]) E λ z=>by subst z;exact k _ _ _ Ext.refl r (.bl _)
   .ext Z G;split at a
    .ext z;cases a;cases h;cases g with
     |ref N=>
      let⟨P,M,t⟩:=r.obj G N;cases b;refine zZ (o:=P.lookup z) (by have:=l.un;omega) I (by rw[<-jb];exact .k (k:=.inr z) M) f λ U S=>⟨.bl _,H,S,rfl,?_⟩;rw[<-t.look.1];exact k _ _ _ Ext.refl r (.bl _)
    .cases a
   .cases a
  .let⟨L,K,E,D⟩:=R.af a;cases D;exact jc l true I f b r h g rfl E λ z=>by subst z;exact k _ _ _ Ext.refl r (.bl _)
  .let⟨L,K,E,D⟩:=R.af a;cases D;exact jc l true I f b r h g rfl E λ z=>by subst z;exact k _ _ _ Ext.refl r (.bl _)
  .cases a
theorem Az{K:ae}{i:Int}{w:W}(t:aJ K J H ws vs)(e:sM ws i=some w):∃v,sM vs i=some v/\RW K J H w v:=by
 unfold sM at e ⊢;rw[<-t.length];cases h:vJ ws.length i with
 |none=>rw[h] at e;cases e
 |some j=>rw[h] at e;exact t.get e
theorem Eb:DA X (Ax X cl bh):=by
 intro b f D s Y H x y v u Q I q l h B;let⟨J,m,S,R,w,T,r,F,E,e,k⟩:=h;unfold bh at e;split at e
 .ext i;split at e
  .split at e
   .ext K;split at e
    .ext c j;cases e;cases F;cases E;exact DE b f D s Y H _ _ v u Q I q l ⟨_,_,_,rfl,rfl,Na K bV,j,k _ _ _ Ext.refl r (.str _)⟩ B
    .cases e
   .cases e
  .split at e
   .ext ws N;split at e
    .ext G j;cases e;cases E;let⟨a,vs,rfl,g,t⟩:=r.aM F N;let⟨z,C,A⟩:=Az t j;rcases g with g | g
     .exact zV b f D s Y H _ _ v u Q I q l ⟨_,_,_,_,rfl,rfl,g,C,k _ _ _ Ext.refl r A⟩ B
     .exact DC b f D s Y H _ _ v u Q I q l ⟨_,_,_,_,rfl,rfl,g,C,k _ _ _ Ext.refl r A⟩ B
    .cases e
   .cases e
 .split at e
  .split at e
   .ext Z P;split at e
    .ext G j;cases e;cases E;cases F with
     |ref M=>
      let⟨U,L,t⟩:=r.obj P M;let⟨z,C,A⟩:=t.look.2 _ j;exact D9 b f D s Y H _ _ v u Q I q l ⟨_,_,_,_,rfl,rfl,L,C,k _ _ _ Ext.refl r A⟩ B
    .cases e
   .cases e
  .cases e
 .cases e
end
end D
end
section
namespace HT
open PySem PyProof.Rows List
open PySem.SeqAt List
open PySem.AutoSeq1 (wpAny_loadPart')
open PySem.MeetsSeq PySem.MeetsSeq2 PySem.MeetsSeq3 List
section
variable{prog:Program}{w:World}{A:Around}{E:Value->Shared->Prop}{s:Shared}
theorem gS{t e:Addr}{a:Array Value}{j i:Value}{lo d:Option Int}{Q:Value->Shared->Prop}(c:IsTup s.heap t a)(k:s.heap.IsSliceOf e j i .none)(m:IsPart j lo)(l:IsPart i d)
  (q:fy a.size 0 lo=0) (p:fy a.size a.size d=a.size) (h:Q (.ref t) s):wpAny (model prog w) A (getItem (.ref t) (.ref e)) Q E s:=by
 let⟨n,f,g,o⟩:=id k;have r:s.TypeIs (.ref e) "slice":=⟨n,f,g⟩;unfold getItem
 try with_reducible refine NG ?_
 first | refine MF (MP ?_) | skip
 refine MF (wpAny_sequenceKey c.typeIs 'd' ?_);refine MF (NX (name:=Str.ofString "__getitem__") c.typeIs O1
  (OB O1 c.typeIs entry_tuple_getitem ?_ (args_tuple_getitem _ _)))
 show wpAny _ _ (Builtin.Tuple.tupleItemsOf (.ref t) >>= _) _ _ s;refine MF (tupleItemsOf_ c ?_);refine MF (wpAny_typeOf r ?_);rw[MW 'd'];refine MF (iY k m l ?_);have b:(((fy a.size 0 lo:Nat):Int)==0&&(1:Int)==1&&(fy a.size a.size d - fy a.size 0 lo)==a.size)=true:=by
  rw[q,p];simp
 show wpAny _ _ (if (((fy a.size 0 lo:Nat):Int)==0&&(1:Int)==1&&(fy a.size a.size d - fy a.size 0 lo)==a.size)=true then _ else _) _ _ s;rw[MW b];refine MF ?_;unfold Builtin.Tuple.tupleIsExact;refine MF (wpAny_typeOf c.typeIs (MP ?_));rw[MW 'd'];exact MF (Qe (MP ⟨_,rfl,MP h⟩))
end
end HT
namespace L2
open PySem PySem.Spec PyProof.Rows List
theorem Jl{X:Cx}:Hh X (λ x lo f H Q=>∃a xs,x=.ref a/\dQ X.K H a xs/\(HT.fy xs.length 0 lo=0/\HT.fy xs.length xs.length f=xs.length)/\Q (.ref a) H):=by
 intro t s Y H x v n m lo f o Q I g l j i h;let⟨a,xs,rfl,k,d,q⟩:=h;cases g;let⟨c,r,e,p⟩:=I.tuple k;have b:c.toArray.size=xs.length:=by rw[MS];exact r.length.symm
 refine⟨"tuple",_,PyProof.Rows.slot_tuple_getitem.lookup,e.typeIs,?_⟩;exact HT.gS e l j i (by rw[b];exact d.1) (by rw[b];exact d.2) ⟨.ref a,H,I,rfl,q⟩
end L2
end
section
namespace D
open PySem PySem.Spec PyProof.Rows L2 List
variable{ds:Es}{es:List Expr}{j:Nat}
section
variable{X:L2.Cx}{cl:Cl}{C:D.Cx}{pos:Pos}
theorem mQ{i:Nat}{x:Str}(d:X.N[i]?=some x)(b:BA X.env.scope x)(c:(x==("__debug__":Str))=false)(a:(x==("__classdict__":Str))=false):PE X (.Name x pos) (SE X cl (ao C (.var i))):=by
 refine PE.imp (qN d b c a) ?_;rintro Y H Q ⟨J,Z,m,w,n,r,l,e,k⟩;erw[bg] at e;split at e
 .ext h g;cases e;let⟨v,f,q⟩:=l.at_ g;exact⟨v,f,k _ _ _ Ext.refl r q⟩
 .cases e
theorem BV{i:Int}:PE X (.Constant (.int i) j pos) (SE X cl (ao C (.cst (.int i)))):=by
 refine PE.imp CY ?_;rintro Y H Q ⟨J,Z,m,w,a,r,l,e,k⟩;erw[bG] at e;cases e;exact k _ _ _ Ext.refl r (.int i)
theorem HL{i:Bool}:PE X (.Constant (.bool i) j pos) (SE X cl (ao C (.cst (.bl i)))):=by
 refine PE.imp GK ?_;rintro Y H Q ⟨J,Z,m,w,a,r,l,e,k⟩;erw[bG] at e;cases e;exact k _ _ _ Ext.refl r (.bl i)
theorem BW:PE X (.Constant .none j pos) (SE X cl (ao C (.cst .non))):=by
 refine PE.imp CZ ?_;rintro Y H Q ⟨J,Z,m,w,a,r,l,e,k⟩;erw[bG] at e;cases e;exact k _ _ _ Ext.refl r .non
theorem BX{x:Str}:PE X (.Constant (.str x) j pos) (SE X cl (ao C (.cst (.str x)))):=by
 refine PE.imp vS ?_;rintro Y H Q ⟨J,Z,m,w,a,r,l,e,k⟩;erw[bG] at e;cases e;exact k _ _ _ Ext.refl r (.str x)
theorem BY{x:Str}{w:W}(a:Gl X x)(h:∃u v,X.mg x=some u/\RelV v u/\∀J H,RW X.K J H w v)(b:(x==("__debug__":Str))=false):PE X (.Name x pos) (SE X cl (ao C (.cst w))):=by
 let⟨u,v,f,d,c⟩:=h;refine PE.imp (iw a f d b) ?_;rintro Y H Q ⟨J,Z,m,w,g,r,l,e,k⟩;erw[bG] at e;cases e;exact k _ _ _ Ext.refl r (c _ _)
variable{a b c:Expr}{da db dc:E}
theorem HM{i:Operator}(I:PE X a (SE X cl (ao C da)))(G:PE X b (SE X cl (ao C db))):PE X (.BinOp a i b pos) (SE X cl (ao C (.bin i da db))):=by
 refine PE.imp (G0 (Ea (cl:=cl) i) I G) ?_;rintro Y H Q ⟨J,Z,m,w,F,r,l,e,k⟩;erw[dW] at e;let⟨x,s,L,e⟩:=R.af e;let⟨y,q,K,e⟩:=R.af e;refine⟨J,Z,m,x,s,r,l,L,fun g S O o h B=>?_⟩;refine⟨g,Z,s,y,q,h,l.mono r o,K,fun f P N n p A=>?_⟩;exact⟨f,q,x,y,w,F,p,B.mono h n,A,e,fun d M v t u z=>k d M v ((o.trans h n).trans p t) u z⟩
theorem HN{d:CmpOp}(G:UN X cl)(L:PE X a (SE X cl (ao C da)))(K:PE X b (SE X cl (ao C db)))(I:behindInMarks d b=false):PE X (.Compare a [d] [b] pos) (SE X cl (ao C (.cmp d da db))):=by
 refine PE.imp (sG (jd (cl:=cl) G d) L K I) ?_;rintro Y H Q ⟨J,Z,m,w,F,r,l,e,k⟩;erw[dJ] at e;let⟨x,s,N,e⟩:=R.af e;let⟨y,q,M,e⟩:=R.af e;refine⟨J,Z,m,x,s,r,l,N,fun h U S o i B=>?_⟩;refine⟨h,Z,s,y,q,i,l.mono r o,M,fun g T P n p A=>?_⟩;exact⟨g,q,x,y,w,F,p,B.mono i n,A,e,fun f O v t u z=>k f O v ((o.trans i n).trans p t) u z⟩
theorem HP{d:CmpOp}(G:UN X cl)(L:PE X a (SE X cl (ao C da)))(K:PE X b (SE X cl (ao C db)))(I:behindInMarks d b=false):PT X (.Compare a [d] [b] pos) (ST X cl (bB C (.cmp d da db))):=by
 refine PT.imp (sH (jd (cl:=cl) G d) L K I) ?_;rintro Y H Q ⟨J,Z,m,w,F,r,l,e,k⟩;erw[bH] at e;let⟨x,s,N,e⟩:=R.af e;let⟨y,q,M,e⟩:=R.af e;refine⟨J,Z,m,x,s,r,l,N,fun h U S o i B=>?_⟩;refine⟨h,Z,s,y,q,i,l.mono r o,M,fun g T P n p A=>?_⟩;refine⟨g,q,x,y,.bl w,F,p,B.mono i n,A,by rw[e];rfl,fun f O v t u z=>?_⟩;cases z;exact⟨w,rfl,k f O ((o.trans i n).trans p t) u⟩
theorem HQ(n:PE X a (SE X cl (ao C da))):PE X (.UnaryOp .USub a pos) (SE X cl (ao C (.neg da))):=by
 refine PE.imp (G1 Dv n) ?_;rintro Y H Q ⟨J,Z,m,w,q,r,l,e,k⟩;erw[gX] at e;let⟨x,i,o,e⟩:=R.af e;refine⟨J,Z,m,x,i,r,l,o,fun d s p f g h=>?_⟩;split at e
 .cases e;cases h;exact⟨_,rfl,k _ _ _ f g (.int _)⟩
 .cases e
theorem BZ(n:PE X a (SE X cl (ao C da))):PE X (.UnaryOp .Not a pos) (SE X cl (ao C (.not da))):=by
 refine PE.imp (C4 n) ?_;rintro Y H Q ⟨J,Z,m,w,q,r,l,e,k⟩;erw[ef] at e;let⟨x,i,o,e⟩:=R.af e;refine⟨J,Z,m,x,i,r,l,o,fun d s p f g h=>?_⟩;split at e
 .cases e;cases h;exact⟨_,rfl,k _ _ _ f g (.bl _)⟩
 .cases e
theorem B0(h:PT X a (ST X cl (bB C da))):PT X (.UnaryOp .Not a pos) (ST X cl (bB C (.not da))):=by
 refine PT.imp (C2 h) ?_;rintro Y H Q ⟨J,Z,m,w,o,r,l,e,k⟩;erw[dZ] at e;let⟨x,n,i,e⟩:=R.af e;cases e;exact⟨J,Z,m,x,_,r,l,i,fun d p f g=>k _ _ f g⟩
variable{rest:List Expr}
theorem HR(v:PE X a (SE X cl (ao C da)))(u:PE X (.BoolOp .And (b::rest) pos) (SE X cl (ao C db))):PE X (.BoolOp .And (a::b::rest) pos) (SE X cl (ao C (.and da db))):=by
 refine PE.imp (C3 v u) ?_;rintro Y H Q ⟨J,Z,m,w,t,r,l,e,k⟩;erw[dX] at e;let⟨x,i,y,e⟩:=R.af e;refine⟨J,Z,m,x,i,r,l,y,fun d F A f g s=>?_⟩;split at e
 .ext c;cases s;refine⟨c,rfl,?_⟩;split at e
  .ext h;rw[MW h];exact⟨d,Z,i,w,t,g,l.mono r f,e,fun n B z o p q=>k _ _ _ (f.trans g o) p q⟩
  .ext h;rw[M8 h];cases e;exact k _ _ _ f g (.bl _)
 .cases e
theorem w_and(t:PT X a (ST X cl (bB C da)))(s:PW X (.BoolOp .And (b::rest) pos) (ST X cl (bB C db))):PW X (.BoolOp .And (a::b::rest) pos) (ST X cl (bB C (.and da db))):=by
 refine PW.imp (C1 t s) ?_;rintro Y H Q ⟨J,Z,m,w,q,r,l,e,k⟩;erw[eW] at e;let⟨x,i,u,e⟩:=R.af e;refine⟨J,Z,m,x,i,r,l,u,fun d y f g=>?_⟩;split at e
 .ext h;rw[MW h];exact⟨d,Z,i,w,q,g,l.mono r f,e,fun n v o p=>k _ _ (f.trans g o) p⟩
 .ext h;rw[M8 h];cases e;exact k _ _ f g
theorem w_or(t:PT X a (ST X cl (bB C da)))(s:PW X (.BoolOp .Or (b::rest) pos) (ST X cl (bB C db))):PW X (.BoolOp .Or (a::b::rest) pos) (ST X cl (bB C (.or da db))):=by
 refine PW.imp (GL t s) ?_;rintro Y H Q ⟨J,Z,m,w,q,r,l,e,k⟩;erw[fY] at e;let⟨x,i,u,e⟩:=R.af e;refine⟨J,Z,m,x,i,r,l,u,fun d y f g=>?_⟩;split at e
 .ext h;rw[MW h];cases e;exact k _ _ f g
 .ext h;rw[M8 h];exact⟨d,Z,i,w,q,g,l.mono r f,e,fun n v o p=>k _ _ (f.trans g o) p⟩
theorem mR{K:ae}{J:List Addr}{m d:Mem}{H:Hp}{w:W}{v:V}{b:Bool}(r:Rel K cl J m H)(q:RW K J H w v)(e:truthy m w=.ok b d):d=m/\zL K v H b:=by
 cases q with
 |non=>cases e;exact⟨rfl,rfl⟩
 |bl c=>cases e;exact⟨rfl,rfl⟩
 |int i=>cases e;exact⟨rfl,rfl⟩
 |str x=>
  erw[truthy] at e;split at e
  .ext h;cases e;exact⟨rfl,Na h bV,rfl⟩
  .cases e
 |tup h t=>
  cases e;refine⟨rfl,.inr (.inl ⟨_,h,?_⟩)⟩;cases t<;>rfl
 |fz h t=>
  cases e;refine⟨rfl,.inl ⟨_,h.l,?_⟩⟩;cases t<;>rfl
 |obj h o t=>cases e
 |ref h=>
  erw[truthy] at e;split at e
  .ext k g;cases e;let⟨a,n,z,f,t⟩:=r.getL (.ref h) g;cases z;refine⟨rfl,.inl ⟨_,f,?_⟩⟩;cases t<;>rfl
  .cases e
theorem Ec{i tb:TE}(r:PE X a i)(q:PE X (.BoolOp .Or (b::rest) pos) tb):PE X (.BoolOp .Or (a::b::rest) pos) (fun Y H Q=>i Y H λ x d=>∃k,zL X.K x d k/\if k=true then Q x d else tb Y d Q):=by
 intro g s Y H Q I h;refine BoolOp_or (br (r g s Y H _ I h) λ v o ⟨x,d,w,l,e⟩=>?_);let⟨k,p,e⟩:=e;refine br (we g o Y d x v (λ c f=>f=d/\c=k) w l ⟨k,p,rfl,rfl⟩) λ c n ⟨f,m,u,t⟩=>?_;subst u t;cases c with
 |false=>exact q g n Y f Q m e
 |true=>exact⟨x,f,m,l,e⟩
theorem KD(y:PE X a (SE X cl (ao C da)))(v:PE X (.BoolOp .Or (b::rest) pos) (SE X cl (ao C db))):PE X (.BoolOp .Or (a::b::rest) pos) (SE X cl (ao C (.or da db))):=by
 refine PE.imp (Ec y v) ?_;rintro Y H Q ⟨J,Z,m,w,t,r,l,e,k⟩;erw[gR] at e;let⟨x,n,B,e⟩:=R.af e;let⟨c,I,A,h⟩:=R.af e;refine⟨J,Z,m,x,n,r,l,B,fun f L G g d i=>?_⟩;let⟨z,u⟩:=mR d i A;rw[z] at h;refine⟨c,u,?_⟩;cases c with
 |true=>
  cases h;exact k _ _ _ g d i
 |false=>
  exact⟨f,Z,n,w,t,d,l.mono r g,h,fun o K F p q s=>k _ _ _ (g.trans d p) q s⟩
theorem B3(q:PE X a (SE X cl (ao C da)))(o:∀d,isTrue a X.env d=(do let v <-d;standAt a.pos;holding [v] (PySem.truthy v)))(p:∀Z m,bB C da Z m=(ao C da Z m).bind λ w m=>D.truthy m w):PT X a (ST X cl (bB C da)):=by
 refine PT.imp (wg q o) ?_;rintro Y H Q ⟨J,Z,m,w,u,r,l,e,k⟩;rw[p] at e;let⟨x,n,s,e⟩:=R.af e;refine⟨J,Z,m,x,n,r,l,s,fun g y t h f i=>?_⟩;let⟨rfl,z⟩:=mR f i e;exact⟨w,z,k _ _ h f⟩
theorem HS{t:Expr}{u:E}(y:PT X t (ST X cl (bB C u)))(A:PE X a (SE X cl (ao C da)))(z:PE X b (SE X cl (ao C db))):PE X (.IfExp t a b pos) (SE X cl (ao C (.ife u da db))):=by
 refine PE.imp (vW y A z) ?_;rintro Y H Q ⟨J,Z,m,w,s,r,l,e,k⟩;erw[dg] at e;let⟨x,p,B,e⟩:=R.af e;refine⟨J,Z,m,x,p,r,l,B,fun d G f g=>?_⟩;split at e
 .ext q;rw[MW q];exact⟨d,Z,p,w,s,g,l.mono r f,e,fun h F v i n o=>k _ _ _ (f.trans g i) n o⟩
 .ext q;rw[M8 q];exact⟨d,Z,p,w,s,g,l.mono r f,e,fun h F v i n o=>k _ _ _ (f.trans g i) n o⟩
theorem AA{i o2:CmpOp}(hu:UN X cl)(ha:PE X a (SE X cl (ao C da)))(hb:PE X b (SE X cl (ao C db)))(n:PE X c (SE X cl (ao C dc)))
  (h:PE X (.Compare a [i,o2] [b,c] pos) (qT (Ax X cl λ x y m=>(aD i x y m).bind λ c m=>.ok (.bl c) m) (Ax X cl λ x y m=>(aD o2 x y m).bind λ c m=>.ok (.bl c) m) (SE X cl (ao C da)) (SE X cl (ao C db)) (SE X cl (ao C dc)))) :
  PE X (.Compare a [i,o2] [b,c] pos) (SE X cl (ao C (.chain i o2 da db dc))):=by
 refine PE.imp h ?_;rintro Y H Q ⟨J,Z,m,w,m',r,l,e,k⟩;erw[bC] at e;let⟨x,M,e1,e⟩:=R.af e;let⟨y,L,e2,e⟩:=R.af e;let⟨z,K,e3,e⟩:=R.af e;refine⟨J,Z,m,x,M,r,l,e1,fun s H1 v1 A g W=>?_⟩;refine⟨s,Z,M,y,L,g,l.mono r A,e2,fun q H2 v2 v f G=>?_⟩;have l2:=(l.mono r A).mono g v;refine⟨q,L,x,y,.bl z,K,f,W.mono g v,G,by rw[e3];rfl,fun p H3 v3 t d V=>?_⟩;cases V;refine⟨z,rfl,?_⟩;have N:=(A.trans g v).trans f t;split at e
 .ext n;rw[MW n];let⟨u,I,e4,e⟩:=R.af e;refine⟨p,Z,K,u,I,d,l2.mono f t,e4,fun o H4 v4 B F U=>?_⟩;exact⟨o,I,y,u,w,m',F,(G.mono f t).mono d B,U,e,fun O H5 v5 P S T=>k _ _ _ ((N.trans d B).trans F P) S T⟩
 .ext n;rw[M8 n];cases e;exact k _ _ _ N d (.bl _)
theorem HV:PA X [] (SA X cl (aR C .nil)):=by
 refine PA.imp eZ ?_;rintro Y H Q ⟨J,Z,m,w,d,r,l,e,k⟩;erw[eB] at e;cases e;exact k _ _ _ Ext.refl r .nil
theorem Ed{d:E}(v:PE X a (SE X cl (ao C d)))(u:PA X es (SA X cl (aR C ds)))(t:starEach (a::es) X.env=(false,eval a X.env)::starEach es X.env):PA X (a::es) (SA X cl (aR C (.cons d ds))):=by
 refine PA.imp (bW v u t) ?_;rintro Y H Q ⟨J,Z,m,w,I,r,l,e,k⟩;erw[eB] at e;let⟨x,n,A,e⟩:=R.af e;let⟨y,G,z,e⟩:=R.af e;cases e;refine⟨J,Z,m,x,n,r,l,A,fun f L F i g s=>?_⟩;exact⟨f,Z,n,y,_,g,l.mono r i,z,fun o K B h p q=>k _ _ _ (i.trans g h) p (.cons (s.mono g h) q)⟩
theorem B4{d}(ha:PA X es (SA X cl (aR C ds))):PE X (.Tuple es d pos) (SE X cl (ao C (.tup ds))):=by
 refine PE.imp (wA ha) ?_;rintro Y H Q ⟨J,Z,m,w,v,r,l,e,k⟩;erw[dY] at e;let⟨x,u,t,e⟩:=R.af e;split at e
 .ext s;cases e;refine⟨J,Z,m,x,_,r,l,t,fun i y n d f h=>⟨by rw[<-h.length];exact Na s bV,λ p q=>?_⟩⟩;let⟨g,o⟩:=f.p7 q n;exact k _ _ _ (d.trans f g) o (.tup (.of av) (h.mono f g))
 .cases e
theorem B5(s:PA X es (SA X cl (aR C ds))):PE X (.List es pos) (SE X cl (ao C (.lst ds))):=by
 refine PE.imp (Dz s) ?_;rintro Y H Q ⟨J,Z,m,w,y,r,l,e,k⟩;erw[dM] at e;let⟨x,v,t,e⟩:=R.af e;split at e
 .ext q;cases e;refine⟨J,Z,m,x,_,r,l,t,fun g z u i d f=>⟨by rw[<-f.length];exact Na q bV,λ p o=>?_⟩⟩;let⟨h,n⟩:=d.newL o f;exact k _ _ _ (i.trans d h) n (.ref (d.last p))
 .cases e
theorem HW(I:PE X a (SE X cl (ao C da)))(G:PE X b (SE X cl (ao C db)))(F:jJ b):PE X (.Subscript a b pos) (SE X cl (ao C (.idx da db))):=by
 refine PE.imp (BH (Eb (cl:=cl)) I G F) ?_;rintro Y H Q ⟨J,Z,m,w,B,r,l,e,k⟩;erw[dN] at e;let⟨x,q,L,e⟩:=R.af e;let⟨y,p,K,e⟩:=R.af e;refine⟨J,Z,m,x,q,r,l,L,fun g S O n h A=>?_⟩;refine⟨g,Z,q,y,p,h,l.mono r n,K,fun f P N i o z=>?_⟩;exact⟨f,p,x,y,w,B,o,A.mono h i,z,e,fun d M v s t u=>k d M v ((n.trans h i).trans o s) t u⟩
theorem Ef:PO X none (FF X cl (xr C .none)):=by
 refine PO.imp zS ?_;rintro Y H Q ⟨J,Z,m,w,d,r,l,e,k⟩;erw[BQ] at e;cases e;exact k _ _ Ext.refl r
theorem Eg(n:PE X a (SE X cl (ao C da))):PO X (some a) (FF X cl (xr C (.some da))):=by
 refine PO.imp (zT n) ?_;rintro Y H Q ⟨J,Z,m,w,q,r,l,e,k⟩;erw[BQ] at e;let⟨x,i,o,e⟩:=R.af e;refine⟨J,Z,m,x,i,r,l,o,fun d s p f g h=>?_⟩;split at e
 .cases e;cases h;exact⟨_,rfl,k _ _ f g⟩
 .cases e
theorem AB{K:ae}{J:List Addr}{H:Hp}{ws:List W}{vs:List V}{lo d:Option Int}(t:aJ K J H ws vs):aJ K J H (Af ws lo d) (uG vs lo d):=by
 unfold Af uG;rw[<-t.length];exact(t.drop _).take _
theorem Eh:Hh X (λ x lo d H Q=>∃J m g w i,Rel X.K cl J m H/\RW X.K J H g x/\ju g lo d m=.ok w i/\∀n f v,Ext J H n f->Rel X.K cl n i f->RW X.K n f w v->Q v f):=by
 intro G s Y H x v u o lo d y Q I z F B A h;let⟨J,m,g,w,i,r,q,e,k⟩:=h;unfold ju at e;split at e
 .split at e
  .ext O;cases e;cases q;exact DS G s Y H _ v u o lo d y Q I z F B A ⟨_,rfl,Na O bV,k _ _ _ Ext.refl r (.str _)⟩
  .cases e
 .split at e
  .ext R P;cases e;let⟨a,S,rfl,l,t⟩:=r.getL q P;refine zW G s Y H _ v u o lo d y Q I z F B A ⟨_,_,rfl,l,λ p N=>?_⟩;let⟨L,M⟩:=r.newL N (AB t);exact k _ _ _ L M (.ref (r.last p))
  .cases e
theorem HX{lo A:Option Expr}{B F:Oe}{N:Pos}(T:PE X a (SE X cl (ao C da)))(P:PO X lo (FF X cl (xr C B)))(S:PO X A (FF X cl (xr C F))):PE X (.Subscript a (.Slice lo A none N) pos) (SE X cl (ao C (.slc da B F))):=by
 refine PE.imp (wF (Eh (cl:=cl)) T P S) ?_;rintro Y H Q ⟨J,Z,m,w,O,r,l,e,k⟩;erw[er] at e;let⟨x,u,W,e⟩:=R.af e;let⟨y,t,V,e⟩:=R.af e;let⟨z,s,U,e⟩:=R.af e;refine⟨J,Z,m,x,u,r,l,W,fun h H1 v1 n d M=>?_⟩;refine⟨h,Z,u,y,t,d,l.mono r n,V,fun g H2 i o=>?_⟩;refine⟨g,Z,t,z,s,o,(l.mono r n).mono d i,U,fun f H3 p q=>?_⟩;exact⟨f,s,x,w,O,q,(M.mono d i).mono o p,e,fun G H4 v I K L=>k _ _ _ (((n.trans d i).trans o p).trans q I) K L⟩
end
end D
end
section
namespace D
open PySem PySem.Spec PyProof.Rows L2 PySem.W List
def Ma(K:ae)(H:Hp)(v:V)(ns:List Int):Prop:=∃a,v=.ref a/\dQ K H a (ns.map V.int)
section
variable{X:L2.Cx}
theorem kI(x:Int):∀l,(ins x l).Perm (x::l)
 | []=>.refl _
 |y::r=>by
  unfold ins;split
  .exact((kI x r).cons y).trans (.swap _ _ _)
  .exact .refl _
theorem kJ:∀ns,(DW ns).Perm ns
 | []=>.refl _
 |x::r=>(kI x _).trans ((kJ r).cons x)
theorem mS(x:Int):∀l:List Int,l.Pairwise (·<=·)->(ins x l).Pairwise (·<=·)
 | [],_=>pairwise_singleton _ _
 |y::r,h=>by
  have h':=PF.mp h;unfold ins;split
  .ext b;exact PF.mpr ⟨λ z a=>(MX.mp ((kI x r).mem_iff.mp a)).elim (λ e=>e▸Int.le_of_lt b) (h'.1 z),mS x r h'.2⟩
  .ext b;exact PF.mpr ⟨λ z a=>(MX.mp a).elim (λ e=>e▸Int.not_lt.mp b) λ a=>Int.le_trans (Int.not_lt.mp b) (h'.1 z a),h⟩
theorem mT:∀ns,(DW ns).Pairwise (·<=·)
 | []=>.nil
 |x::r=>mS x _ (mT r)
theorem Ei{ns c:List Int}(e:c.Perm ns)(d:c.Pairwise (·<=·)):c=DW ns:=
 List.Perm.eq_of_pairwise (λ _ _ _ _ a b=>Int.le_antisymm a b) d (mT ns) (e.trans (kJ ns).symm)
theorem mU:∀{a:List Value} {ns:List Int},IntsAre a ns->Vals (ns.map V.int) a
 |_,_,.nil=>.nil
 |_,_,.cons _ _ t=>.cons ⟨_,rfl⟩ (mU t)
theorem AD:cg X (.builtin "sorted") (λ xs H Q=>∃(p:Addr) (ns:List Int),xs=[.ref p]/\gk X.K H p (ns.map V.int)/\ns.length<64/\∀l,H l=none->Q (.ref l) (upd H l (.lst ((DW ns).map V.int)))):=by
 intro x s Y H xs w Q I j h;let⟨p,ns,rfl,n,d,q⟩:=h;let⟨u,rfl,i⟩:=vals1 j;cases i;let⟨c,a,k,_⟩:=I.list n;have f:c.length=ns.length:=by rw[<-a.length,M0]
 refine sorted_ints k.isList (intsAre_of a) (by rw[f];exact d) λ b m g v t=>?_;rw[Ei v t] at g;let⟨e,r⟩:=sortedAll_at s.heap c b;refine⟨.ref _,_,I.laid (t':=s.toks) (o:=.lst ((DW ns).map V.int)) (λ _ _=>sortedAll_old) (NW _) ⟨?_,b.toList,e,mU g,r⟩,rfl,q _ (I.hok.fresh (NW _))⟩;rw[M0,(kJ ns).length_eq];exact Na (OR d) (by rw[N6];decide)
end
end D
end
section
namespace D
open PySem PySem.Spec PyProof.Rows L2 List
theorem HY{X:L2.Cx}(o:X.A.handled=none):cg X (.builtin "sum") (λ xs H Q=>∃(p:Addr) (ns:List Int),xs=[.ref p]/\gk X.K H p (ns.map V.int)/\Q (.int ns.sum) H):=by
 intro w s Y H xs r Q I k h;let⟨p,ns,rfl,m,q⟩:=h;let⟨u,rfl,j⟩:=vals1 k;cases j;let⟨b,a,l,_⟩:=I.list m;have g:=intsAre_of a;let⟨xs,c⟩:=g.allInts.items;have d:(numsOf b.toArray.toList)=ns:=g.numsOf;rw[c,nums_intItems] at d;have f:=l.isList;rw[c] at f;refine sum_intListG o f λ v t i n=>?_;have e:preSum (numAt xs) xs.size=ns.sum:=by rw[preSum_eq,PL 's',d]
 rw[e];exact⟨.int ns.sum,H,I.kept n,⟨i,rfl⟩,q⟩
end D
end
section
namespace L2
open PySem PySem.Spec PyProof.Rows List
section
variable{X:Cx}
structure Ej(K:ae)(C:Addr):Prop where
 cls:vI K C
 ha:PySem.W.findIn K (.ref C) "__class__"=@(some (.builtin "object.__class__"))
 hn:PySem.W.specialIn K (.builtin "object.__class__") "__get__"=@(some (.builtin "getset_descriptor.__get__"))
 htk:PySem.W.takesIn K (.builtin "object.__class__")=some true
 hm:PySem.W.mroIn K C (.type "object")=some true
end
end L2
end
section
namespace D
open PySem PySem.Spec PyProof.Rows L2 List
variable{C:D.Cx}{H H' H0:Hp}{K:ae}{P:Program}{c f:Str}{d:E}{di ds:Es}{dx:Addr}{e elt iter o target tg:Expr}{env:Env}{es ifs:List Expr}{gens:List Comprehension}{gs:List (Str×V)}{i n:Nat}{it:Value}{m m':Mem}{name:String}{p pos pp:Pos}{aa:List (Addr×Obj)}{rest:G}{s:Shared}{scope:Scope}{st:Stmt}{t:T}{v:V}{vs:List V}{ws:List W}{J J' β0:List Addr}{Z:Loc}{Y:L2.St}
section
variable{X:L2.Cx}{cl:Cl}{C:D.Cx}{pos:Pos}
theorem xN(a:List Bool):((List.range a.length).any λ i=>a.getD i true)=a.any _root_.id:=by
 have e:∀(f g:Nat->Bool) (l:List Nat),(∀i∈l,f i=g i)->l.any f=l.any g:=λ f g l h=>by
  induction l with
  |nil=>rfl
  |cons x r j=>rw[OG,OG,h x Nk,j λ i k=>h i (M3 _ k)]
 induction a with
 |nil=>rfl
 |cons b r j=>
  rw[Nh,range_succ_eq_map,OG,Qs,OG];have:((List.range r.length).any ((λ i=>(b::r).getD i true)∘Nat.succ))=((List.range r.length).any λ i=>r.getD i true):=e _ _ _ λ i _=>by simp
  rw[this,j];rfl
theorem xO(hh:X.A.handled=none):cg X (.builtin "any") (λ xs H Q=>∃(p:Addr) (a:List Bool),xs=[.ref p]/\gk X.K H p (a.map V.bl)/\Q (.bl (a.any _root_.id)) H):=by
 intro aa s Y H xs us Q I r h;let⟨p,a,rfl,S,q⟩:=h;let⟨u,rfl,N⟩:=vals1 r;cases N;let⟨g,y,R,hz⟩:=I.list S;have x:=R.isList;have w:p<s⁻¹:=by let⟨_,e,_⟩:=x;exact MI e
 have k:=y.length;rw[M0] at k;refine call_any_walk (OS x ?_);refine⟨_,_,_,_,_,_,(λ i=>a.getD i true),rfl,Walks.list (A:=X.A.in1) hh s⁻¹ p (MQ w) g.toArray,⟨⟨_,MR _ rfl,rfl,rfl⟩,x.push _⟩,?_,?_⟩
 .intro i v s' Q' E' l j;have l:g[i]?=some v:=by simpa using l
  have hi:i<g.length:=(MG.mp l).1;have F:i<a.length:=by omega
  have e:(a.map V.bl)[i]?=some (V.bl (a[i])):=by simp[F]
  let⟨u,B,O⟩:=y.get e;rw[l] at B;cases B;cases O;have:a.getD i true=a[i]:=by simp[List.getD,F]
  dsimp only at j;rw[this] at j;exact ND j
 .intro h' M U;have e:((List.range g.toArray.size).any λ i=>a.getD i true)=a.any _root_.id:=by
   rw[MS,<-k];exact xN a
  rw[e];refine⟨.bl _,H,I.kept (t':=M) λ b o L=>U b o (λ z=>?_) (MH _ L),rfl,q⟩;rw[Nu] at z;exact MQ (MI L) z
def xP:B->Value
 |.len=>.builtin "len" |.abs=>.builtin "abs" |.max=>.builtin "max" |.min=>.builtin "min" |.divmod=>.builtin "divmod" |.all=>.builtin "all" |.any=>.builtin "any"
 |.list=>.type "list" |.tuple=>.type "tuple" |.int=>.type "int" |.sorted=>.builtin "sorted" |.sum=>.builtin "sum" |.repr=>.builtin "repr" |.str=>.type "str" |.dum=>.builtin "repr"
theorem ic{w:W}(h:aJ K J H [w] vs):∃v,vs=[v]/\RW K J H w v:=by
 cases h with
 |cons q t=>cases t;exact⟨_,rfl,q⟩
theorem Ek{w b:W}(h:aJ K J H [w,b] vs):∃v a,vs=[v,a]/\RW K J H w v/\RW K J H b a:=by
 cases h with
 |cons q t=>let⟨a,rfl,g⟩:=ic t;exact⟨_,_,rfl,q,g⟩
theorem aJ.tups:∀{ws:List W} {vs:List V} {b:List (List Int)},aJ K J H ws vs->dH wZ ws=some b->Paired (Ma K H) vs b
 |_,_,_,.nil,h=>by cases h;exact .nil
 |_,_,_,.cons (w:=w) q t,h=>by
  erw[dH] at h;split at h
  .cases h
  .ext d a;split at h
   .cases h
   .ext ds g;cases h;refine .cons ?_ (t.tups g);cases w with
    |tup xs=>
     cases q with
     |tup hs t'=>
      have:=t'.iB a;subst this;exact⟨_,rfl,hs⟩
    |_=>cases a
set_option maxHeartbeats 2000000 in
theorem xQ(hu:UN X cl)(U:X.calm=true)(S:X.A.handled=none)(b:B):cg X (xP b) (Lq X cl (bA b)):=by
 intro aa s Y H xs l Q I u h;let⟨J,m,ws,w,m',r,q,e,k⟩:=h;unfold bA at e;split at e
 .split at e
  .
   split at e
   .split at e
    .ext hl;cases e;let⟨v,rfl,g⟩:=ic q;cases g;exact nM aa s Y H _ l Q I u ⟨_,rfl,Na hl bV,k _ _ _ Ext.refl r (.int _)⟩
    .cases e
   .split at e
    .ext N y;cases e;let⟨v,rfl,g⟩:=ic q;let⟨a,vs,rfl,j,t⟩:=r.aM g y;exact nL aa s Y H _ l Q I u ⟨_,_,rfl,j,k _ _ _ Ext.refl r (by rw[<-t.length];exact .int _)⟩
    .cases e
  .cases e
 .split at e
  .
   cases e;let⟨v,rfl,g⟩:=ic q;cases g;exact wj aa s Y H _ l Q I u ⟨_,rfl,k _ _ _ Ext.refl r (.int _)⟩
  .cases e
 .split at e
  .cases e;let⟨v,R,rfl,g,x⟩:=Ek q;cases g;cases x;exact uA U aa s Y H _ l Q I u ⟨_,_,rfl,k _ _ _ Ext.refl r (.int _)⟩
  .cases e
 .split at e
  .cases e;let⟨v,R,rfl,g,x⟩:=Ek q;cases g;cases x;exact uB U aa s Y H _ l Q I u ⟨_,_,rfl,k _ _ _ Ext.refl r (.int _)⟩
  .cases e
 .split at e
  .split at e
   .ext hd;cases e;let⟨v,R,rfl,g,x⟩:=Ek q;cases g;cases x;refine oV aa s Y H _ l Q I u ⟨_,_,rfl,hd,λ p M=>?_⟩;let⟨F,L⟩:=r.p7 M [.int _,.int _];exact k _ _ _ F L (.tup (.of av) %[.int _,|.int _])
   .cases e
  .cases e
 .split at e
  .
   split at e
   .ext N y;split at e
    .ext bs O;cases e;let⟨v,rfl,g⟩:=ic q;let⟨a,vs,rfl,j,t⟩:=r.getL g y;have z:=t.bools O;subst z;exact wQ S aa s Y H _ l Q I u ⟨_,_,rfl,j,k _ _ _ Ext.refl r (.bl _)⟩
    .cases e
   .cases e
  .cases e
 .split at e
  .split at e
   .ext N y;split at e
    .ext bs O;cases e;let⟨v,rfl,g⟩:=ic q;let⟨a,vs,rfl,j,t⟩:=r.getL g y;have z:=t.bools O;subst z;exact xO S aa s Y H _ l Q I u ⟨_,_,rfl,j,k _ _ _ Ext.refl r (.bl _)⟩
    .cases e
   .cases e
  .cases e
 .split at e
  .
   split at e
   .ext N y;cases e;let⟨v,rfl,g⟩:=ic q;let⟨a,vs,rfl,j,t⟩:=r.aM g y;refine nN aa s Y H _ l Q I u ⟨_,_,rfl,j,λ p M=>?_⟩;let⟨F,L⟩:=r.newL M t;exact k _ _ _ F L (.ref (r.last p))
   .cases e
  .cases e
 .split at e
  .split at e
   .ext N y;cases e;let⟨v,rfl,g⟩:=ic q;let⟨a,vs,rfl,j,t⟩:=r.aM g y;refine lF aa s Y H _ l Q I u ⟨_,vs,rfl,?_⟩;rcases j with j | j
    .refine .inl ⟨j,λ p M=>?_⟩;let⟨F,L⟩:=r.p7 M vs;exact k _ _ _ F L (.tup (.of av) (t.mono r F))
    .exact .inr ⟨j,k _ _ _ Ext.refl r (.tup j t)⟩
   .cases e
  .cases e
 .split at e
  .cases e;let⟨v,rfl,g⟩:=ic q;cases g;exact lY aa s Y H _ l Q I u (.inl ⟨_,rfl,k _ _ _ Ext.refl r (.int _)⟩)
  .cases e;let⟨v,rfl,g⟩:=ic q;cases g;exact lY aa s Y H _ l Q I u (.inr ⟨_,rfl,k _ _ _ Ext.refl r (.int _)⟩)
  .cases e
 .cases e
theorem El{x:Str}{b:B}{y:String}{a:Expr}(S:UN X cl)(hc:X.calm=true)(hh:X.A.handled=none)(hb:xP b=.builtin y)(hg:Gl X x)(hm:X.mg x=none)(O:bootBuiltins x=@(.builtin y))(ha:PA X (a::es) (SA X cl (aR C ds)))
  (U:x≠"__name__") (j:(x==("__debug__":Str))=false) (he:starEach (a::es) X.env=(false,eval a X.env)::starEach es X.env) (h:(backTo pos (starEach es X.env)).any (·.1)=false):PE X (.Call (.Name x p) (a::es) [] pos) (SE X cl (ao C (.blt b ds))):=by
 refine PE.imp (jZ (hb▸xQ (cl:=cl) S hc hh b) hg hm O ha U j he h) ?_;rintro Y H Q ⟨J,Z,m,w,m',r,l,e,k⟩;erw[bT] at e;let⟨x,u,e1,e⟩:=R.af e;exact⟨J,Z,m,x,u,r,l,e1,fun g H1 v1 I q N=>⟨g,u,x,w,m',q,N,e,fun z H2 v2 F L M=>k _ _ _ (I.trans q F) L M⟩⟩
theorem Em{x:Str}{b:B}{y:String}{a:Expr}(S:UN X cl)(hc:X.calm=true)(hh:X.A.handled=none)(hb:xP b=.type y)(hg:Gl X x)(hm:X.mg x=none)(O:bootBuiltins x=@(.type y))(ha:PA X (a::es) (SA X cl (aR C ds)))
  (U:x≠"__name__") (j:(x==("__debug__":Str))=false) (he:starEach (a::es) X.env=(false,eval a X.env)::starEach es X.env) (h:(backTo pos (starEach es X.env)).any (·.1)=false):PE X (.Call (.Name x p) (a::es) [] pos) (SE X cl (ao C (.blt b ds))):=by
 refine PE.imp (uF (hb▸xQ (cl:=cl) S hc hh b) hg hm O ha U j he h) ?_;rintro Y H Q ⟨J,Z,m,w,m',r,l,e,k⟩;erw[bT] at e;let⟨x,u,e1,e⟩:=R.af e;exact⟨J,Z,m,x,u,r,l,e1,fun g H1 v1 I q N=>⟨g,u,x,w,m',q,N,e,fun z H2 v2 F L M=>k _ _ _ (I.trans q F) L M⟩⟩
theorem Rel.xR(r:Rel K cl J m H){p:Addr}(a:H p=none)(o:HO):Ext J H J (upd H p o)/\Rel K cl J m (upd H p o):=by
 have x:Ext J H J (upd H p o):=⟨⟨[],by simp,by simp⟩,λ h _ _=>by rw[ai (au h a)];exact h⟩;refine⟨x,r.len,r.nd,λ g b=>?_⟩;have q:=r.obj g b;let⟨u,e,_⟩:=q.ex;exact q.mono r x (ai (au e a))
def Jm:List String:=["int","bool","str","list","tuple","dict","NoneType"]
inductive SM(X:L2.Cx)(cl:Cl)(name:String)(x:V)(xs:List V)(H:Hp)(Q:VK):Prop
 |mk (J:List Addr) (m:Mem) (wx:W) (ws:List W) (w:W) (m':Mem) (h1:Rel X.K cl J m H) (h2:RW X.K J H wx x) (h3:aJ X.K J H ws xs) (h4:cy wx name ws m=.ok w m') (h5:∀J' H' v,Ext J H J' H'->Rel X.K cl J' m' H'->RW X.K J' H' w v->Q v H'):SM X cl name x xs H Q
theorem AE(h:oJ name=.lst):¬name="join"/\¬name="index"/\¬name="add"/\¬name="endswith"/\¬name="split":=by
 unfold oJ at h;split at h
 .cases h
 .ext a;split at h
  .cases h
  .ext b;exact⟨λ z=>a (.inl z),λ z=>a (.inr (.inl z)),b,λ z=>a (.inr (.inr (.inl z))),λ z=>a (.inr (.inr (.inr z)))⟩
theorem xS{o:W}{w:W}(a:oJ name=.lst)(q:¬(name="lindex"\/name="count"))(e:cy o name ws m=.ok w m'):∃n ys,o=.ref n/\m[n]?=some (.lst ys)/\ki n ys name ws m=.ok w m':=by
 let⟨k,j,h,g,b⟩:=AE a;unfold cy at e;split at e
 .split at e
  .ext n _ ys l;exact⟨_,_,rfl,l,e⟩
  .erw[gH,h,Np] at e;cases e
  .cases e
 .erw[mE,k,j,g,b,Np] at e;cases e
 .cases e
theorem aJ.strs:∀{ws:List W} {vs:List V} {ss:List Str},aJ K J H ws vs->gb ws=some ss->vs=ss.map V.str
 | [],_,_,.nil,h=>by cases h;rfl
 |w::ws,_,ss,.cons q t,h=>by
  cases w with
  |str z=>
   erw[gb,ME] at h;let⟨a,b,rfl⟩:=h;cases q;rw[t.strs b];rfl
  |_=>cases h
theorem u9:DB X "list.append" (SM X cl "append"):=by
 intro aa s Y H x N v j Q I l q h;let⟨J,m,O,ws,w,m',r,y,z,e,k⟩:=h;replace e:=xS 'd' 'd' e;let⟨n,M,rfl,b,e⟩:=e;erw[ki,MW] at e;unfold iC at e;split at e
 .split at e
  .ext B;cases e;let⟨a,vs,rfl,F,L,t⟩:=r.lst y b;let⟨R,rfl,A⟩:=ic z;let⟨g,u⟩:=r.HG b F (t.append %[|A]);exact mj aa s Y H _ _ v j Q I l q ⟨_,_,_,rfl,rfl,L,MO (by rw[<-t.length];exact B) bV,k _ _ _ g u .non⟩
  .cases e
 .cases e
theorem p9{o:W}{w:W}(a:oJ name=.str)(e:cy o name ws m=.ok w m'):∃z,o=.str z/\mE z name ws m=.ok w m':=by
 have b:name="join"\/name="index"\/name="endswith"\/name="split":=by
  unfold oJ at a;split at a
  .assumption
  .split at a<;>cases a
 unfold cy at e;split at e
 .split at e
  .rcases b with rfl | rfl | rfl | rfl<;>(erw[ki,String.reduceEq,Np] at e;cases e)
  .rcases b with rfl | rfl | rfl | rfl<;>(erw[gH,String.reduceEq,Np] at e;cases e)
  .cases e
 .exact⟨_,rfl,e⟩
 .cases e
theorem aJ.gb:∀{ws:List W} {vs:List V} {ns:List Str},aJ K J H ws vs->D.gb ws=some ns->vs=ns.map V.str:=λ t h=>t.strs h
theorem AF:DB X "str.join" (SM X cl "join"):=by
 intro aa s Y H x N v g Q I j l h;let⟨J,m,O,ws,w,m',r,q,u,e,k⟩:=h;replace e:=p9 'd' e;let⟨z,rfl,e⟩:=e;replace e:kj z ws m=.ok w m':=e;unfold kj at e;split at e
 .split at e
  .ext M L;split at e
   .ext S F;split at e
    .ext B;cases e;cases q;let⟨R,rfl,y⟩:=ic u;let⟨a,vs,rfl,A,t⟩:=r.getL y L;have b:=t.gb F;subst b;exact Aa aa s Y H _ _ v g Q I j l ⟨_,_,_,rfl,rfl,A,B,k _ _ _ Ext.refl r (.str _)⟩
    .cases e
   .cases e
  .cases e
 .cases e
theorem vc:DB X "str.index" (SM X cl "index"):=by
 intro aa s Y H x B v M Q I g j h;let⟨J,m,F,ws,w,m',r,l,q,e,k⟩:=h;replace e:=p9 'd' e;let⟨z,rfl,e⟩:=e;replace e:gq z ws m=.ok w m':=e;unfold gq at e;split at e
 .ext _ y;split at e
  .ext p a;cases e;cases l;let⟨L,rfl,A⟩:=ic q;cases A;let⟨t,rfl⟩:=g;let⟨u,rfl,N,rfl⟩:=Vals.one j;cases b:Builtin.Str.occurrences z y 0 z.length 1 with
   |nil=>rw[b] at a;cases a
   |cons i rest=>
    rw[b] at a;cases a;exact SC.index b ⟨.int _,H,I.tok _,⟨_,rfl⟩,k _ _ _ Ext.refl r (.int _)⟩
  .cases e
 .cases e
theorem xT{o:W}{w:W}(e:cy o "add" ws m=.ok w m'):∃n ks,o=.ref n/\m[n]?=some (.set ks)/\gH n ks "add" ws m=.ok w m':=by
 unfold cy at e;split at e
 .split at e
  .erw[ki,String.reduceEq,Np] at e;cases e
  .ext n _ ks a;exact⟨_,_,rfl,a,e⟩
  .cases e
 .erw[mE,String.reduceEq,Np] at e;cases e
 .cases e
theorem Rel.KG{a:Addr}(r:Rel K cl J m H){o:O}{ks:List L2.Key}{S:L2.Key->Bool}(B:m[n]?=some o)(y:J[n]?=some a)(q:∀k,S k=j9 k ks) :
  Ext J H J (upd H a (j8 cl.P cl.w a S ks.length))/\Rel K cl J (m.set n (.set ks)) (upd H a (j8 cl.P cl.w a S ks.length)):=by
 have F:a∈J:=Nm y;have x:Ext J H J (upd H a (j8 cl.P cl.w a S ks.length)):=⟨⟨[],by simp,by simp⟩,λ {b u} h hn _=>by rw[ai (show b≠a from λ z=>hn (by rw[z];exact F))];exact h⟩;refine⟨x,by simp[r.len],r.nd,λ {k M b} j g=>?_⟩
 by_cases l:n=k
 .subst l;rw[y] at g;cases g;rw[Nb (MG.mp B).1] at j;cases j;exact⟨S,av,q⟩
 .rw[M7 l] at j;have A:=r.obj j g;refine A.mono r x (ai ?_);rintro rfl;let⟨Q,L⟩:=MG.mp g;let⟨N,I⟩:=MG.mp y;exact l ((Qo r.nd).mp (I.trans L.symm))
theorem En(q:UN X cl):DB X "set.add" (SM X cl "add"):=by
 intro aa s Y H x xs v M Q I N O h;let⟨J,m,wx,ws,w,m',r,R,U,e,k⟩:=h;replace e:=xT e;let⟨n,a,rfl,L,e⟩:=e;erw[gH,MW] at e;unfold xj at e;split at e
 .split at e
  .ext b e1;split at e
   .ext hl;cases e;let⟨v1,rfl,q1⟩:=ic U;have z:=p8 q1 e1;subst z;cases R with
    |ref F=>
     let⟨S,hS,B⟩:=r.obj L F;have l:=hS;rw[q.P,q.w] at l;refine rB aa s Y H _ _ v M Q I N O ⟨_,S,_,b,rfl,rfl,l,hl,?_⟩;have u:∀j,(S j||decide (j=b))=j9 j (if j9 b a then a else a++[b]):=λ j=>by
      rw[B];split
      .ext hm;cases hd:decide (j=b) with
       |false=>simp
       |true=>
        have:=Ot hd;subst this;simp[hm]
      .erw[j9,any_append,OG,any_nil,Bool.or_false];congr 1;exact decide_eq_decide.mpr eq_comm
     let⟨y,A⟩:=r.KG L F u;have g:(if j9 b a then a else a++[b]).length=if S b then a.length else a.length+1:=by
      rw[B];split<;>simp
     rw[g,q.P,q.w] at y A;exact k _ _ _ y A .non
   .cases e
  .cases e
 .cases e
def KH(X:L2.Cx)(T:String)(x:V)(H:Hp):Prop:=∀(aa:List (Addr×Obj)) (s:Shared) (Y:L2.St) (v:Value),Inv X aa Y H s->RelV x v->s.TypeIs v T/\∀a,v=.ref a->Exists λ b=>s.heap.get? a=some b/\b.dict=none
def HZ:Kd->String
 |.lst=>"list" |.str=>"str" |.set=>"set" |.no=>""
theorem B6{w:W}{g:Kd}(r:Rel X.K cl J m H)(q:RW X.K J H w v)(k:g≠.no)(e:kdOf m w=g):KH X (HZ g) v H:=by
 intro aa s Y u I b;cases q with
 |ref h=>
  erw[kdOf] at e;split at e
  .ext ws j;let⟨vs,z,_⟩:=r.obj j h;subst e;exact wG (T:="list") I b (.inl ⟨rfl,_,.inl (.inl z)⟩)
  .ext A j;subst e;let⟨S,z,_⟩:=r.obj j h;cases b;let⟨⟨o,_,_,_,e,l,_⟩,_⟩:=I.hok _ _ z;refine⟨⟨o,e,l.1⟩,λ a y=>?_⟩;cases y;exact⟨o,e,l.2.1⟩
  .exact absurd e.symm k
 |str x=>
  erw[kdOf] at e;subst e;exact wG (T:="str") I b rfl
 |_=>exact absurd (by simpa[kdOf] using e.symm) k
section
variable{o:Expr}{d:E}{name:Str}{nm id:String}{apos:Pos}
theorem AG{T:String}(hT:T=HZ (oJ nm))(pa:PlainAttrs T)(j:Slot T name id)(A:typeOf (.builtin id)=pure (.type "method_descriptor"))(hm:DB X id (SM X cl nm))(ho:PE X o (SE X cl (ao C d)))
  (b:attributeBase o name X.env (eval o X.env)=eval o X.env) (a:(apos.endLine==pos.line)=true):PE X (.Call (.Attribute o name apos) [] [] pos) (SE X cl (ao C (.meth d nm .nil))):=by
 intro aa s Y H Q I h;refine wpAny_Call_method0_late b a ?_;let⟨J,Z,m,w,m',r,l,e,k⟩:=h;erw[bN] at e;let⟨x,F,e1,e⟩:=R.af e;refine br (ho aa s Y H (λ v q=>KH X T v q/\SM X cl nm v [] q Q) I ⟨J,Z,m,x,F,r,l,e1,fun y q v1 O g u=>?_⟩) λ v B ⟨x,q,L,g,S,u⟩=>?_
 .split at e
  .ext hk;erw[eB,R.bind] at e;exact⟨by rw[hT];exact B6 g u (by unfold oJ;split<;>(try split)<;>(intro z;cases z)) hk,y,F,x,[],w,m',g,u,.nil,e,fun M H2 v2 N U q2=>k _ _ _ (O.trans g N) U q2⟩
  .cases e
 .let⟨h1,h2⟩:=S aa B Y v L g;exact⟨T,id,pa,j,A,h1,h2,Qg rfl (PySem.evalArgs_none (hm aa B Y q x [] v [] Q L g .nil u))⟩
theorem Eo{T:String}{a:Expr}(hT:T=HZ (oJ nm))(pa:PlainAttrs T)(u:Slot T name id)(S:typeOf (.builtin id)=pure (.type "method_descriptor"))(hm:DB X id (SM X cl nm))(ho:PE X o (SE X cl (ao C d)))(ha:PA X (a::es) (SA X cl (aR C ds)))
  (q:attributeBase o name X.env (eval o X.env)=eval o X.env)
  (y:((backTo pos (starEach (a::es) X.env)).all (λ x=>!x.1)&&(backToKw pos (keywordEach [] X.env)).all (λ x=>x.1.isSome)
   && decide ((a::es).length+([]:List Keyword).length+(if ([]:List Keyword).isEmpty then 0 else 1)<30))=true)
  (j:(apos.endLine==pos.line)=true) (hs:starEach (a::es) X.env=(false,eval a X.env)::starEach es X.env) (b:(backTo pos (starEach es X.env)).any (·.1)=false):PE X (.Call (.Attribute o name apos) (a::es) [] pos) (SE X cl (ao C (.meth d nm ds))):=by
 intro aa s Y H Q I h;refine wpAny_Call_method_late q y j rfl ?_;let⟨J,Z,m,w,m',r,l,e,k⟩:=h;erw[bN] at e;let⟨x,m1,e1,e⟩:=R.af e;refine br (ho aa s Y H (λ v A=>KH X T v A/\SA X cl (aR C ds) Y A λ xs L=>SM X cl nm v xs L Q) I ⟨J,Z,m,x,m1,r,l,e1,fun N A v1 x1 g F=>?_⟩) λ v s1 ⟨x,A,I1,g,ty,F⟩=>?_
 .split at e
  .ext hk;let⟨ws,m2,e2,e⟩:=R.af e;exact⟨by rw[hT];exact B6 g F (by unfold oJ;split<;>(try split)<;>(intro z;cases z)) hk,N,Z,m1,ws,m2,g,l.mono r x1,e2,fun M L v2 U B O=>
    ⟨M,m2,x,ws,w,m',B,F.mono g U,O,e,fun β3 H3 v3 x3 r3 q3=>k _ _ _ ((x1.trans g U).trans B x3) r3 q3⟩⟩
  .cases e
 .let⟨h1,h2⟩:=ty aa s1 Y v I1 g;refine⟨T,id,pa,u,S,h1,h2,?_⟩;have hA:=ha pos aa s1 Y A _ I1 F;rw[hs] at hA ⊢;refine Qg (by show (false||(backTo pos (starEach es X.env)).any (·.1))=false;rw[b]<;>rfl) (Calls.evalArgs_plain ?_);exact br hA λ us s2 ⟨vs,L,I2,B,O⟩=>hm aa s2 Y L x vs v us Q I2 g B O
end
theorem Ep(a:UN X cl)(h:Gl X "set")(g:X.mg "set"=none):PE X (.Call (.Name "set" p) [] [] pos) (SE X cl (ao C .set0)):=by
 refine PE.imp (q9 uL h g 'k' 'k' 'k') ?_;rintro Y H Q ⟨J,Z,m,w,m',r,l,e,k⟩;erw[cz,new] at e;cases e;refine⟨rfl,λ p b=>?_⟩;have:=r.xJ (o:=.set []) (ho:=j8 cl.P cl.w p (λ _=>false) 0) b λ x=>⟨_,av,λ _=>rfl⟩;rw[a.P,a.w] at this;exact k _ _ _ this.1 this.2 (.ref (r.last p))
abbrev vK(P:Program)(w:World):sJ:=kH P w
theorem qa:Passes (vK X.prog X.w) X E0:=HB
theorem Mb{w:World}{l:List Env}{a:Shared}{e:Value}(h:vK P w l H s (λ _ _ _=>False) e a):False:=by
 let⟨_,_,_,_,_,_,_,_,_,_,z⟩:=h;exact z
def sY(K:ae)(cl:Cl)(a:Nat)(f:List W->Mem->R W):Sp:=λ vs H Q _=>vs.length=a/\∃J m ws w m',Rel K cl J m H/\aJ K J H ws vs/\f ws m=.ok w m'/\∀J' H' v,Ext J H J' H'->Rel K cl J' m' H'->RW K J' H' w v->Q v H'
theorem s_call{k f:Nat}{q:Addr}{B:FuncData}{b:List Str}{x:Str}{a:Expr}(F:bQ X.prog X.w X.K X.mg X.base (vK X.prog X.w) k q B b (sY X.K cl b.length (C.call f)))(U:bI k X.A)(hg:Gl X x)(hm:X.mg x=@(.ref q))(hk:PySem.W.keepIn X.K (.ref q)=true)(hb:Binds X.K B b [])
  (ha:PA X (a::es) (SA X cl (aR C ds))) (hl:∀Z m ws m',aR C ds Z m=.ok ws m'->ws.length=b.length) (j:(x==("__debug__":Str))=false) (he:starEach (a::es) X.env=(false,eval a X.env)::starEach es X.env) (h:(backTo pos (starEach es X.env)).any (·.1)=false) :
  PE X (.Call (.Name x p) (a::es) [] pos) (SE X cl (ao C (.call f ds))):=by
 refine PE.imp (zO F U hg hm hk hb .nil qa ha j he h) ?_;rintro Y H Q ⟨J,Z,m,w,m',r,l,e,k⟩;erw[fh] at e;let⟨x,z,I,e⟩:=R.af e;refine⟨J,Z,m,x,z,r,l,I,fun g H1 v1 N u y=>⟨?_,g,z,x,w,m',u,by rw[NL];exact y,e,fun L H2 v2 M O S=>k _ _ _ (N.trans u M) O S⟩⟩;rw[NL,<-y.length];exact hl _ _ _ _ I
end
section
variable(X:L2.Cx)(cl:Cl)
def IS(g:It)(b:Src)(β0:List Addr)(H0:Hp):Prop:=∀(J:List Addr) (m:Mem) (H:Hp) (i:Nat),(∃h,J=β0++h)->(∀{a:Addr} {vs:List V},dQ X.K H0 a vs->dQ X.K H a vs)->(∀{a:Addr} {o:Obj} {u:HO},H0 a=some (.frz o u)->H a=@(.frz o u))->Rel X.K cl J m H->
 (∀w,b.get m i=.it w->g.go i H/\∀x H',g.yld i H x H'->Ext J H J H'/\Rel X.K cl J m H'/\RW X.K J H' w x)/\(b.get m i=.fin->g.stop i H)
inductive SI(ev:Loc->Mem->R Src)(Y:L2.St)(H:Hp)(Rr:It->Hp->Prop):Prop
 |mk (J:List Addr) (Z:Loc) (m:Mem) (src:Src) (m':Mem) (h1:Rel X.K cl J m H) (h2:RL X.K J H Z Y) (h3:ev Z m=.ok src m') (h4:∀J' H' MD,Ext J H J' H'->Rel X.K cl J' m' H'->IS X cl MD src J' H'->Rr MD H'):SI ev Y H Rr
inductive SG(ev:W->Loc->Mem->R Loc)(v:V)(Y:L2.St)(H:Hp)(Q:L2.St->Hp->Prop):Prop
 |mk (J:List Addr) (Z:Loc) (m:Mem) (w:W) (ρ':Loc) (m':Mem) (h1:Rel X.K cl J m H) (h2:RL X.K J H Z Y) (h3:RW X.K J H w v) (h4:ev w Z m=.ok ρ' m') (h5:∀J' H' σ',Ext J H J' H'->Rel X.K cl J' m' H'->RL X.K J' H' ρ' σ'->Q σ' H'):SG ev v Y H Q
inductive Er(ev:List W->Loc->Mem->R Loc)(vs:List V)(Y:L2.St)(H:Hp)(Q:L2.St->Hp->Prop):Prop
 |mk (J:List Addr) (Z:Loc) (m:Mem) (ws:List W) (ρ':Loc) (m':Mem) (h1:Rel X.K cl J m H) (h2:RL X.K J H Z Y) (h3:aJ X.K J H ws vs) (h4:ev ws Z m=.ok ρ' m') (h5:∀J' H' σ',Ext J H J' H'->Rel X.K cl J' m' H'->RL X.K J' H' ρ' σ'->Q σ' H'):Er ev vs Y H Q
def xU(D:Ends)(J:List Addr)(H:Hp):F->Prop
 |.nx Z=>∀Y,RL X.K J H Z Y->D.nx Y H
 |.rt w=>∀v,RW X.K J H w v->D.rt v H
 |.bk Z=>∀Y,RL X.K J H Z Y->D.bk Y H
 |.ct Z=>∀Y,RL X.K J H Z Y->D.ct Y H
 |.rz c none Z=>∀Y,RL X.K J H Z Y->jC X Y (.ref (ah X.K c)) none H
 |.rz c (some (f,w)) Z=>∀Y y dx,RL X.K J H Z Y->RW X.K J H w y->H dx=none->jC X Y (.ref (ah X.K c)) (some dx) (upd H dx (.xd [(f,y)]))
inductive SS(ev:Loc->Mem->R F)(D:Ends)(Y:L2.St)(H:Hp):Prop
 |mk (J:List Addr) (Z:Loc) (m:Mem) (f:F) (m':Mem) (h1:Rel X.K cl J m H) (h2:RL X.K J H Z Y) (h3:ev Z m=.ok f m') (h4:∀J' H',Ext J H J' H'->Rel X.K cl J' m' H'->xU X D J' H' f):SS ev D Y H
end
theorem PI.imp{X:L2.Cx}{t t':TI}(h:PI X tg e t)(i:∀Y H R,t' Y H R->t Y H R):PI X tg e t':=λ aa s Y H R I q=>h aa s Y H R I (i Y H R q)
theorem PI.or{X:L2.Cx}{t t':TI}(h:PI X tg e t)(h':PI X tg e t'):PI X tg e (fun Y H R=>t Y H R\/t' Y H R):=λ aa s Y H R I q=>q.elim (h aa s Y H R I) (h' aa s Y H R I)
theorem PG.imp{X:L2.Cx}{t t':TG}(h:PG X e t)(i:∀v Y H Q,t' v Y H Q->t v Y H Q):PG X e t':=λ aa s Y H v u Q I r q=>h aa s Y H v u Q I r (i v Y H Q q)
theorem qK.imp{X:L2.Cx}{e:List Expr}{t t':zm}(h:qK X e t)(i:∀v Y H Q,t' v Y H Q->t v Y H Q):qK X e t':=λ aa s Y H v u Q I r q=>h aa s Y H v u Q I r (i v Y H Q q)
theorem PS.imp{X:L2.Cx}{e:Stmt}{t t':TS}(h:PS X e t)(i:∀D Y H,t' D Y H->t D Y H):PS X e t':=λ aa s Y H D I q=>h aa s Y H D I (i D Y H q)
theorem gF.imp{X:L2.Cx}{e:List Stmt}{t t':TS}(h:gF X e t)(i:∀D Y H,t' D Y H->t D Y H):gF X e t':=λ aa s Y H D I q=>h aa s Y H D I (i D Y H q)
section
variable{X:L2.Cx}{cl:Cl}{C:D.Cx}{pos:Pos}
theorem p6.keep(b:∀{a:Addr} {o:Obj} {u:HO},H a=some (.frz o u)->H' a=@(.frz o u)){a:Addr}(h:p6 K H a vs):p6 K H' a vs:=
 h.elim (λ ⟨o,e⟩=>.inl ⟨o,b e⟩) .inr
theorem RW.keep(j:∃γ,J'=J++γ)(g:∀{a:Addr} {vs:List V},dQ K H a vs->dQ K H' a vs)(b:∀{a:Addr} {o:Obj} {u:HO},H a=some (.frz o u)->H' a=@(.frz o u)){w:W}(q:RW K J H w v):RW K J' H' w v:=
 q.gen g (λ h=>h.keep b) b (λ h=>by let⟨γ,rfl⟩:=j;rw[ML (MG.mp h).1];exact h)
theorem aJ.keep(h:∃γ,J'=J++γ)(b:∀{a:Addr} {vs:List V},dQ K H a vs->dQ K H' a vs)(g:∀{a:Addr} {o:Obj} {u:HO},H a=some (.frz o u)->H' a=@(.frz o u)){w:List W}{v:List V}(q:aJ K J H w v):aJ K J' H' w v:=q.u7 (RW.keep h b g)
theorem xV{a:Addr}(l:β0[n]?=some a):IS X cl (Jd X.K a) (.lst n) β0 H0:=by
 intro J m H i h _ _ r;let⟨A,rfl⟩:=h;have b:(β0++A)[n]?=some a:=by rw[ML (MG.mp l).1];exact l
 refine⟨λ w e=>?_,λ e=>?_⟩
 .erw[Src.get] at e;split at e
  .ext B k;split at e
   .ext I j;cases e;let⟨F,vs,z,g,t⟩:=r.getL (.ref b) k;cases z;let⟨v,u,q⟩:=t.get j;refine⟨⟨vs,v,g,u⟩,λ x H' y=>?_⟩;let⟨rfl,y⟩:=y;have:=y vs g;rw[u] at this;cases this;exact⟨Ext.refl,r,q⟩
   .cases e
  .cases e
 .erw[Src.get] at e;split at e
  .ext B k;split at e
   .cases e
   .ext j;let⟨F,vs,z,g,t⟩:=r.getL (.ref b) k;cases z;refine⟨vs,g,?_⟩;rw[<-t.length];exact OD.mp j
  .cases e
theorem xW{a:Addr}(z:dQ X.K H0 a vs)(l:aJ X.K β0 H0 ws vs):IS X cl (JW X.K a) (.tup ws) β0 H0:=by
 intro J m H i b j u r;have g:=j z;have t:=l.keep b j u;refine⟨λ w e=>?_,λ e=>?_⟩
 .erw[Src.get] at e;split at e
  .ext A h;cases e;let⟨v,k,q⟩:=t.get h;refine⟨⟨vs,v,g,k⟩,λ x H' y=>?_⟩;let⟨rfl,y⟩:=y;have:=y vs g;rw[k] at this;cases this;exact⟨Ext.refl,r,q⟩
  .cases e
 .erw[Src.get] at e;split at e
  .cases e
  .ext h;exact⟨vs,g,by rw[<-t.length];exact OD.mp h⟩
theorem B7{a:Addr}(A:p6 X.K H0 a vs)(u:aJ X.K β0 H0 ws vs):IS X cl (Jd X.K a) (.tup ws) β0 H0:=by
 intro J m H i b z j r;have g:=(A.keep j).l;have t:=u.keep b z j;refine⟨λ w e=>?_,λ e=>?_⟩
 .erw[Src.get] at e;split at e
  .ext B h;cases e;let⟨v,k,q⟩:=t.get h;refine⟨⟨vs,v,g,k⟩,λ x H' y=>?_⟩;let⟨rfl,y⟩:=y;have:=y vs g;rw[k] at this;cases this;exact⟨Ext.refl,r,q⟩
  .cases e
 .erw[Src.get] at e;split at e
  .cases e
  .ext h;exact⟨vs,g,by rw[<-t.length];exact OD.mp h⟩
theorem Eu{a:Addr}(R:p6 X.K H0 a vs)(B:aJ X.K β0 H0 ws vs):IS X cl (Jg X.K a) (.enm (.tup ws)) β0 H0:=by
 intro J m H i b M Q r;let⟨l,k⟩:=B7 (X:=X) (cl:=cl) R B J m H i b M Q r;refine⟨λ w e=>?_,λ e=>?_⟩
 .erw[Src.get] at e l;split at e
  .ext A h;cases e;let⟨⟨u,x,N,I⟩,g⟩:=l A h;refine⟨⟨u,x,N,I⟩,λ y H' z=>?_⟩;let⟨p,v,O,rfl,rfl,L⟩:=z;let⟨_,_,q⟩:=g v H ⟨rfl,L⟩;let⟨j,F⟩:=r.p7 O [.int i,v];exact⟨j,F,.tup (.of av) %[.int _,|q.mono r j]⟩
  .cases e
  .cases e
 .erw[Src.get] at e k;split at e
  .cases e
  .ext h;exact k h
  .cases e
theorem xX{lo:Int}:IS X cl (GW lo n) (.rng lo n) β0 H0:=by
 intro J m H i a _ _ r;refine⟨λ w e=>?_,λ e=>?_⟩
 .erw[Src.get] at e;split at e
  .ext h;cases e;refine⟨h,λ x H' y=>?_⟩;let⟨rfl,rfl⟩:=y;exact⟨Ext.refl,r,.int _⟩
  .cases e
 .erw[Src.get] at e;split at e
  .cases e
  .ext h;exact PV h
theorem Ew{w:W}{s:Src}(r:Rel X.K cl J m H)(q:RW X.K J H w v)(e:srcOf m w=some s) :
  ∃a,v=.ref a/\((∃n vs,s=.lst n/\w=.ref n/\J[n]?=some a/\gk X.K H a vs)\/(∃ws vs,s=.tup ws/\w=.fz ws/\p6 X.K H a vs/\aJ X.K J H ws vs)\/∃ws vs,s=.tup ws/\w=.tup ws/\dQ X.K H a vs/\aJ X.K J H ws vs):=by
 cases q with
 |tup h t=>cases e;exact⟨_,rfl,.inr (.inr ⟨_,_,rfl,rfl,h,t⟩)⟩
 |fz h t=>cases e;exact⟨_,rfl,.inr (.inl ⟨_,_,rfl,rfl,h,t⟩)⟩
 |ref h=>
  erw[srcOf] at e;split at e
  .ext j g;cases e;let⟨a,vs,z,b,t⟩:=r.getL (.ref h) g;cases z;exact⟨_,rfl,.inl ⟨_,_,rfl,rfl,h,b⟩⟩
  .cases e
 |_=>cases e
theorem sZ{s:Src}(r:Rel X.K cl J m H)(q:RW X.K J H (.tup ws) v)(e:srcOf m (.tup ws)=some s):∃a vs,v=.ref a/\s=.tup ws/\dQ X.K H a vs/\aJ X.K J H ws vs:=by
 cases q with
 |tup h t=>cases e;exact⟨_,_,rfl,rfl,h,t⟩
theorem xY{s:Src}(r:Rel X.K cl J m H)(q:RW X.K J H (.fz ws) v)(e:srcOf m (.fz ws)=some s):∃a vs,v=.ref a/\s=.tup ws/\p6 X.K H a vs/\aJ X.K J H ws vs:=by
 cases q with
 |fz h t=>cases e;exact⟨_,_,rfl,rfl,h,t⟩
theorem s8{s:Src}(r:Rel X.K cl J m H)(q:RW X.K J H (.ref n) v)(e:srcOf m (.ref n)=some s):∃a vs,v=.ref a/\s=.lst n/\J[n]?=some a/\gk X.K H a vs:=by
 obtain⟨a,rfl,⟨h,vs,rfl,z,g,b⟩ | ⟨_,_,_,z,_⟩ | ⟨_,_,_,z,_⟩⟩:=Ew r q e
 .cases z;exact⟨a,vs,rfl,rfl,g,b⟩
 .cases z
 .cases z
theorem Ex{z:Str}:IS X cl (Ko z) (.tup (signs z)) β0 H0:=by
 intro J m H i g _ _ r;have a:∀j:Nat,(signs z)[j]?=(z.cps[j]?).map λ c=>W.str ⟨#[c]⟩:=λ j=>by simp[signs]
 refine⟨λ w e=>?_,λ e=>?_⟩
 .erw[Src.get,a] at e;cases hc:z.cps[i]? with
  |none=>rw[hc] at e;cases e
  |some c=>
   rw[hc] at e;cases e;have k:i<z.cps.size:=by
    rcases Pk i z.cps.size with h | h
    .exact h
    .rw[Array.getElem?_eq_none h] at hc;cases hc
   refine⟨k,λ x H' y=>?_⟩;let⟨rfl,l,b,rfl⟩:=y;rw[hc] at b;cases b;exact⟨Ext.refl,r,.str _⟩
 .erw[Src.get,a] at e;cases hc:z.cps[i]? with
  |none=>exact Array.getElem?_eq_none_iff.mp hc
  |some c=>rw[hc] at e;cases e
theorem H8{a:Expr}(A:PE X a (SE X cl (ao C d)))(L:∀Z m,cN C d Z m=(ao C d Z m).bind mG):PI X tg a (SI X cl (cN C d)):=by
 refine PI.imp (PI.or (PI.or (zF A) (Dg A)) (DP A)) ?_;rintro Y H O ⟨J,Z,m,F,m',r,l,e,k⟩;rw[L] at e;let⟨x,N,w,e⟩:=R.af e;unfold mG at e;split at e
 .ext s g;cases e;cases x with
  |tup xs=>
   refine .inl (.inr ⟨J,Z,m,_,_,r,l,w,fun h B y j b q=>?_⟩);let⟨a,vs,rfl,rfl,u,t⟩:=sZ b q g;exact⟨a,rfl,⟨vs,u⟩,k _ _ _ j b (xW u t)⟩
  |fz xs=>
   refine .inl (.inl ⟨J,Z,m,_,_,r,l,w,fun h B y j b q=>?_⟩);let⟨a,vs,rfl,rfl,u,t⟩:=xY b q g;exact⟨a,rfl,⟨vs,u.l⟩,k _ _ _ j b (B7 u t)⟩
  |ref n=>
   refine .inl (.inl ⟨J,Z,m,_,_,r,l,w,fun h B y j b q=>?_⟩);let⟨a,vs,rfl,rfl,M,u⟩:=s8 b q g;exact⟨a,rfl,⟨vs,u⟩,k _ _ _ j b (xV M)⟩
  |str z=>
   refine .inr ⟨J,Z,m,_,_,r,l,w,fun h B y j b q=>?_⟩;cases q;erw[xq] at g;split at g
   .ext I;cases g;exact⟨z,rfl,I,k _ _ _ j b Ex⟩
   .cases g
  |_=>cases g
 .cases e
theorem H9{a:Expr}(A:Gl X "range")(z:X.mg "range"=none)(B:PE X a (SE X cl (ao C d)))(b:starEach [a] X.env=[(false,eval a X.env)]):PI X tg (.Call (.Name "range" p) [a] [] pos) (SI X cl (cN C (.rng d))):=by
 refine PI.imp (uv A z (bW B eZ b) b) ?_;rintro Y H L ⟨J,Z,m,q,m',r,l,e,k⟩;erw[kr] at e;let⟨x,y,F,e⟩:=R.af e;refine⟨J,Z,m,x,y,r,l,F,fun h M I j u w=>?_⟩;split at e
 .split at e
  .ext g;cases e;cases w;exact⟨_,rfl,g.1,g.2,k _ _ _ j u xX⟩
  .cases e
 .cases e
theorem Ey{a b:Expr}{d':E}(Q:Gl X "range")(N:X.mg "range"=none)(U:PE X a (SE X cl (ao C d)))(S:PE X b (SE X cl (ao C d')))(A:starEach [a,b] X.env=[(false,eval a X.env),(false,eval b X.env)])(g:starEach [b] X.env=[(false,eval b X.env)]):PI X tg (.Call (.Name "range" p) [a,b] [] pos) (SI X cl (cN C (.rng2 d d'))):=by
 refine PI.imp (uw Q N (bW U (bW S eZ g) (by rw[A,g])) A g) ?_;rintro Y H Rr ⟨J,Z,m,F,m',r,l,e,k⟩;erw[ia] at e;let⟨x,z,e1,e⟩:=R.af e;let⟨y,M,e2,e⟩:=R.af e;refine⟨J,Z,m,x,z,r,l,e1,fun h H1 v1 w j q=>?_⟩;refine⟨h,Z,z,y,M,j,l.mono r w,e2,fun B H2 v2 u I L=>?_⟩;have q:=q.mono j u;split at e
 .split at e
  .ext O;cases e;cases q;cases L;exact⟨_,_,rfl,O,k _ _ _ (w.trans j u) I xX⟩
  .cases e
 .cases e
theorem Ez{a:Addr}(Q:β0[n]?=some a):IS X cl (Jg X.K a) (.enm (.lst n)) β0 H0:=by
 intro J m H i b L O r;let⟨l,k⟩:=xV (X:=X) (cl:=cl) (H0:=H0) Q J m H i b L O r;refine⟨λ w e=>?_,λ e=>?_⟩
 .erw[Src.get] at e l;split at e
  .ext A h;cases e;let⟨⟨u,x,M,F⟩,g⟩:=l A h;refine⟨⟨u,x,M,F⟩,λ y H' z=>?_⟩;let⟨p,v,N,rfl,rfl,I⟩:=z;let⟨_,_,q⟩:=g v H ⟨rfl,I⟩;let⟨j,B⟩:=r.p7 N [.int i,v];exact⟨j,B,.tup (.of av) %[.int _,|q.mono r j]⟩
  .cases e
  .cases e
 .erw[Src.get] at e k;split at e
  .cases e
  .ext h;exact k h
  .cases e
theorem EA{a:Addr}(R:dQ X.K H0 a vs)(B:aJ X.K β0 H0 ws vs):IS X cl (Ks X.K a) (.enm (.tup ws)) β0 H0:=by
 intro J m H i b M Q r;let⟨l,k⟩:=xW (X:=X) (cl:=cl) R B J m H i b M Q r;refine⟨λ w e=>?_,λ e=>?_⟩
 .erw[Src.get] at e l;split at e
  .ext A h;cases e;let⟨⟨u,x,N,I⟩,g⟩:=l A h;refine⟨⟨u,x,N,I⟩,λ y H' z=>?_⟩;let⟨p,v,O,rfl,rfl,L⟩:=z;let⟨_,_,q⟩:=g v H ⟨rfl,L⟩;let⟨j,F⟩:=r.p7 O [.int i,v];exact⟨j,F,.tup (.of av) %[.int _,|q.mono r j]⟩
  .cases e
  .cases e
 .erw[Src.get] at e k;split at e
  .cases e
  .ext h;exact k h
  .cases e
theorem Ia{a:Expr}{q:Pos}{w:List Expr}{h}(B:Gl X "enumerate")(hm:X.mg "enumerate"=none)(ha:PE X a (SE X cl (ao C d)))(b:starEach [a] X.env=[(false,eval a X.env)]):PI X (.Tuple w h q) (.Call (.Name "enumerate" p) [a] [] pos) (SI X cl (cN C (.enm d))):=by
 refine PI.imp (PI.or (Ab B hm (bW ha eZ b) b) (wW B hm (bW ha eZ b) b)) ?_;rintro Y H N ⟨J,Z,m,I,m',r,l,e,k⟩;erw[iF] at e;let⟨x,M,z,e⟩:=R.af e;split at e
 .ext s y;cases e;cases x with
  |tup xs=>
   refine .inr ⟨J,Z,m,_,_,r,l,z,fun j F A h g u=>?_⟩;let⟨a,vs,rfl,rfl,b,t⟩:=sZ g u y;exact⟨a,rfl,⟨vs,b⟩,k _ _ _ h g (EA b t)⟩
  |fz xs=>
   refine .inl ⟨J,Z,m,_,_,r,l,z,fun j F A h g u=>?_⟩;let⟨a,vs,rfl,rfl,b,t⟩:=xY g u y;exact⟨a,rfl,⟨vs,b.l⟩,k _ _ _ h g (Eu b t)⟩
  |ref n=>
   refine .inl ⟨J,Z,m,_,_,r,l,z,fun j F A h g u=>?_⟩;let⟨a,vs,rfl,rfl,L,b⟩:=s8 g u y;exact⟨a,rfl,⟨vs,b⟩,k _ _ _ h g (Ez L)⟩
  |_=>cases y
 .cases e
theorem RL.set{w:W}(l:RL K J H Z Y)(q:RW K J H w v):RL K J H (Z.set i (some w)) (Y.set i (some v)):=by
 refine⟨by simp[l.len],λ {j b} h=>?_⟩
 by_cases e:i=j
 .subst e;have a:i<Z.length:=by have:=(MG.mp h).1;simpa using this
  rw[Nb a] at h;cases h;exact⟨v,Nb (by rw[<-l.len];exact a),q⟩
 .rw[M7 e] at h ⊢;exact l.at_ h
theorem B8{x:Str}(j:X.N.Nodup)(g:X.N[i]?=some x)(b:L2.Loc X.env.scope x)(h:X.fn x=true\/X.env.scope.names.lookup x=some .local):PG X (.Name x pos) (SG X cl (fC C (.pt (.var i)))):=by
 refine PG.imp (zD j g b h) ?_;rintro v Y H Q ⟨J,Z,m,w,a,m',r,l,q,e,k⟩;erw[fC,aA] at e;cases e;exact k _ _ _ Ext.refl r (l.set q)
theorem xZ:qK X [] (Er X cl (eT C .nil)):=by
 refine qK.imp zE ?_;rintro vs Y H Q ⟨J,Z,m,ws,a,m',r,l,q,e,k⟩;cases q with
 |nil=>
  erw[eT] at e;cases e;exact⟨rfl,k _ _ _ Ext.refl r l⟩
 |cons _ _=>erw[eT] at e;cases e
theorem s9{a:Expr}{w:A}{ds:As}(h1:PG X a (SG X cl (fC C w)))(U:qK X es (Er X cl (eT C ds)))(S:(assignEach (a::es) X.env).map (·.2)=assign a X.env::(assignEach es X.env).map (·.2)):qK X (a::es) (Er X cl (eT C (.cons w ds))):=by
 refine qK.imp (v7 h1 U S) ?_;rintro vs Y H Q ⟨J,Z,m,ws,b,m',r,l,q,e,k⟩;cases q with
 |nil=>erw[eT] at e;cases e
 |cons M L=>
  erw[eT] at e;let⟨x,u,e1,e⟩:=R.af e;refine⟨_,_,rfl,J,Z,m,_,x,u,r,l,M,e1,fun g H1 z h j O=>?_⟩;exact⟨g,x,u,_,b,m',j,O,L.mono r h,e,fun B H2 y F I N=>k _ _ _ (h.trans j F) I N⟩
def As.len:As->Nat
 |.nil=>0
 |.cons _ l=>l.len+1
theorem kK:∀{ds:As} {ws:List W} {Z b:Loc} {m m':Mem},eT C ds ws Z m=.ok b m'->ws.length=ds.len
 |.nil,ws,_,_,_,_,e=>by
  cases ws with
  |nil=>rfl
  |cons _ _=>erw[eT] at e;cases e
 |.cons a l,ws,_,_,_,_,e=>by
  cases ws with
  |nil=>erw[eT] at e;cases e
  |cons w ws=>
   erw[eT] at e;let⟨Z1,m1,g,e⟩:=R.af e;rw[Nh,kK e];rfl
theorem PG.or{t t':TG}(h:PG X e t)(h':PG X e t'):PG X e (λ v Y H Q=>t v Y H Q\/t' v Y H Q):=λ aa s Y H v u Q I r q=>q.elim (h aa s Y H v u Q I r) (h' aa s Y H v u Q I r)
theorem B9{k:Nat}{ds:As}(x:X.calm=true)(h:qK X es (Er X cl (eT C ds)))(u:(assignEach es X.env).length=ds.len)(g:(assignEach es X.env).findIdx? (·.1)=none):PG X (.Tuple es k pos) (SG X cl (fC C (.tup ds))):=by
 refine PG.imp (PG.or (C9 x h u g) (DR x h u g)) ?_;rintro v Y H Q ⟨J,Z,m,w,b,m',r,l,q,e,k⟩;erw[fC] at e;split at e
 .ext z y;let⟨a,vs,rfl,j,t⟩:=r.aM q y;rcases j with j | j
  .exact .inr ⟨_,_,rfl,j,by rw[<-t.length];exact kK e,J,Z,m,_,b,m',r,l,t,e,k⟩
  .exact .inl ⟨_,_,rfl,j,by rw[<-t.length];exact kK e,J,Z,m,_,b,m',r,l,t,e,k⟩
 .cases e
def T.rP:Ts->As
 |.nil=>.nil
 |.cons t ts=>.cons (.pt t) (T.rP ts)
theorem je:∀(ts:Ts) (ws:List W) (Z a:Loc) (m:Mem),bR ts ws Z=some a->eT C (T.rP ts) ws Z m=.ok a m
 |.nil,ws,Z,a,m,h=>by
  cases ws with
  |nil=>erw[bR] at h;cases h;erw[T.rP,eT]
  |cons _ _=>erw[bR] at h;cases h
 |.cons t ts,ws,Z,a,m,h=>by
  cases ws with
  |nil=>erw[bR] at h;cases h
  |cons w ws=>
   erw[bR] at h;split at h
   .ext Z1 b;erw[T.rP,eT,fC,b,R.bind];exact je ts ws Z1 a m h
   .cases h
theorem EB{k:Nat}{ts:Ts}(h:PG X (.Tuple es k pos) (SG X cl (fC C (.tup (T.rP ts))))):PG X (.Tuple es k pos) (SG X cl (fC C (.pt (.tup ts)))):=by
 refine PG.imp h ?_;rintro v Y H Q ⟨J,Z,m,w,a,m',r,l,q,e,k⟩;refine⟨J,Z,m,w,a,m',r,l,q,?_,k⟩;erw[fC,aA] at e ⊢;cases w with
 |tup xs=>
  erw[aM] at e ⊢;split at e
  .ext g b;cases e;exact je _ _ _ _ _ b
  .cases e
 |fz xs=>
  erw[aM,getL] at e ⊢;split at e
  .ext g b;cases e;exact je _ _ _ _ _ b
  .cases e
 |_=>cases e
theorem EC(hu:UN X cl):C8 X (λ o i v H Q=>∃J m g l b m',Rel X.K cl J m H/\RW X.K J H g o/\RW X.K J H l i/\RW X.K J H b v/\kc g l b m=.ok () m'/\∀J' H',Ext J H J' H'->Rel X.K cl J' m' H'->Q H'):=by
 intro aa s Y H o i v M N u Q I A z y h;let⟨J,m,g,l,b,m',r,F,L,B,e,k⟩:=h;unfold kc at e;split at e
 .split at e
  .ext U w;split at e
   .ext j S;cases e;cases L;let⟨a,vs,rfl,O,R,t⟩:=r.lst F w;let⟨x,q⟩:=r.HG w O (t.set B j);exact set_list aa s Y H _ _ _ M N u Q I A z y ⟨_,_,_,_,rfl,rfl,R,by rw[<-t.length];exact S,k _ _ x q⟩
   .cases e
  .cases e
 .cases e
theorem Ib(hu:UN X cl){i:Expr}{M di:E}(ho:PE X o (SE X cl (ao C M)))(hi:PE X i (SE X cl (ao C di)))(ha:∀v,assign (.Subscript o i pos) X.env v=(do
   let h <-holding [v] (eval o X.env)
   let B <-holding [v,h] (eval i X.env)
   standAt pos
   holding [v,h,B] (setItem h B v)
   release [v,h,B] [])):PG X (.Subscript o i pos) (SG X cl (fC C (.sub M di))):=by
 refine PG.imp (Dc ho hi (EC hu) ha) ?_;rintro v Y H Q ⟨J,Z,m,w,N,m',r,l,q,e,k⟩;erw[fC] at e;let⟨x,L,e1,e⟩:=R.af e;let⟨y,I,e2,e⟩:=R.af e;let⟨u,m3,e3,e⟩:=R.af e;cases e;refine⟨J,Z,m,x,L,r,l,e1,fun z H1 v1 g a q1=>?_⟩;refine⟨z,Z,L,y,I,a,l.mono r g,e2,fun j H2 v2 b A U=>?_⟩;exact⟨j,I,x,y,w,_,A,q1.mono a b,U,(q.mono r g).mono a b,e3,fun O H3 F S=>k _ _ _ ((g.trans a b).trans A F) S (((l.mono r g).mono a b).mono A F)⟩
theorem ED:gF X [] (SS X cl (aC C .nil)):=by
 refine gF.imp sE ?_;rintro D Y H ⟨J,Z,m,f,m',r,l,e,k⟩;erw[kG,eY] at e;cases e;exact k _ _ Ext.refl r Y l
theorem AH{rest:List Stmt}{d:S}{ds:Ss}(F:PS X st (SS X cl (bf C d)))(B:gF X rest (SS X cl (aC C ds))):gF X (st::rest) (SS X cl (aC C (.cons d ds))):=by
 refine gF.imp (vX F B) ?_;rintro D Y H ⟨J,Z,m,f,m',r,l,e,k⟩;erw[kG,eY] at e;let⟨q,j,I,e⟩:=R.af e;refine⟨J,Z,m,q,j,r,l,I,fun h M b a=>?_⟩;cases q with
 |nx g=>
  intro u A;exact⟨h,g,j,f,m',a,A,e,fun x L y z=>k _ _ (b.trans a y) z⟩
 |rt w=>simp only at e;cases e;exact k _ _ b a
 |rz c w g=>simp only at e;cases e;rcases w with _ | ⟨f,w⟩<;>exact k _ _ b a
 |bk g=>simp only at e;cases e;exact k _ _ b a
 |ct g=>simp only at e;cases e;exact k _ _ b a
theorem EE{a:Expr}{u:A}(M:PE X a (SE X cl (ao C d)))(L:PG X tg (SG X cl (fC C u)))(I:swapsWithSole [tg] a pos.line X.env=pure false)(hw:swappedStores [tg] a X.env=pure none)(N:(assignEach [tg] X.env).map (·.2)=[assign tg X.env]):PS X (.Assign [tg] a pos) (SS X cl (bf C (.asg u d))):=by
 refine PS.imp (qP M L I hw N) ?_;rintro D Y H ⟨J,Z,m,f,m',r,l,e,k⟩;erw[gf] at e;let⟨w,q,Q,e⟩:=R.af e;let⟨S,m2,O,e⟩:=R.af e;cases e;refine⟨J,Z,m,w,q,r,l,Q,fun g H1 U h j B=>?_⟩;exact⟨g,Z,q,w,S,_,j,l.mono r h,B,O,fun x H2 b y z F=>k _ _ (h.trans j y) z b F⟩
theorem rQ{x:Str}{a:Expr}(B:X.N.Nodup)(y:X.N[i]?=some x)(q:L2.Loc X.env.scope x)(A:PE X a (SE X cl (ao C d)))(u:swapsWith a @(.Name x p) pos.line X.env=pure false)(z:X.fn x=true\/X.env.scope.names.lookup x=some .local):PS X (.Assign [.Name x p] a pos) (SS X cl (bf C (.asg (.pt (.var i)) d))):=by
 refine PS.imp (Df B y q A u z) ?_;rintro D Y H ⟨J,Z,m,f,m',r,l,e,k⟩;erw[gf] at e;let⟨w,L,F,e⟩:=R.af e;erw[fC,aA,R.bind] at e;cases e;exact⟨J,Z,m,w,_,r,l,F,fun g M I b h j=>k _ _ b h _ ((l.mono r b).set j)⟩
theorem AI{a:Expr}(q:PE X a (SE X cl (ao C d)))(j:swapsWith a none pos.line X.env=pure false):PS X (.Expr a pos) (SS X cl (bf C (.expr d))):=by
 refine PS.imp (nG q j) ?_;rintro D Y H ⟨J,Z,m,f,m',r,l,e,k⟩;erw[i8] at e;let⟨w,z,u,e⟩:=R.af e;cases e;exact⟨J,Z,m,w,_,r,l,u,fun g A x b h y=>k _ _ b h _ (l.mono r b)⟩
theorem x9{a:Expr}(q:PE X a (SE X cl (ao C d))):PS X (.Return (some a) pos) (SS X cl (bf C (.ret d))):=by
 refine PS.imp (qO q) ?_;rintro D Y H ⟨J,Z,m,f,m',r,l,e,k⟩;erw[mJ] at e;let⟨w,y,u,e⟩:=R.af e;cases e;exact⟨J,Z,m,w,_,r,l,u,fun b z x g h j=>k _ _ g h _ j⟩
theorem nW:PS X (.Return none pos) (SS X cl (bf C .retN)):=by
 refine PS.imp zC ?_;rintro D Y H ⟨J,Z,m,f,m',r,l,e,k⟩;erw[ku] at e;cases e;exact k _ _ Ext.refl r _ .non
theorem tu:PS X (.Pass pos) (SS X cl (bf C .pass)):=by
 refine PS.imp zB ?_;rintro D Y H ⟨J,Z,m,f,m',r,l,e,k⟩;erw[kD] at e;cases e;exact k _ _ Ext.refl r _ l
theorem EF:PS X (.Break pos) (SS X cl (bf C .brk)):=by
 refine PS.imp vY ?_;rintro D Y H ⟨J,Z,m,f,m',r,l,e,k⟩;erw[pR] at e;cases e;exact k _ _ Ext.refl r _ l
theorem AJ:PS X (.Continue pos) (SS X cl (bf C .cont)):=by
 refine PS.imp oR ?_;rintro D Y H ⟨J,Z,m,f,m',r,l,e,k⟩;erw[kE] at e;cases e;exact k _ _ Ext.refl r _ l
theorem kL:PS X st (SS X cl (bf C .never)):=by
 refine PS.imp vZ ?_;rintro D Y H ⟨J,Z,m,f,m',r,l,e,k⟩;erw[iG] at e;cases e
theorem ya{t:Expr}{z:E}{a b:List Stmt}{B A:Ss}(F:PT X t (ST X cl (bB C z)))(L:gF X a (SS X cl (aC C B)))(I:gF X b (SS X cl (aC C A))):PS X (.If t a b pos) (SS X cl (bf C (.ife z B A))):=by
 refine PS.imp (GS F L I) ?_;rintro D Y H ⟨J,Z,m,f,m',r,l,e,k⟩;erw[mK] at e;let⟨c,x,M,e⟩:=R.af e;refine⟨J,Z,m,c,x,r,l,M,fun g O h j=>?_⟩;split at e
 .ext y;rw[MW y];exact⟨g,Z,x,f,m',j,l.mono r h,e,fun q N u w=>k _ _ (h.trans j u) w⟩
 .ext y;rw[M8 y];exact⟨g,Z,x,f,m',j,l.mono r h,e,fun q N u w=>k _ _ (h.trans j u) w⟩
theorem Ext.sq(r:Rel X.K cl J m H)(x:Ext J H J' H'){a:Addr}(h:dQ X.K H a vs):dQ X.K H' a vs:=x.Jj r zu h
theorem yb{it:E}{body:List Stmt}{db:Ss}(hp:PassesOwn (model X.prog X.w) X.A X.env X.xe)(hc:X.calm=true)(hi:PI X tg iter (SI X cl (cN C it)))(hg:PG X tg (SG X cl (fC C (.pt t))))(hb:gF X body (SS X cl (aC C db)))
  (hs:∀x,foldedSetIterable iter X.env x=pure x):PS X (.For tg iter body [] pos) (SS X cl (bf C (.for_ t it db))):=by
 refine PS.imp (Dh hp hc hi hg hb hs) ?_;rintro D Y H ⟨J,Z,m,f,m',r,l,e,k⟩;erw[kB] at e;let⟨j,m1,e1,e⟩:=R.af e;refine⟨J,Z,m,j,m1,r,l,e1,fun a H1 MD F q is=>?_⟩;refine⟨λ i n Y H=>∃J Z m,Ext a H1 J H/\Rel X.K cl J m H/\RL X.K J H Z Y/\dR j.get t (fun Z m=>aC C db Z m) n i Z m=.ok f m',⟨_,a,Z,m1,Ext.refl,q,l.mono r F,e⟩,?_⟩;rintro i n Y H ⟨g,Z2,U,B,S,l2,b⟩;have pre:∃γ,g=a++γ:=let ⟨γ,h,_⟩:=B.pre;⟨γ,h⟩;let⟨go,I⟩:=is g U H i pre (λ h=>B.sq q h) (λ h=>B.fz q zu h) S;unfold dR at b;split at b
 .cases b
 .ext e3;cases b;exact .inl ⟨I e3,k _ _ (F.trans q B) S _ l2⟩
 .ext w e3;let⟨g1,g2⟩:=go w e3;refine .inr ⟨g1,?_⟩;split at b
  .cases b
  .ext n';split at b
   .cases b
   .ext Z3 e4;let⟨ff,m4,e5,N⟩:=R.af b;refine⟨fun u H'=>∃J Z m,Ext a H1 J H'/\Rel X.K cl J m H'/\RL X.K J H' Z u/\dR j.get t (fun Z m=>aC C db Z m) n' (i+1) Z m=.ok f m',fun u H' h=>⟨n',Ob _,h⟩,λ x H' y=>?_⟩;let⟨x3,r3,q3⟩:=g2 x H' y;refine⟨g,Z2,U,w,Z3,U,r3,l2.mono S x3,q3,by erw[fC,e4],fun β5 H5 Y5 x5 r5 l5=>?_⟩;refine⟨β5,Z3,U,ff,m4,r5,l5,e5,fun z H6 x6 L=>?_⟩;have Q:=((B.trans S x3).trans r3 x5).trans r5 x6;cases ff with
    |nx O=>exact fun Y6 M=>⟨z,O,m4,Q,L,M,N⟩
    |ct O=>exact fun Y6 M=>⟨z,O,m4,Q,L,M,N⟩
    |bk O=>cases N;exact fun Y6 M=>k _ _ (F.trans q Q) L Y6 M
    |rt w6=>cases N;exact λ v6 q6=>k _ _ (F.trans q Q) L v6 q6
    |rz c w O=>cases N;rcases w with _ | ⟨f,w⟩<;>exact k _ _ (F.trans q Q) L
end
def dD(prog:Program)(w:World)(A:Around)(e elt:Expr)(d:Nat)(h:Value)(env:Env)(Q:Shared->Prop):Option Comprehension->Shared->Prop
 |none,s=>wpAny (model prog w) A (eval elt env) (λ x b=>wpAny (model prog w) A (call (.builtin "list.append") [h,x]) (λ _ a=>Q a) (λ _ _=>False) b) (λ _ _=>False) s
 |some g',s=>wpAny (model prog w) A (eval g'.iter env) (λ x b=>wpAny (model prog w) A (pyIter x) (λ j a=>codeAny (model prog w) A (.compStart e (d+1) j h env) (λ r g=>match r with
   |.ok _=>Q g
   |.error _=>False) a) (λ _ _=>False) b) (λ _ _=>False) s
theorem lI(elt target iter:Expr)(gens:List Comprehension)(ifs:List Expr)(scope:Scope)(pos:Pos)(d:Nat)(it a:Value)(env:Env)(h:gens[d]?=some ⟨target,iter,ifs,0⟩)(b:gens[d+1]?=none) :
  compTurn (.ListComp elt gens scope pos) d it a env=(do
   standAt iter.pos
   match <-pyNext it with
   |none=>pure (.done .next)
   |some v=>
    letOwnedTupleGo target it v
    assign target env v
    let mut ok:=true
    for c in ifs do
     if ok then ok <-isTrue c env (eval c env)
    if ok then
     (do let _ <-call (.builtin "list.append") [a,<-eval elt env])
    again (.compLoop (.ListComp elt gens scope pos) d it a env)):=by
 unfold compTurn;erw[h,b];rfl
theorem lJ(elt target iter b a:Expr)(gens:List Comprehension)(ifs j:List Expr)(scope:Scope)(pos:Pos)(d:Nat)(it g:Value)(env:Env)(h:gens[d]?=some ⟨target,iter,ifs,0⟩)(k:gens[d+1]?=some ⟨b,a,j,0⟩) :
  compTurn (.ListComp elt gens scope pos) d it g env=(do
   standAt iter.pos
   match <-pyNext it with
   |none=>pure (.done .next)
   |some v=>
    letOwnedTupleGo target it v
    assign target env v
    let mut ok:=true
    for c in ifs do
     if ok then ok <-isTrue c env (eval c env)
    if ok then
     let x <-eval a env
     standAt a.pos
     let x <-foldedSetIterable a env x
     let _ <-runOwn (.compStart (.ListComp elt gens scope pos) (d+1) (<-holding [x] (pyIter x)) g env) env
    again (.compLoop (.ListComp elt gens scope pos) d it g env)):=by
 unfold compTurn;erw[h,k];rfl
section
variable{prog:Program}{w:World}{A:Around}{R:Result->Shared->Prop}{s:Shared}
theorem nX{d:Nat}{N:Value}(hg:gens[d]?=some ⟨target,iter,ifs,0⟩)(hn:∀g',gens[d+1]?=some g'->g'.is_async=0/\∀x,foldedSetIterable g'.iter env x=pure x)(I:Nat->Shared->Prop)
  (L:∀n s,I n s->wpAny (model prog w) A (pyNext it) (λ r q=>match r with
   |none=>R (.ok .next) q
   |some v=>wpAny (model prog w) A (letOwnedTupleGo target it v) (λ _ j=>wpAny (model prog w) A (assign target env v) (λ _ y=>
     wpAny (model prog w) A (forIn ifs true λ c r=>if r=true then do let ok <-isTrue c env (eval c env);pure (ForInStep.yield ok) else pure (ForInStep.yield r)) (λ ok l=>
      if ok=true then dD prog w A (.ListComp elt gens scope pos) elt d N env (λ u=>Exists λ m=>m<n/\I m u) gens[d+1]? l
      else Exists λ m=>m<n/\I m l) (λ _ _=>False) y) (λ _ _=>False) j) (λ _ _=>False) q) (λ _ _=>False) s)
  (n:Nat) (h:I n s) :
  codeAny (model prog w) A (.compLoop (.ListComp elt gens scope pos) d it N env) R s:=by
 refine codeAny_loop rfl I (λ n s hI=>?_) n h;show wpAny _ A ((compTurn (.ListComp elt gens scope pos) d it N env).onRaise (λ x=>do noteFrame x env;theTreesLotGoes x)) _ _ s;refine wpAny_noted ?_;cases S:gens[d+1]? with
 |none=>
  rw[lI _ _ _ _ _ _ _ _ _ _ _ hg S];refine MF (NC (MF (MV (L n s hI) (λ r q g=>?_) λ _ _ b=>b.elim)));cases r with
  |none=>exact MP g
  |some v=>
   refine MF (MV g (λ _ j k=>?_) λ _ _ b=>b.elim);refine MF (MV k (λ _ y F=>MF (MV F (λ ok l a=>?_) λ _ _ b=>b.elim)) λ _ _ b=>b.elim);cases ok with
   |false=>exact MP ⟨rfl,a⟩
   |true=>
    rw[S] at a;exact MF (MF (MV a (λ x Q B=>MF (MV B (λ _ u z=>MP (MP ⟨rfl,z⟩)) λ _ _ b=>b.elim)) λ _ _ b=>b.elim))
 |some g'=>
  let⟨O,U,ifs',as⟩:=g';let⟨h0,X⟩:=hn _ S;have h0:as=0:=h0;subst h0;rw[lJ _ _ _ _ _ _ _ _ _ _ _ _ _ _ hg S];refine MF (NC (MF (MV (L n s hI) (λ r q g=>?_) λ _ _ b=>b.elim)));cases r with
  |none=>exact MP g
  |some v=>
   refine MF (MV g (λ _ j k=>?_) λ _ _ b=>b.elim);refine MF (MV k (λ _ y F=>MF (MV F (λ ok l a=>?_) λ _ _ b=>b.elim)) λ _ _ b=>b.elim);cases ok with
   |false=>exact MP ⟨rfl,a⟩
   |true=>
    rw[S] at a;refine MF (MV a (λ x Q B=>?_) λ _ _ b=>b.elim);refine MF (NC (MF (wpAny_of_eq (X x) (MF (NG (MV B (λ it' u z=>?_) λ _ _ b=>b.elim))))));refine MF (wpAny_runOwn (NT z λ r s₆ M=>?_));cases r with
    |ok f=>exact MP ⟨rfl,M⟩
    |error e=>exact M.elim
theorem fq{d:Nat}{a:Value}(q:gens[d]?=some ⟨target,iter,ifs,0⟩)
  (l:codeAny (model prog w) A (.compLoop (.ListComp elt gens scope pos) d it a env) R s)
  (h:wpAny (model prog w) A (pyIter it) (λ b g=>codeAny (model prog w) A (.compLoop (.ListComp elt gens scope pos) d b a env) R g)
   (notedBy (model prog w) A env λ x g=>R (.error x) g) s) :
  codeAny (model prog w) A (.compStart (.ListComp elt gens scope pos) d it a env) R s:=by
 refine codeAny_of_tree ?_;show wpAny _ _ ((compStart (.ListComp elt gens scope pos) d it a env).onRaise (λ x=>do noteFrame x env;standAt theWindowsPlace)) _ _ s;refine wpAny_notedAt ?_;unfold compStart;have j:(clausesOf (.ListComp elt gens scope pos))[d]?=some ⟨target,iter,ifs,0⟩:=q;erw[j];show wpAny _ _ (ask >>= _) _ _ s;refine MF (wpAny_askSetting (wpAny_ite ?_));split
 .first
   |exact MF (MP (MP (And.intro rfl l)))
   |exact MP (And.intro rfl l)
 .first
   |exact MF (Qe (MF (NC (MF (MV h (λ b g k=>MP (And.intro rfl k)) λ _ _ x=>x)))))
   |(refine MF (Qe ?_);show wpAny _ _ (standAt iter.pos >>= _) _ _ s;exact MF (NC (MF (MV h (λ b g k=>MP (And.intro rfl k)) λ _ _ x=>x))))
def qb(prog:Program)(w:World)(A:Around)(e:Expr)(d:Nat)(tg:Expr)(ifs:List Expr)(it l:Value)(env:Env)(rw:(Shared->Prop)->Shared->Prop):Prop:=
 ∀(R:Result->Shared->Prop) (s:Shared) (I:Nat->Shared->Prop),
  (∀n s,I n s->wpAny (model prog w) A (pyNext it) (λ r b=>match r with
   |none=>R (.ok .next) b
   |some v=>wpAny (model prog w) A (letOwnedTupleGo tg it v) (λ _ g=>wpAny (model prog w) A (assign tg env v) (λ _ j=>
     wpAny (model prog w) A (forIn ifs true λ c r=>if r=true then do let k <-isTrue c env (eval c env);pure (ForInStep.yield k) else pure (ForInStep.yield r)) (λ k a=>
      if k=true then rw (λ h=>Exists λ m=>m<n/\I m h) a
      else Exists λ m=>m<n/\I m a) (λ _ _=>False) j) (λ _ _=>False) g) (λ _ _=>False) b) (λ _ _=>False) s)->
  ∀n,I n s->codeAny (model prog w) A (.compLoop e d it l env) R s
theorem ie{d:Nat}{b:Value}(j:gens[d]?=some ⟨target,iter,ifs,0⟩)(g:∀g',gens[d+1]?=some g'->g'.is_async=0/\∀x,foldedSetIterable g'.iter env x=pure x) :
  qb prog w A (.ListComp elt gens scope pos) d target ifs it b env (λ Q s=>dD prog w A (.ListComp elt gens scope pos) elt d b env Q gens[d+1]? s):=
 λ _ _ I a n h=>nX j g I a n h
end
def PB(X:L2.Cx)(rw:(Shared->Prop)->Shared->Prop)(t:L2.St->Hp->(L2.St->Hp->Prop)->Prop):Prop:=
 ∀(aa:List (Addr×Obj)) (s:Shared) (Y:L2.St) (H:Hp) (Q:L2.St->Hp->Prop),Inv X aa Y H s->t Y H Q->rw (λ b=>∃a H',Inv X aa a H' b/\Q a H') s
inductive EG(K:ae)(J:List Addr)(H:Hp):List W->List (Str×V)->Prop
 |nil:EG K J H [] []
 |cons {k w v ws vs}:RW K J H w v->EG K J H ws vs->EG K J H (.tup [.str k,w]::ws) ((k,v)::vs)
def AK(b:Bool)(K:ae)(J:List Addr)(H:Hp)(Δ:Addr)(a:List W):Prop:=match b with
 |false=>∃vs,H Δ=some (.lst vs)/\aJ K J H a vs
 |true=>∃gs,H Δ=some (.dK (fc [] (keyed gs)))/\EG K J H a gs
inductive SB(b:Bool)(X:L2.Cx)(cl:Cl)(Δ:Addr)(ev:Loc->Mem->List W->R (List W×Loc))(Y:L2.St)(H:Hp)(Q:L2.St->Hp->Prop):Prop
 |mk (J:List Addr) (Z:Loc) (m:Mem) (acc acc':List W) (ρ':Loc) (m':Mem) (h1:Rel X.K cl J m H) (h2:RL X.K J H Z Y) (h3:AK b X.K J H Δ acc) (h4:Δ∉J) (h5:ev Z m acc=.ok (acc',ρ') m') (h6:∀J' H' σ',cC (some Δ) J H J' H'->Rel X.K cl J' m' H'->RL X.K J' H' ρ' σ'->AK b X.K J' H' Δ acc'->Δ∉J'->Q σ' H'):SB b X cl Δ ev Y H Q
section
variable{X:L2.Cx}{cl:Cl}{C:D.Cx}{e elt:Expr}{gens:List Comprehension}{d:Nat}{Δ:Addr}{bk:Bool}
theorem EG.bU{Δ:Option Addr}(r:Rel K cl J m H)(g:∀d,Δ=some d->ja (H d))(x:cC Δ J H J' H')(q:EG K J H ws gs):EG K J' H' ws gs:=by
 induction q with
 |nil=>exact .nil
 |cons a _ b=>exact .cons (a.bU r g x) b
theorem AK.acc{a:List W}(h:AK bk K J H Δ a):ja (H Δ):=by
 cases bk
 .let⟨vs,e,_⟩:=h;rw[e];trivial
 .let⟨vs,e,_⟩:=h;rw[e];trivial
theorem AK.Ig{a:List W}(h:AK bk K J H Δ a):∀d,some Δ=some d->ja (H d):=λ d z=>by cases z;exact h.acc
theorem AK.AL{a:List W}(h:AK bk K J H Δ a):∀d,some Δ=some d->H d≠none:=λ d z e=>by cases z;have q:=h.acc;rw[e] at q;exact q
theorem Ext.HF(x:Ext J H J' H')(b:ja (H Δ))(g:Δ∉J):Δ∉J':=λ z=>by
 let⟨h,rfl,a⟩:=x.pre;rcases Nc.mp z with z | z
 .exact g z
 .rw[a _ z] at b;exact b
theorem AK.mono{a:List W}(h:AK bk K J H Δ a)(r:Rel K cl J m H)(x:Ext J H J' H')(b:Δ∉J):AK bk K J' H' Δ a/\Δ∉J':=by
 refine⟨?_,x.HF h.acc b⟩;cases bk
 .let⟨vs,e,q⟩:=h;exact⟨vs,x.keep e b 's',q.mono r x⟩
 .let⟨vs,e,q⟩:=h;exact⟨vs,x.keep e b 's',q.bU r zu x⟩
theorem EH{U:E}(O:X.xe=λ _ _=>False)(hn:gens[d+1]?=none)(he:PE X elt (SE X cl (ao C U))):PB X (λ Q s=>dD X.prog X.w X.A e elt d (.ref Δ) X.env Q gens[d+1]? s) (SB false X cl Δ (gr C (.elt U))):=by
 intro aa s Y H Q I h;let⟨J,Z,m,acc,acc',ρ',m',r,l,ak,nd,x,k⟩:=h;erw[gv] at x;let⟨w,m1,e1,x⟩:=R.af x;split at x
 .ext hl;cases x;show dD X.prog X.w X.A e elt d (.ref Δ) X.env _ gens[d+1]? s;rw[hn];have S:=he aa s Y H (λ v j=>∃a,Ext J H a j/\Rel X.K cl a m' j/\RW X.K a j w v) I ⟨J,Z,m,w,m',r,l,e1,fun a j v1 y g M=>⟨a,y,g,M⟩⟩;rw[O] at S;refine MV S (λ u s1 ⟨v,j,I1,rv,a,y,g,M⟩=>?_) λ _ _ z=>z;let⟨b,B⟩:=ak.mono r y nd;let⟨vs,N,q⟩:=id b;have F:vs.length<sizeLine:=MO (by rw[<-q.length];exact hl) bV;have ap:=mj (X:=X) aa s1 Y j (.ref Δ) [v] (.ref Δ) [u] (λ _ H'=>H'=upd j Δ (.lst (vs++[v]))) I1 rfl %[|rv] ⟨_,vs,v,rfl,rfl,N,F,rfl⟩;rw[O] at ap;refine MV ap (λ _ s2 ⟨_,H2,I2,_,e2⟩=>?_) λ _ _ z=>z;subst e2;let⟨L,r2⟩:=g.KC (u':=.lst (vs++[v])) b.acc B;refine⟨Y,_,I2,k a _ Y (y.toD.trans g L b.AL) r2 ((l.mono r y).bU g b.Ig L) ⟨_,av,?_⟩ B⟩;exact(q.bU g b.Ig L).append %[|M.bU g b.Ig L]
 .cases x
theorem qc{rw:(Shared->Prop)->Shared->Prop}{MD:It}{fp:List Addr}{it:Addr}{tn:Nat->Heap->Prop}{O:Src}
  (hx:X.xe=λ _ _=>False) (hc:X.calm=true) (hlr:qb X.prog X.w X.A e d tg ifs (.ref it) (.ref Δ) X.env rw) (hmo:∀{Q Q':Shared->Prop} {s:Shared},(∀s,Q s->Q' s)->rw Q s->rw Q' s)
  (Tu:Turn X.prog X.w X.K tg MD fp it tn) (is:IS X cl MD O β0 H0) (pg:PG X tg (SG X cl (fC C (.pt t)))) (vL:j7 X ifs (ST X cl (aZ C di))) (pb:PB X rw (SB bk X cl Δ (gr C rest)))
 {M:Loc} {k F:List W} (I:Inv X aa Y H s) (st:tn 0 s.heap) (AM:∀b∈fp,iW X aa H b)
  (hpre:∃γ,J=β0++γ) (htup:∀{a:Addr} {vs:List V},dQ X.K H0 a vs->dQ X.K H a vs) (Mc:∀{a:Addr} {o:Obj} {u:HO},H0 a=some (.frz o u)->H a=@(.frz o u)) (r:Rel X.K cl J m H) (l:RL X.K J H Z Y) (ak:AK bk X.K J H Δ k) (nd:Δ∉J)
  (ev:bS O.get t (fun Z m=>aZ C di Z m) (fun Z m k=>gr C rest Z m k) n 0 Z m k=.ok (F,M) m') {Rr:Result->Shared->Prop}
  (fin:∀s' g H' J',Inv X aa g H' s'->cC (some Δ) J H J' H'->Rel X.K cl J' m' H'->RL X.K J' H' M g->AK bk X.K J' H' Δ F->Δ∉J'->Rr (.ok .next) s') :
  codeAny (model X.prog X.w) X.A (.compLoop e d (.ref it) (.ref Δ) X.env) Rr s:=by
 have N:∀{H':Hp},(∀b∈fp,H' b=none)->∀b∈fp,iW X aa H' b:=λ hn b U=>⟨hn b U,(AM b U).2⟩;refine hlr _ _ (λ n s'=>∃i g H' J' Z1 S j,Inv X aa g H' s'/\tn i s'.heap/\(∀b∈fp,H' b=none)/\cC (some Δ) J H J' H'/\Rel X.K cl J' S H'/\RL X.K J' H' Z1 g/\AK bk X.K J' H' Δ j/\Δ∉J'/\
  bS O.get t (fun Z m=>aZ C di Z m) (fun Z m k=>gr C rest Z m k) n i Z1 S j=.ok (F,M) m') ?_ n ⟨0,Y,H,J,Z,m,k,I,st,λ b U=>(AM b U).1,Ext.refl,r,l,ak,nd,ev⟩
 rintro n s1 ⟨i,σ1,H1,L,Z1,S,j,I1,st1,fr1,x1,r1,l1,ak1,nd1,e1⟩;have KI:∃γ,L=β0++γ:=by
  let⟨γ,h1,_⟩:=x1.pre;let⟨δ,h2⟩:=hpre;exact⟨δ++γ,by rw[h1,h2,OC]⟩
 let⟨go,stop⟩:=is L S H1 i KI (λ h=>x1.Jj r ak.Ig (htup h)) (λ h=>x1.fz r ak.Ig (Mc h)) r1;unfold bS at e1;split at e1
 .cases e1
 .ext e2;cases e1;refine MV (Tu.done X rfl rfl rfl hc i aa s1 σ1 H1 (λ _ _=>False) I1 (N fr1) st1 (stop e2)) (λ rr s2 ⟨hr,I2⟩=>?_) λ _ _ z=>z;subst hr;exact fin s2 σ1 H1 L I2 x1 r1 l1 ak1 nd1
 .ext w e2;let⟨g1,g2⟩:=go w e2;split at e1
  .cases e1
  .ext n';split at e1
   .cases e1
   .ext Z2 e3;let⟨b,m3,e4,e5⟩:=R.af e1;refine MV (Tu.item X rfl rfl rfl hc i aa s1 σ1 H1 (λ _ _=>False) I1 (N fr1) st1 g1) (λ rr s2 ⟨u,hr,h2⟩=>?_) λ _ _ z=>z;subst hr;refine MV h2 (λ _ s3 ⟨x,H3,I3,r3,y3,st3,fr3⟩=>?_) λ _ _ z=>z;let⟨x3,rr3,q3⟩:=g2 x H3 y3;let⟨ak3,nd3⟩:=ak1.mono r1 x3 nd1;have Me:=I3.pinned (N fr3) (Tu.obj _ _ st3);have l3:=l1.mono r1 x3;have Lr:=pg _ s3 σ1 H3 x u (fun Y4 H4=>∃B,Ext L H3 B H4/\Rel X.K cl B S H4/\RL X.K B H4 Z2 Y4) Me r3 ⟨L,Z1,S,w,Z2,S,rr3,l3,q3,by erw[fC,e3],fun B H4 Y4 x4 r4 l4=>⟨B,x4,r4,l4⟩⟩;rw[hx] at Lr;refine MV Lr (λ _ s4 ⟨Y4,H4,I4,B,x4,r4,l4⟩=>?_) λ _ _ z=>z;let⟨ak4,nd4⟩:=ak3.mono rr3 x4 nd3;have Ls:=vL _ s4 Y4 H4 (λ bb H5=>bb=b/\∃q,Ext B H4 q H5/\Rel X.K cl q m3 H5) I4 ⟨B,Z2,S,b,m3,r4,l4,e4,fun q H5 x5 r5=>⟨rfl,q,x5,r5⟩⟩;rw[hx] at Ls;refine MV Ls (λ bb s5 ⟨H5,I5,U,q,x5,r5⟩=>?_) λ _ _ z=>z;subst U;let⟨ak5,nd5⟩:=ak4.mono r4 x5 nd4;have l5:=l4.mono r4 x5;have Mf:Ext L H1 q H5:=(x3.trans rr3 x4).trans r4 x5;have Lu:cC (some Δ) J H q H5:=x1.trans r1 Mf.toD ak1.AL;have again:∀{g:L2.St} {H':Hp} {s':Shared} {J':List Addr} {Z4:Loc} {m4:Mem} {AN:List W},Inv X (aa++jW fp s3.heap) g H' s'->cC (some Δ) J H J' H'->Rel X.K cl J' m4 H'->RL X.K J' H' Z4 g->AK bk X.K J' H' Δ AN->Δ∉J'->
      bS O.get t (fun Z m=>aZ C di Z m) (fun Z m k=>gr C rest Z m k) n' (i+1) Z4 m4 AN=.ok (F,M) m'->
      Exists λ mm=>mm<n'+1/\∃i g H' J' Z1 S j,Inv X aa g H' s'/\tn i s'.heap/\(∀b∈fp,H' b=none)/\cC (some Δ) J H J' H'/\Rel X.K cl J' S H'/\RL X.K J' H' Z1 g/\AK bk X.K J' H' Δ j/\Δ∉J'/\
       bS O.get t (fun Z m=>aZ C di Z m) (fun Z m k=>gr C rest Z m k) mm i Z1 S j=.ok (F,M) m':=λ {g H' s' J' Z4 m4 AN} I' x' r' l' ak' nd' e'=>by
     refine⟨n',Ob _,i+1,g,H',J',Z4,m4,AN,I'.iy,Tu.keep _ _ _ st3 λ b U o eo=>(I'.pin (b,o) (Nq _ (Nq _ (fV U eo)))).1,λ b U=>?_,x',r',l',ak',nd',e'⟩;let⟨o,eo,_⟩:=Tu.obj _ _ st3 b U;exact(I'.pin (b,o) (Nq _ (Nq _ (fV U eo)))).2.1
    cases bb with
    |false=>exact again I5 Lu r5 l5 ak5 nd5 e5
    |true=>
     erw[Nf] at e5 ⊢;let⟨p,m6,e6,e7⟩:=R.af e5;let⟨acc6,Z6⟩:=p;have Mg:=pb _ s5 Y4 H5 (fun Y6 H6=>∃y,cC (some Δ) q H5 y H6/\Rel X.K cl y m6 H6/\RL X.K y H6 Z6 Y6/\AK bk X.K y H6 Δ acc6/\Δ∉y) I5 ⟨q,Z2,m3,j,acc6,Z6,m6,r5,l5,ak5,nd5,e6,fun y H6 Y6 x6 r6 l6 ak6 nd6=>⟨y,x6,r6,l6,ak6,nd6⟩⟩;refine hmo (λ s6 ⟨Y6,H6,I6,y,x6,r6,l6,ak6,nd6⟩=>?_) Mg;exact again I6 (Lu.trans r5 x6 ak5.AL) r6 l6 ak6 nd6 e7
theorem gy{w:World}{A:Around}{Q Q':Shared->Prop}{o:Option Comprehension}(b:∀s,Q s->Q' s)(h:dD P w A e elt d (.ref Δ) env Q o s):dD P w A e elt d (.ref Δ) env Q' o s:=by
 cases o with
 |none=>exact MV h (λ _ _ h=>MV h (λ _ s z=>b s z) λ _ _ z=>z) λ _ _ z=>z
 |some g=>exact MV h (λ _ _ h=>MV h (λ _ s z=>NT z λ j k a=>by
   cases j with
   |ok f=>exact b _ a
   |error e=>exact a) λ _ _ z=>z) λ _ _ z=>z
theorem Ih{oK:E}(hx:X.xe=λ _ _=>False)(hc:X.calm=true)(S:gens[d+1]?=some ⟨tg,iter,ifs,0⟩)(hn:∀g',gens[d+1+1]?=some g'->g'.is_async=0/\∀x,foldedSetIterable g'.iter X.env x=pure x)
  (hi:PI X tg iter (SI X cl (cN C oK))) (pg:PG X tg (SG X cl (fC C (.pt t)))) (vL:j7 X ifs (ST X cl (aZ C di))) (pb:PB X (λ Q s=>dD X.prog X.w X.A (.ListComp elt gens scope pos) elt (d+1) (.ref Δ) X.env Q gens[d+1+1]? s) (SB false X cl Δ (gr C rest))) :
  PB X (λ Q s=>dD X.prog X.w X.A (.ListComp elt gens scope pos) elt d (.ref Δ) X.env Q gens[d+1]? s) (SB false X cl Δ (gr C (.gen t [] oK di rest))):=by
 intro aa s Y H Q I h;let⟨J,Z,m,acc,acc',ρ',m',r,l,ak,nd,L,k⟩:=h;erw[gv,fB] at L;let⟨u,m1,e1,L⟩:=R.af L;show dD X.prog X.w X.A (.ListComp elt gens scope pos) elt d (.ref Δ) X.env _ gens[d+1]? s;rw[S];have go:=hi aa s Y H (λ MD B=>∃a,Ext J H a B/\Rel X.K cl a m1 B/\IS X cl MD u a B) I ⟨J,Z,m,u,m1,r,l,e1,fun a B MD j F O=>⟨a,j,F,O⟩⟩;rw[hx] at go;refine MV go (λ v s1 h1=>MV h1 (λ itv s2 h2=>?_) λ _ _ z=>z) λ _ _ z=>z;let⟨it,fp,tn,MD,B,e2,I1,Tu,st,AM,a,j,F,O⟩:=h2;subst e2;let⟨y,M⟩:=ak.mono r j nd;have g:codeAny (model X.prog X.w) X.A (.compLoop (.ListComp elt gens scope pos) (d+1) (.ref it) (.ref Δ) X.env) (λ rr q=>match rr with
   |.ok _=>∃b H',Inv X aa b H' q/\Q b H'
   |.error _=>False) s2:=
  qc hx hc (ie S hn) gy Tu O pg vL pb I1 st AM ⟨[],by simp⟩ (λ h=>h) (λ h=>h) F (l.mono r j) y M L λ s' b H' J' I' x' r' l' U N=>⟨b,H',I',k J' H' b (j.toD.trans F x' y.AL) r' l' U N⟩
 exact fq S g (Tu.self _ 0 _ _ _ st g)
theorem RL.fB:∀{js:List Nat} {Z:Loc} {Y:L2.St},RL K J H Z Y->RL K J H (D.fB js Z) (L2.fB js Y)
 | [],_,_,l=>l
 |j::js,Z,Y,l=>by
  refine RL.fB (js:=js) ⟨by simp[l.len],λ {i w} h=>?_⟩
  by_cases e:j=i
  .subst e;rw[QB] at h;rw[MW rfl] at h;split at h<;>cases h
  .rw[M7 e] at h ⊢;exact l.at_ h
def accN:Bool->Sem Value
 |false=>newList []
 |true=>newDict
def AO:Bool->Obj
 |false=>{cls:=.type "list",dict:=none,data:=.seq ([]:List Value).toArray}
 |true=>{cls:=.type "dict",dict:=none,data:=.dict #[]}
def nY:Bool->HO
 |false=>.lst []
 |true=>.dK []
theorem yc{A:Around}{Q:Value->Shared->Prop}{E:Value->Shared->Prop}(h:Q (.ref s⁻¹) {s with heap:=s.heap.push (AO bk)}):wpAny (model X.prog X.w) A (accN bk) Q E s:=by
 cases bk<;>exact OX h
theorem AQ(I:Inv X aa Y H s):Inv X aa Y (upd H s⁻¹ (nY bk)) {s with heap:=s.heap.push (AO bk)}:=by
 cases bk
 .exact I.Hl (its:=[]) (t':=s.toks) .nil (N7 _)
 .exact I.laid (a:=s⁻¹) (o:=.dK []) (h':=s.heap.push {cls:=.type "dict",data:=.dict #[]}) (t':=s.toks) (λ _ _ q=>MH _ q) (MK _) (pC s.heap I.big)
theorem AK.zero(h:H Δ=@(nY bk)):AK bk K J H Δ []:=by
 cases bk
 .exact⟨[],h,.nil⟩
 .exact⟨[],h,.nil⟩
def rR(prog:Program)(w:World)(A:Around)(e:Expr):Prop:=∀(R:Result->Shared->Prop) (s:Shared) (it a:Value) (env:Env),codeAny (model prog w) A (.compLoop e 0 it a env) R s->
 wpAny (model prog w) A (pyIter it) (λ g b=>codeAny (model prog w) A (.compLoop e 0 g a env) R b) (notedBy (model prog w) A env λ x b=>R (.error x) b) s->codeAny (model prog w) A (.compStart e 0 it a env) R s
theorem qd{ev:Loc->Mem->R W}{js:List Nat}{gs:List Comprehension}{oK:E}{rw:Env->Addr->(Shared->Prop)->Shared->Prop}(hc:X.calm=true)(ok:fX X.N js scope X.env.scope)(hcl:clausesOf e=⟨tg,iter,ifs,0⟩::gs)(hst:rR X.prog X.w X.A e)
  (hlr:∀it Δ env,qb X.prog X.w X.A e 0 tg ifs (.ref it) (.ref Δ) env (rw env Δ)) (hmo:∀{Δ:Addr} {env:Env} {Q Q':Shared->Prop} {s:Shared},(∀s,Q s->Q' s)->rw env Δ Q s->rw env Δ Q' s)
  (hev:∀{Z:Loc} {m:Mem} {w:W} {m':Mem},ev Z m=.ok w m'->∃acc Z9 m9 o,gr C (.gen t js oK di rest) Z m []=.ok (acc,Z9) m9/\w=.ref m9.length/\m'=m9++[o]/\∀{J:List Addr} {H:Hp} {Δ:Addr},AK bk X.K J H Δ acc->RO X.K cl J H Δ o)
  (hi:PI X tg iter (SI X cl (cN C oK))) (pg:∀L g H₀ M pn,PG (X.comp scope L g H₀ M pn) tg (SG (X.comp scope L g H₀ M pn) cl (fC C (.pt t)))) (vL:∀L g H₀ M pn,j7 (X.comp scope L g H₀ M pn) ifs (ST (X.comp scope L g H₀ M pn) cl (aZ C di)))
  (pb:∀L g H₀ M pn Δ,PB (X.comp scope L g H₀ M pn) (rw (X.comp scope L g H₀ M pn).env Δ) (SB bk (X.comp scope L g H₀ M pn) cl Δ (gr C rest)))
  (hs:∀x,foldedSetIterable iter X.env x=pure x) {Q:VK} (I:Inv X aa Y H s) (h:SE X cl ev Y H Q) {use:Option (Value->Sem Unit)} {Q':Value->Shared->Prop}
  (fin:∀(D Cf:Addr) (s':Shared) (H':Hp),(∀h',(∀b o,b≠Cf->s'.heap.get? b=some o->h'.get? b=some o)->Inv X aa Y H' {s' with heap:=h'})->Q (.ref D) H'->(∃m,s'.heap.Ns Cf m)->H' Cf=none->Cf≠X.env.locals->X.s₀⁻¹<=Cf->(∀x c,X.env.cells.lookup x=some c->c≠Cf)->(∀p∈X.pn++aa,p.1≠Cf)->
   compPost (model X.prog X.w) X.A X.xe use Q' (.ref D) Cf (.ok .next) s') :
  wpAny (model X.prog X.w) X.A (comprehension e scope X.env p (accN bk) false (eval iter X.env) use) Q' X.xe s:=by
 let⟨J,Z,m,w,m',r,l,ew,k⟩:=h;let⟨ws,Z9,m9,ob,e8,rfl,rfl,hob⟩:=hev ew;clear ew;erw[gv] at e8;let⟨src,m1,e1,e9⟩:=R.af e8;clear e8;have hclos:closureFor scope X.env=pure (cZ X.env scope.names []):=lG λ y hy hk=>I.ok.has y.1 (ok.free y hy hk);refine wpAny_comprehension_free hcl hs hclos ok.kind ok.loc (br (hi aa s Y H (λ MD H1=>∃U,Ext J H U H1/\Rel X.K cl U m1 H1/\IS X cl MD src U H1) I ⟨J,Z,m,src,m1,r,l,e1,fun U H1 MD x1 r1 is=>⟨U,x1,r1,is⟩⟩) λ v s1 h1=>br h1 λ itv B h2=>?_);let⟨it,M,tn,MD,H2,e2,I2,Tu,st2,f2,S,x2,r2,is⟩:=h2;subst e2;have Jo:H2 B⁻¹=none:=I2.fresh;refine yc ?_;have I3:Inv X aa Y (upd H2 B⁻¹ (nY bk)) {B with heap:=B.heap.push (AO bk)}:=AQ I2;generalize hs3:({B with heap:=B.heap.push (AO bk)}:Shared)=s3 at I3 ⊢;have Ii:∀b o,B.heap.get? b=some o->s3.heap.get? b=some o:=λ b o e=>by rw[<-hs3];exact MH _ e
 have AR:∀b∈M,b<B⁻¹:=λ b j=>by
  let⟨o,e,_⟩:=Tu.obj _ _ st2 b j;exact MI e
 have EI:s3⁻¹=B⁻¹+1:=by rw[<-hs3];exact NV _ _
 have f3:∀b∈M,iW X aa (upd H2 B⁻¹ (nY bk)) b:=λ b j=>⟨by rw[ai (MQ (AR b j))];exact(f2 b j).1,(f2 b j).2⟩;refine I3.enter ok f3 (λ b j=>by rw[EI];exact Oq (AR b j)) λ O h₁ old F I4=>?_;have Lv:tn 0 h₁:=Tu.keep _ _ _ st2 λ b j o e=>old _ _ (Ii _ _ e);have stat:∀{H':Hp},(∀b∈M,H' b=none)->∀b∈M,iW (X.comp scope O s3 (upd H2 B⁻¹ (nY bk)) M aa) [] H' b:=λ {H'} hn b j=>by
  refine⟨hn b j,?_,λ z=>?_,.inl j,λ x c e=>?_,λ p hp=>?_⟩
  .show b≠s3⁻¹;exact MQ (by rw[EI];exact Oq (AR b j))
  .rcases MX.mp (I3.iV b z) with q | q
   .exact(f2 b j).2.1 q
   .exact(f2 b j).2.2.1 q
  .rcases F.old x c e with e | e
   .exact(f2 b j).2.2.2.2.1 x c e
   .exact NS (QA (by rw[EI];exact Oq (AR b j)) e)
  .exact(f2 b j).2.2.2.2.2 p (~~~hp)
 have x3:Ext S H2 S (upd H2 B⁻¹ (nY bk)):=⟨⟨[],by simp,by simp⟩,λ h _ _=>by rw[ai (au h Jo)];exact h⟩;have r3:Rel X.K cl S m1 (upd H2 B⁻¹ (nY bk)):=⟨r2.len,r2.nd,λ h1 h2=>by
  have q:=r2.obj h1 h2;let⟨u,e,_⟩:=q.ex;exact q.mono r2 x3 (ai (au e Jo))⟩
 have l3:RL X.K S (upd H2 B⁻¹ (nY bk)) (D.fB js Z) (L2.fB js Y):=((l.mono r x2).mono r2 x3).fB;have nD:B⁻¹∉S:=r2.HF Jo;have hD:H B⁻¹=none:=by
  cases z:H B⁻¹ with
  |none=>rfl
  |some o=>
   by_cases j:B⁻¹∈J
   .let⟨γ,hγ,_⟩:=x2.pre;exact absurd (by rw[hγ];exact NY _ j) nD
   .have:=x2.keep z j 's';rw[Jo] at this;cases this
 have loop:∀s₄:Shared,s₄={s3 with heap:=h₁}->
   codeAny (model X.prog X.w) X.A (.compLoop e 0 (.ref it) (.ref B⁻¹) (compEnvC scope O s3⁻¹ X.env))
    (compPost (model X.prog X.w) X.A X.xe use Q' (.ref B⁻¹) s3⁻¹) s₄:=by
  intro s₄ e₄;subst e₄;refine qc (X:=X.comp scope O s3 (upd H2 B⁻¹ (nY bk)) M aa) (cl:=cl) (C:=C) (Δ:=B⁻¹) rfl hc (hlr _ _ _) hmo Tu is (pg _ _ _ _ _) (vL _ _ _ _ _) (pb _ _ _ _ _ _)
   I4 Lv (stat λ b j=>(f3 b j).1) ⟨[],by simp⟩ (λ h=>x3.Jj r2 zu h) (λ h=>x3.fz r2 zu h) r3 l3 (AK.zero av) nD e9 ?_
  intro s' σ' H' J' I' x' r' l' ak' nd';let⟨m6,hm6,_⟩:=id I'.loc;have KJ:=r'.out nd' (hob ak');have KL:Ext J H (J'++[B⁻¹]) H':=by
   let⟨γ,hγ,fγ⟩:=x2.pre;let⟨δ,hδ,fδ⟩:=x'.pre;refine⟨⟨γ++δ++[B⁻¹],by rw[hδ,hγ];simp,λ a ha=>?_⟩,λ {a o} h j _=>?_⟩
   .rcases Nc.mp ha with ha | ha
    .rcases Nc.mp ha with ha | ha
     .exact fγ a ha
     .have z3:=fδ a ha;have na:a≠B⁻¹:=by
       rintro rfl;rw[av] at z3;cases z3
      rw[ai na] at z3;cases z:H a with
      |none=>rfl
      |some o=>
       by_cases j:a∈J
       .let⟨u,eu,_⟩:=r2.ex (a:=a) (by rw[hγ];exact NY _ j);rw[z3] at eu;cases eu
       .have:=x2.keep z j 's';rw[z3] at this;cases this
    .simp at ha;rw[ha];exact hD
   .have h2:=x2.keep h j 's';have na:a≠B⁻¹:=au h hD;have nb:a∉S:=λ z=>by
     rw[hγ] at z;rcases Nc.mp z with z | z
     .exact j z
     .rw[fγ a z] at h;cases h
    exact x'.keep (by rw[ai na];exact h2) nb (~~~na)
  have KN:Q (.ref B⁻¹) H':=k _ _ _ KL KJ (.ref (r'.last _));refine fin _ _ s' H' (λ h' hk=>I3.DM f3 I' hk) KN ⟨m6,hm6⟩ I'.free (NS (MO I3.lt (MK _))) I3.sz (λ x c e=>?_) (λ p hp=>MQ (MI (I3.pin p hp).1));let⟨v,o,q,_⟩:=I3.cell x c e;exact MQ (MI q)
 exact hst _ _ _ _ _ (loop _ rfl) (Tu.self _ 0 _ _ _ Lv (loop _ rfl))
theorem yd{k:Key}{a:List (Key×V)}(h:∀p∈a,p.1≠k):putK a k v=a++[(k,v)]:=by
 unfold putK;rw[M8];intro z;let⟨p,b,e⟩:=List.any_eq_true.mp z;exact h p b (Ot e)
theorem vd:∀{a b:List (Key×V)},(a.map (·.1)).Nodup->(∀p∈b,∀q∈a,p.1≠q.1)->fc b a=b++a:=by
 intro a
 induction a with
 |nil=>intro b _ _;simp[fc]
 |cons q r l=>
  intro b h k;rw[Ni,nodup_cons] at h;have e:fc b (q::r)=fc (putK b q.1 q.2) r:=rfl;rw[e,yd λ p g=>k p g q Nk,l h.2 λ p g x j=>?_,OC]
  .rfl
  .rcases Nc.mp g with g | g
   .exact k p g x (M3 _ j)
   .rw[Nu] at g;subst g;intro z;exact h.1 (Nj.mpr ⟨x,j,z.symm⟩)
theorem qe{g:List (Str×V)}(h:(g.map (·.1)).Nodup):((keyed g).map (·.1)).Nodup:=by
 have e:(keyed g).map (·.1)=(g.map (·.1)).map (Sum.inr:Str->Key):=by simp[keyed,OY]
 rw[e];generalize g.map (·.1)=l at h
 induction l with
 |nil=>exact nodup_nil
 |cons a r j=>
  rw[nodup_cons] at h;rw[Ni,nodup_cons];refine⟨λ z=>?_,j h.2⟩;let⟨b,k,e⟩:=Nj.mp z;cases e;exact h.1 k
variable{scope:Scope}{pos:Pos}{js:List Nat}{tg iter:Expr}{ifs:List Expr}{t:T}{oK:E}{di:Es}{rest:G}
theorem tw{w:W}(h:ao C (.comp (.gen t js oK di rest)) Z m=.ok w m'):∃b g a o,gr C (.gen t js oK di rest) Z m []=.ok (b,g) a/\w=.ref a.length/\m'=a++[o]/\∀{J:List Addr} {H:Hp} {Δ:Addr},AK false X.K J H Δ b->RO X.K cl J H Δ o:=by
 erw[fj] at h;let⟨⟨ws,g⟩,a,k,j⟩:=R.af h;cases j;exact⟨ws,g,a,.lst ws,k,rfl,rfl,λ h=>h⟩
section
variable{ev:Loc->Mem->R W}{gs:List Comprehension}{rw:Env->Addr->(Shared->Prop)->Shared->Prop}
theorem AS(hc:X.calm=true)(U:fX X.N js scope X.env.scope)(L:clausesOf e=⟨tg,iter,ifs,0⟩::gs)(r:rR X.prog X.w X.A e)
  (B:∀it Δ env,qb X.prog X.w X.A e 0 tg ifs (.ref it) (.ref Δ) env (rw env Δ)) (y:∀{Δ:Addr} {env:Env} {Q Q':Shared->Prop} {s:Shared},(∀s,Q s->Q' s)->rw env Δ Q s->rw env Δ Q' s)
  (F:∀{Z:Loc} {m:Mem} {w:W} {m':Mem},ev Z m=.ok w m'->∃k Z9 l o,gr C (.gen t js oK di rest) Z m []=.ok (k,Z9) l/\w=.ref l.length/\m'=l++[o]/\∀{J:List Addr} {H:Hp} {Δ:Addr},AK bk X.K J H Δ k->RO X.K cl J H Δ o)
  (hi:PI X tg iter (SI X cl (cN C oK))) (O:∀g a H₀ j pn,PG (X.comp scope g a H₀ j pn) tg (SG (X.comp scope g a H₀ j pn) cl (fC C (.pt t)))) (M:∀g a H₀ j pn,j7 (X.comp scope g a H₀ j pn) ifs (ST (X.comp scope g a H₀ j pn) cl (aZ C di)))
  (S:∀g a H₀ j pn Δ,PB (X.comp scope g a H₀ j pn) (rw (X.comp scope g a H₀ j pn).env Δ) (SB bk (X.comp scope g a H₀ j pn) cl Δ (gr C rest)))
  (hs:∀x,foldedSetIterable iter X.env x=pure x) (KO:eval e X.env=comprehension e scope X.env pp (accN bk) false (eval iter X.env) none):PE X e (SE X cl ev):=by
 intro aa s Y H Q I h;rw[KO];refine qd hc U L r B y F hi O M S hs I h ?_;intro D Cf s' H' hI q z hn h1 h2 h3 h4;let⟨m,z⟩:=z;exact⟨m,z,λ h' u=>⟨.ref D,H',hI h' λ b o hb e=>u.extBut b o hb e,rfl,q⟩⟩
theorem AU{y:Str}{L B:Pos}{de:E}(hN:X.N.Nodup)(hy:X.N[i]?=some y)(hx:L2.Loc X.env.scope y)(hc:X.calm=true)(ok:fX X.N js scope X.env.scope)(hcl:clausesOf e=⟨tg,iter,ifs,0⟩::gs)(hst:rR X.prog X.w X.A e)
  (hlr:∀it Δ env,qb X.prog X.w X.A e 0 tg ifs (.ref it) (.ref Δ) env (rw env Δ)) (hmo:∀{Δ:Addr} {env:Env} {Q Q':Shared->Prop} {s:Shared},(∀s,Q s->Q' s)->rw env Δ Q s->rw env Δ Q' s)
  (hev:∀{Z:Loc} {m:Mem} {w:W} {m':Mem},ao C de Z m=.ok w m'->∃O Z9 S o,gr C (.gen t js oK di rest) Z m []=.ok (O,Z9) S/\w=.ref S.length/\m'=S++[o]/\∀{J:List Addr} {H:Hp} {Δ:Addr},AK bk X.K J H Δ O->RO X.K cl J H Δ o)
  (hi:PI X tg iter (SI X cl (cN C oK))) (pg:∀j g H₀ z pn,PG (X.comp scope j g H₀ z pn) tg (SG (X.comp scope j g H₀ z pn) cl (fC C (.pt t)))) (vL:∀j g H₀ z pn,j7 (X.comp scope j g H₀ z pn) ifs (ST (X.comp scope j g H₀ z pn) cl (aZ C di)))
  (pb:∀j g H₀ z pn Δ,PB (X.comp scope j g H₀ z pn) (rw (X.comp scope j g H₀ z pn).env Δ) (SB bk (X.comp scope j g H₀ z pn) cl Δ (gr C rest)))
  (hs:∀x,foldedSetIterable iter X.env x=pure x) (U:swapsWith e @(.Name y L) B.line X.env=pure true) (hf:X.fn y=true\/X.env.scope.names.lookup y=some .local)
 (Mh:evalThenUse e X.env (assign (.Name y L) X.env)=(do let _ <-comprehension e scope X.env pp (accN bk) false (eval iter X.env) @(assign (.Name y L) X.env))) :
  PS X (.Assign [.Name y L] e B) (SS X cl (bf C (.asg (.pt (.var i)) de))):=by
 intro aa s Y H D I h;let⟨J,Z,m,f,m',r,l,M,k⟩:=h;erw[gf] at M;let⟨w,m1,e1,M⟩:=R.af M;erw[fC,aA,R.bind] at M;cases M;have h:SE X cl (ao C de) Y H (λ v H'=>D.nx (Y.set i (some v)) H'):=⟨J,Z,m,w,_,r,l,e1,fun β1 H1 v1 x1 r1 q1=>k _ _ x1 r1 _ ((l.mono r x1).set q1)⟩;rw[exec_Assign_Name_used _ _ _ _ U];refine MF (NC (MF ?_));rw[Mh];refine MF (MV (qd (use:=@(assign (.Name y L) X.env)) (Q':=λ _ F=>SP X aa D .next F) hc ok hcl hst hlr hmo hev hi pg vL pb hs I h ?_) (λ _ F hq=>MP (MP hq)) λ _ _ e=>e);intro Dl Cf F H' hI q hm hn h1 h2 h3 h4;let⟨m,hm⟩:=hm;have I':Inv X aa Y H' F:=hI F.heap λ b o _ e=>e;refine wpAny_assign_Name (lW I' hN hy hx (v:=.ref Dl) (u:=.ref Dl) rfl (λ s2 I2 hsb=>?_) hf);let⟨a,sb,ha⟩:=hsb;have hne:Cf≠a:=by
  rcases ha with rfl | ha
  .exact h1
  .exact(h3 _ _ ha).symm
 refine⟨m,hm.sameBut sb hne,λ h' hs'=>⟨_,H',?_,q⟩⟩;exact I2.turned (t':=s2.toks) (it:=Cf) (λ b o hb e=>hs'.extBut b o hb e) hn h1 (.inr h2) h3 h4
end
structure CL(X:L2.Cx)(cl:Cl)(C:D.Cx)(elt tg iter:Expr)(ifs:List Expr)(gs:List Comprehension)(scope:Scope)(pos:Pos)(js:List Nat)(t:T)(oK:E)(di:Es)(rest:G):Prop where
 calm:X.calm=true
 ok:fX X.N js scope X.env.scope
 next:∀g',gs[0]?=some g'->g'.is_async=0/\∀env x,foldedSetIterable g'.iter env x=pure x
 hi:PI X tg iter (SI X cl (cN C oK))
 pg:∀cl' s₀ H₀ fp pn,PG (X.comp scope cl' s₀ H₀ fp pn) tg (SG (X.comp scope cl' s₀ H₀ fp pn) cl (fC C (.pt t)))
 vL:∀cl' s₀ H₀ fp pn,j7 (X.comp scope cl' s₀ H₀ fp pn) ifs (ST (X.comp scope cl' s₀ H₀ fp pn) cl (aZ C di))
 pb:∀cl' s₀ H₀ fp pn Δ,PB (X.comp scope cl' s₀ H₀ fp pn) (λ Q s=>dD X.prog X.w X.A (.ListComp elt (⟨tg,iter,ifs,0⟩::gs) scope pos) elt 0 (.ref Δ) (X.comp scope cl' s₀ H₀ fp pn).env Q (⟨tg,iter,ifs,0⟩::gs)[0+1]? s) (SB false (X.comp scope cl' s₀ H₀ fp pn) cl Δ (gr C rest))
 hs:∀x,foldedSetIterable iter X.env x=pure x
section
variable{gs:List Comprehension}
theorem EJ(h:CL X cl C elt tg iter ifs gs scope pos js t oK di rest)(l:eval (.ListComp elt (⟨tg,iter,ifs,0⟩::gs) scope pos) X.env=comprehension (.ListComp elt (⟨tg,iter,ifs,0⟩::gs) scope pos) scope X.env pp (newList []) false (eval iter X.env) none) :
  PE X (.ListComp elt (⟨tg,iter,ifs,0⟩::gs) scope pos) (SE X cl (ao C (.comp (.gen t js oK di rest)))):=
 AS (bk:=false) (rw:=λ env Δ Q s=>dD X.prog X.w X.A (.ListComp elt (⟨tg,iter,ifs,0⟩::gs) scope pos) elt 0 (.ref Δ) env Q (⟨tg,iter,ifs,0⟩::gs)[0+1]? s) h.calm h.ok rfl (λ _ _ _ _ _ a b=>fq rfl a b)
  (λ _ _ _=>ie rfl λ j g=>⟨(h.next j g).1,(h.next j g).2 _⟩) (λ k z=>gy k z) (λ h=>tw h) h.hi h.pg h.vL h.pb h.hs l
theorem AV{y:Str}{l g:Pos}(F:X.N.Nodup)(r:X.N[i]?=some y)(u:L2.Loc X.env.scope y)(h:CL X cl C elt tg iter ifs gs scope pos js t oK di rest)
  (k:swapsWith (.ListComp elt (⟨tg,iter,ifs,0⟩::gs) scope pos) @(.Name y l) g.line X.env=pure true) (B:X.fn y=true\/X.env.scope.names.lookup y=some .local) :
  PS X (.Assign [.Name y l] (.ListComp elt (⟨tg,iter,ifs,0⟩::gs) scope pos) g) (SS X cl (bf C (.asg (.pt (.var i)) (.comp (.gen t js oK di rest))))):=
 AU (bk:=false) (rw:=λ env Δ Q s=>dD X.prog X.w X.A (.ListComp elt (⟨tg,iter,ifs,0⟩::gs) scope pos) elt 0 (.ref Δ) env Q (⟨tg,iter,ifs,0⟩::gs)[0+1]? s) F r u h.calm h.ok rfl (λ _ _ _ _ _ a b=>fq rfl a b)
  (λ _ _ _=>ie rfl λ q j=>⟨(h.next q j).1,(h.next q j).2 _⟩) (λ x z=>gy x z) (λ h=>tw h) h.hi h.pg h.vL h.pb h.hs k B rfl
variable{kx vx:Expr}{dk dv:E}
end
theorem AW:j7 X [] (ST X cl (aZ C .nil)):=by
 intro aa s Y H Q I h;let⟨J,Z,m,b,m',r,l,e,k⟩:=h;erw[bX] at e;cases e;exact wM aa s Y H Q I (k _ _ Ext.refl r)
theorem AX{a:Expr}{q:E}(x:PT X a (ST X cl (bB C q))):j7 X [a] (ST X cl (aZ C %[|q])):=by
 intro aa s Y H Q I h;refine wN x aa s Y H Q I ?_;let⟨J,Z,m,b,m',r,l,e,k⟩:=h;erw[bX] at e;let⟨c,w,y,e⟩:=R.af e;refine⟨J,Z,m,c,w,r,l,y,fun u z g j=>?_⟩;cases c with
 |true=>erw[Nf] at e;cases e;exact k _ _ g j
 |false=>erw[MY,Np] at e;cases e;exact k _ _ g j
end
def cU(γ:List Addr)(h:Heap)(H:Hp):Hp:=λ b=>if b∈γ then match H b,h.get? b with
  |some (.lst vs),some o=>some (.frz o (.lst vs))
  |some (.ins c dx fs),some o=>some (.frz o (.ins c dx fs))
  |u,_=>u else H b
section
variable{γ:List Addr}{h:Heap}{H:Hp}{b:Addr}
theorem ig:cU γ h H b=H b\/∃o u,b∈γ/\H b=some u/\h.get? b=some o/\cU γ h H b=some (.frz o u)/\((∃vs,u=.lst vs)\/∃c dx k,u=.ins c dx k):=by
 unfold cU
 by_cases a:b∈γ
 .erw[MW a];split
  .ext vs o j g;exact .inr ⟨o,_,a,j,g,rfl,.inl ⟨vs,rfl⟩⟩
  .ext c dx k o j g;exact .inr ⟨o,_,a,j,g,rfl,.inr ⟨c,dx,k,rfl⟩⟩
  .exact .inl rfl
 .exact .inl (M8 a)
theorem gJ(e:H b=none):cU γ h H b=none:=by
 rcases ig (γ:=γ) (h:=h) (H:=H) (b:=b) with z | ⟨o,u,_,z,_⟩
 .rw[z,e]
 .rw[e] at z;cases z
theorem bL{u:HO}(e:H b=some u)(j:∀vs,u≠.lst vs)(g:∀c dx a,u≠.ins c dx a):cU γ h H b=some u:=by
 rcases ig (γ:=γ) (h:=h) (H:=H) (b:=b) with z | ⟨o,k,_,z,_,_,⟨vs,rfl⟩ | ⟨c,dx,a,rfl⟩⟩
 .rw[z,e]
 .rw[e] at z;cases z;exact absurd rfl (j _)
 .rw[e] at z;cases z;exact absurd rfl (g _ _ _)
theorem bu(e:b∉γ):cU γ h H b=H b:=by unfold cU;rw[M8 e]
theorem ye{o:Obj}(e:b∈γ)(g:H b=@(.lst vs))(a:h.get? b=some o):cU γ h H b=some (.frz o (.lst vs)):=by unfold cU;rw[MW e,g,a]
theorem yf{c:Addr}{a:List (Str×V)}{o:Obj}(e:b∈γ)(j:H b=@(.ins c dx a))(g:h.get? b=some o):cU γ h H b=some (.frz o (.ins c dx a)):=by unfold cU;rw[MW e,j,g]
theorem Ij{w:World}(x:fD P w H h):fD P w (cU γ h H) h:=λ a u e=>by
 have g:∀v,H a=some v->aW P w (D.cU γ h H) h a v:=λ v l=>(x a v l).stay (λ _ _ _ q=>q) (λ c q=>bL q (by intro _ z;cases z) (by intro _ _ _ z;cases z)) λ c r q=>bL q (by intro _ z;cases z) (by intro _ _ _ z;cases z);rcases ig (γ:=γ) (h:=h) (H:=H) (b:=a) with z | ⟨o,v,_,z,k,j,_⟩
 .exact g u (by rw[<-z];exact e)
 .rw[j] at e;cases e;exact⟨k,g v z⟩
end
theorem Ca{X:L2.Cx}(I:Inv X aa Y H s)(γ:List Addr):Inv X aa Y (cU γ s.heap H) s where
 ok:=I.ok
 os:=I.os
 bare:=I.bare
 base:={
  keep:=I.base.keep
  slot:=I.base.slot
  free:=λ b o q n g=>gJ (I.base.free b o q n g)
  there:=I.base.there
  tups:=λ b xs q=>bL (I.base.tups b xs q) (by intro _ z;cases z) (by intro _ _ _ z;cases z)
  gi:=λ b o u q=>bL (I.base.gi b o u q) (by intro _ z;cases z) (by intro _ _ _ z;cases z)
  gM:=λ b ps q=>let ⟨more,e⟩:=I.base.gM b ps q;⟨more,bL e (by intro _ z;cases z) (by intro _ _ _ z;cases z)⟩}
 loc:=I.loc
 cell:=I.cell
 free:=gJ I.free
 freeC:=λ x c e=>gJ (I.freeC x c e)
 pin:=λ p h=>let ⟨a,b,c⟩:=I.pin p h;⟨a,gJ b,c⟩
 hok:=Ij I.hok
 len:=I.len
section
variable{K:ae}{cl:Cl}{J γ:List Addr}{H:Hp}{h:Heap}{m:Mem}
theorem Cb{a:Addr}(q:dQ K H a vs):dQ K (cU γ h H) a vs:=by
 rcases q with (q | ⟨o,q⟩) | q
 .exact .inl (.inl (bL q (by intro _ z;cases z) (by intro _ _ _ z;cases z)))
 .exact .inl (.inr ⟨o,bL q (by intro _ z;cases z) (by intro _ _ _ z;cases z)⟩)
 .exact .inr q
theorem Cd{a:Addr}(q:p6 K H a vs):p6 K (cU γ h H) a vs:=by
 rcases q with⟨o,q⟩ | q
 .exact .inl ⟨o,bL q (by intro _ z;cases z) (by intro _ _ _ z;cases z)⟩
 .exact .inr q
theorem RW.ve{w:W}(q:RW K (J++γ) H w v):gQ J.length w=true->RW K J (cU γ h H) w v:=
 RW.rec (motive_1:=λ w v _=>gQ J.length w=true->RW K J (cU γ h H) w v) (motive_2:=λ w v _=>bF J.length w=true->aJ K J (cU γ h H) w v) (λ _=>.non) (λ b _=>.bl b) (λ b _=>.int b) (λ b _=>.str b) (λ h _ i e=>.tup (Cb h) (i e)) (λ h _ i e=>.fz (Cd h) (i e)) (λ h z _ i e=>.obj (bL h (by intro _ z;cases z) (by intro _ _ _ z;cases z)) z (i e)) (λ q e=>.ref (by rw[ML (Ot e)] at q;exact q)) (λ _=>.nil) (λ _ _ a b e=>.cons (a (MN.mp e).1) (b (MN.mp e).2)) q
theorem aJ.ve{w:List W}{v:List V}(q:aJ K (J++γ) H w v)(e:bF J.length w=true):aJ K J (cU γ h H) w v:=by
 induction w generalizing v with
 |nil=>cases q;exact .nil
 |cons x w g=>cases q with | cons a b=>exact .cons (a.ve (MN.mp e).1) (g b (MN.mp e).2)
theorem fS.snd:∀{a:List (Str×W)} {gs:List (Str×V)},fS K J H a gs->aJ K J H (a.map (·.2)) (gs.map (·.2))/\a.map (·.1)=gs.map (·.1)
 |_,_,.nil=>⟨.nil,rfl⟩
 |_,_,.cons q t=>⟨.cons q t.snd.1,by rw[Ni,Ni,t.snd.2]⟩
theorem fS.of:∀{a:List (Str×W)} {gs:List (Str×V)},a.map (·.1)=gs.map (·.1)->aJ K J H (a.map (·.2)) (gs.map (·.2))->fS K J H a gs
 | [],[],_,_=>.nil
 |(f,w)::a,(g,v)::gs,e,t=>by
  erw[Ni,List.cons.injEq] at e;let⟨rfl,e⟩:=e;cases t with
  |cons q t=>exact .cons q (fS.of e t)
 | [],_::_,e,_=>by simp at e
 |_::_,[],e,_=>by simp at e
mutual
theorem RW.jB{g:Nat->Option W}(j:∀{n w v},g n=some w->RW K (J++γ) H (.ref n) v->RW K J (cU γ h H) w v):∀{w:W} {v:V} {w1:W},RW K (J++γ) H w v->D.jB g w=some w1->RW K J (cU γ h H) w1 v
 |_,_,_,.non,e=>by erw[D.jB] at e;cases e;exact .non
 |_,_,_,.bl b,e=>by erw[D.jB] at e;cases e;exact .bl b
 |_,_,_,.int i,e=>by erw[D.jB] at e;cases e;exact .int i
 |_,_,_,.str s,e=>by erw[D.jB] at e;cases e;exact .str s
 |_,_,_,.tup q t,e=>by
  erw[D.jB,ME] at e;let⟨ys,a,rfl⟩:=e;exact .tup (Cb q) (aJ.d9 j t a)
 |_,_,_,.fz q t,e=>by
  erw[D.jB,ME] at e;let⟨ys,a,rfl⟩:=e;exact .fz (Cd q) (aJ.d9 j t a)
 |_,_,_,.obj q z t,e=>by
  erw[D.jB,ME] at e;let⟨ys,a,rfl⟩:=e;exact .obj (bL q (by intro _ z;cases z) (by intro _ _ _ z;cases z)) z (aJ.d9 j t a)
 |_,_,_,.ref q,e=>j (by simpa only[D.jB] using e) (.ref q)
theorem aJ.d9{g:Nat->Option W}(a:∀{n w v},g n=some w->RW K (J++γ) H (.ref n) v->RW K J (cU γ h H) w v):∀{w:List W} {v:List V} {w1:List W},aJ K (J++γ) H w v->D.d9 g w=some w1->aJ K J (cU γ h H) w1 v
 |_,_,_,.nil,e=>by erw[D.d9] at e;cases e;exact .nil
 |_,_,_,.cons q t,e=>by
  erw[D.d9] at e;split at e
  .cases e
  .ext y j;split at e
   .cases e
   .ext ys b;cases e;exact .cons (RW.jB a q j) (aJ.d9 a t b)
end
theorem nZ(g:∀a u,H a=some u->((∃vs,u=.lst vs)\/∃c dx y,u=.ins c dx y)->∃o,h.get? a=some o)(r:Rel K cl (J++γ) m H):∀(d:Nat) {n:Nat} {w:W} {v:V},jK m J.length d n=some w->RW K (J++γ) H (.ref n) v->RW K J (cU γ h H) w v
 |0,n,w,v,e,q=>by
  erw[jK] at e;split at e
  .ext b;cases e;exact q.ve (by simpa only[gQ,Nz] using b)
  .cases e
 |d+1,n,w,v,e,q=>by
  erw[jK] at e;split at e
  .ext b;cases e;exact q.ve (by simpa only[gQ,Nz] using b)
  .ext b;cases q with
   |ref j=>
    ext a;have x:a∈γ:=by
     rw[MU 'o'] at j;exact Nm j
    split at e
    .ext xs l;erw[ME] at e;let⟨ys,k,rfl⟩:=e;let⟨vs,z,t⟩:=r.obj l j;let⟨o,ho⟩:=g a _ z (.inl ⟨_,rfl⟩);exact .fz (.inl ⟨o,ye x z ho⟩) (t.d9 (λ e q=>nZ g r d e q) k)
    .ext c y l;erw[ME] at e;let⟨ys,k,rfl⟩:=e;let⟨dx,fs',z,t⟩:=r.obj l j;let⟨o,ho⟩:=g a _ z (.inr ⟨_,_,_,rfl⟩);exact .obj (yf x z ho) t.snd.2 (t.snd.1.d9 (λ e q=>nZ g r d e q) k)
    .cases e
end
theorem Ce{X:L2.Cx}{cl:Cl}{ex:Expr}(hp:PE X ex (SE X cl (ao C d))):PE X ex (SE X cl (ao C (.frz d))):=by
 rintro aa s Y H Q I ⟨J,Z,m,w,m',r,l,e,k⟩;erw[gu] at e;cases h0:ao C d Z m with
 |no=>rw[h0] at e;cases e
 |ok w0 m0=>
  rw[h0] at e;erw[xm] at e;split at e
  .ext hc;split at e
   .ext w1 e1;cases e;refine br (hp aa s Y H (λ v j=>∃b,Ext J H b j/\Rel X.K cl b m0 j/\RW X.K b j w0 v) I ⟨J,Z,m,w0,m0,r,l,h0,fun b j v1 B g O=>⟨b,B,g,O⟩⟩) λ u s1 ⟨v,j,I1,rv,b,B,g,O⟩=>?_;let⟨A,rfl,R⟩:=B.pre;have U:=r.len;have hh:∀a u,j a=some u->((∃vs,u=.lst vs)\/∃c dx N,u=.ins c dx N)->∃o,s1.heap.get? a=some o:=λ a u q hu=>by
     rcases hu with⟨vs,rfl⟩ | ⟨c,dx,N,rfl⟩
     .let⟨_,_,_,_,e⟩:=I1.hok a _ q;exact⟨_,e⟩
     .let⟨_,_,_,e,_⟩:=I1.hok a _ q;exact⟨_,e⟩
    refine⟨v,cU A s1.heap j,Ca I1 A,rv,k J _ v ⟨⟨[],by simp,by simp⟩,λ {a o} q L _=>?_⟩ ⟨?_,?_,λ {n o a} M h2=>?_⟩ ?_⟩
    .rw[bu λ z=>by rw[R a z] at q;cases q];exact B.keep q L 's'
    .rw[Of,U];omega
    .exact(Ov.mp g.nd).1
    .have L:n<m.length:=by
      have:=(MG.mp M).1;rw[Of] at this;omega
     rw[Oa L] at M;have hb:(J++A)[n]?=some a:=by rw[ML 'o'];exact h2
     have F:gj J.length o=true:=by
      rw[U];exact NR.mp hc.2 o (Nm (by rw[Oa L];exact M))
     have x:a∉A:=λ z=>by
      have:=(Ov.mp g.nd).2.2 a (Nm h2) a z;exact this rfl
     have q:=g.obj M hb;cases o with
     |lst ws=>let⟨vs,e,t⟩:=q;exact⟨vs,(bu x).trans e,t.ve (by simpa only[gj] using F)⟩
     |ins c N=>
      let⟨dx,h,e,t⟩:=q;exact⟨dx,h,(bu x).trans e,.of t.snd.2 (t.snd.1.ve (by simpa only[gj] using F))⟩
     |set ks=>let⟨S,e,t⟩:=q;exact⟨S,(bu x).trans e,t⟩
     |dic N=>
      let⟨h,e,t⟩:=q;exact⟨h,(bu x).trans e,.of t.snd.2 (t.snd.1.ve (by simpa only[gj] using F))⟩
     |exc c f ws=>
      let⟨oa,od,vs,e,xo,t,d⟩:=q;exact⟨oa,od,vs,(bu x).trans e,xo,t.ve (by simpa only[gj] using F),d.imp id λ ⟨dx,y,d1,d2,d3⟩=>⟨dx,y,d1,d2,(bu λ z=>g.HE d3 (Nq _ z)).trans d3⟩⟩
    .rw[<-U] at e1;exact O.jB (λ e q=>nZ hh g 8 e q) e1
   .cases e
  .cases e
theorem RW.Ik{w:W}(q:RW K J H w v):gQ J.length w=true:=
 RW.rec (motive_1:=λ w v _=>gQ J.length w=true) (motive_2:=λ w v _=>bF J.length w=true) rfl (λ _=>rfl) (λ _=>rfl) (λ _=>rfl) (λ _ _ i=>i) (λ _ _ i=>i) (λ _ _ _ i=>i) (λ q=>NH (MG.mp q).1) rfl (λ _ _ a b=>MN.mpr ⟨a,b⟩) q
theorem Rel.frozen{X:L2.Cx}{cl:Cl}{j:Shared}{γ:List Addr}{g:Hp}{m0:Mem}(r:Rel X.K cl J m H)(O:Ext J H (J++γ) g)(B:∀a∈γ,H a=none)(k:Rel X.K cl (J++γ) m0 g)(hc:m.length<=m0.length/\uU m.length (m0.take m.length)=true)(M:Inv X aa Y g j) :
  Ext J H J (cU γ j.heap g)/\Rel X.K cl J (m0.take m.length) (cU γ j.heap g)/\(∀a u,g a=some u->((∃vs,u=.lst vs)\/∃c dx A,u=.ins c dx A)->∃o,j.heap.get? a=some o):=by
 have F:=r.len;refine⟨⟨⟨[],by simp,by simp⟩,λ {a o} q w _=>?_⟩,⟨?_,?_,λ {n o a} x I=>?_⟩,λ a u q U=>?_⟩
 .rw[bu λ z=>by rw[B a z] at q;cases q];exact O.keep q w 's'
 .rw[Of,F];omega
 .exact(Ov.mp k.nd).1
 .have w:n<m.length:=by
   have:=(MG.mp x).1;rw[Of] at this;omega
  rw[Oa w] at x;have hb:(J++γ)[n]?=some a:=by rw[ML 'o'];exact I
  have l:gj J.length o=true:=by
   rw[F];exact NR.mp hc.2 o (Nm (by rw[Oa w];exact x))
  have h:a∉γ:=λ z=>by
   have:=(Ov.mp k.nd).2.2 a (Nm I) a z;exact this rfl
  have q:=k.obj x hb;cases o with
  |lst ws=>let⟨vs,e,t⟩:=q;exact⟨vs,(bu h).trans e,t.ve (by simpa only[gj] using l)⟩
  |ins c A=>
   let⟨dx,b,e,t⟩:=q;exact⟨dx,b,(bu h).trans e,.of t.snd.2 (t.snd.1.ve (by simpa only[gj] using l))⟩
  |set ks=>let⟨S,e,t⟩:=q;exact⟨S,(bu h).trans e,t⟩
  |dic A=>
   let⟨b,e,t⟩:=q;exact⟨b,(bu h).trans e,.of t.snd.2 (t.snd.1.ve (by simpa only[gj] using l))⟩
  |exc c f ws=>
   let⟨R,Q,vs,e,N,t,d⟩:=q;exact⟨R,Q,vs,(bu h).trans e,N,t.ve (by simpa only[gj] using l),d.imp id λ ⟨dx,y,d1,d2,L⟩=>⟨dx,y,d1,d2,(bu λ z=>k.HE L (Nq _ z)).trans L⟩⟩
 .rcases U with⟨vs,rfl⟩ | ⟨c,dx,A,rfl⟩
  .let⟨_,_,_,_,e⟩:=M.hok a _ q;exact⟨_,e⟩
  .let⟨_,_,_,e,_⟩:=M.hok a _ q;exact⟨_,e⟩
theorem EK{X:L2.Cx}{cl:Cl}(hp:PS X st (SS X cl (bf C (.asg (.pt (.var i)) d)))):PS X st (SS X cl (bf C (.asg (.pt (.var i)) (.frz d)))):=by
 rintro aa s Y H D I ⟨J,Z,m,f,m',r,l,e,k⟩;erw[gf,gu,fC,aA] at e;let⟨w1,m1,g,e⟩:=R.af e;erw[R.bind] at e;cases e;cases h0:ao C d Z m with
 |no=>rw[h0] at g;cases g
 |ok N m0=>
  rw[h0] at g;erw[xm] at g;split at g
  .ext hc;split at g
   .ext MA e2;cases g;refine br (hp aa s Y H {nx:=fun b A=>∃a,Ext J H a A/\Rel X.K cl a m0 A/\RL X.K a A (Z.set i (some N)) b,rt:=λ _ _=>False} I ⟨J,Z,m,.nx (Z.set i (some N)),m0,r,l,by erw[gf,h0,R.bind,fC,aA],fun a A L M b B=>⟨a,L,M,B⟩⟩) λ fl s1 h=>?_;cases fl with
    |next=>
     let⟨b,A,I1,a,L,M,B⟩:=h;let⟨U,rfl,Q⟩:=L.pre;let⟨z1,z2,z3⟩:=r.frozen L Q M hc I1;refine⟨b,cU U s1.heap A,Ca I1 U,k J _ z1 z2 b ⟨by rw[Oh,<-B.len,Oh],λ {j w} y=>?_⟩⟩
     by_cases x:i=j
     .subst x;have F:i<Z.length:=by
       have:=(MG.mp y).1;simpa using this
      rw[Nb F] at y;cases y;let⟨v,S,O⟩:=B.at_ (i:=i) (w:=N) (by rw[Nb F]);rw[<-r.len] at e2;exact⟨v,S,O.jB (λ e q=>nZ z3 M 8 e q) e2⟩
     .rw[M7 x] at y;let⟨v,S,O⟩:=B.at_ (i:=j) (w:=w) (by rw[M7 x];exact y);let⟨v',_,q'⟩:=l.at_ y;exact⟨v,S,O.ve q'.Ik⟩
    |brk=>let⟨_,_,_,z⟩:=h;exact False.elim z
    |cont=>let⟨_,_,_,z⟩:=h;exact False.elim z
    |ret u=>let⟨_,_,_,_,_,z⟩:=h;exact False.elim z
   .cases g
  .cases g
theorem jE{prog:Program}{w:World}{A:Around}{E:Value->Shared->Prop}{name:Str}{a:Pos}{args:List Expr}{Q:Value->Shared->Prop}
  (j:attributeBase o name env (eval o env)=eval o env)
  (r:((backTo pos (starEach args env)).all (λ x=>!x.1)&&(backToKw pos (keywordEach [] env)).all (λ x=>x.1.isSome)
   && decide (args.length+([]:List Keyword).length+(if ([]:List Keyword).isEmpty then 0 else 1)<30))=true)
  (g:(a.endLine==pos.line)=true)
  (h:wpAny (model prog w) A (eval o env) (λ y b=>∀z,wpAny (model prog w) A (getMethod y name z) (λ u k=>wpAny (model prog w) A (callWith pos u.1 u.2 (backTo pos (starEach args env)) []) Q E k) E b) E s) :
  wpAny (model prog w) A (eval (.Call (.Attribute o name a) args [] pos) env) Q E s:=by
 rw[arm_eval_Call,j];refine MF (MV h (λ y b l=>?_) λ _ _ e=>e);refine MF (NC ?_);have F:methodCallForm (args.length+([]:List Keyword).length) (backTo pos (starEach args env)) (backToKw pos (keywordEach [] env))=true:=r;have q:methodCallPos true o env a pos=pure pos:=by unfold methodCallPos;simp[g]
 unfold methodCall;rw[F];refine MF (NG (MV (l _) (λ u I B=>?_) λ _ _ e=>e));exact MF (wpAny_of_eq q B)
section
variable{X:L2.Cx}{cl:Cl}{C:D.Cx}{pos:Pos}
theorem yg{a h:Addr}{g:List (Str×V)}(I:Inv X aa Y H s)(e:Rd H a (.ins h dx g)):∃b,oW s.heap a dx h b/\∀f,eO (g.lookup f) (b f):=by
 let⟨d,z,k,j,b,n,r,q⟩:=(show aW X.prog X.w H s.heap a (.ins h dx g) from e.ok I.hok);exact⟨b,⟨j,n,k⟩,r⟩
theorem fS.lookup{K:ae}{J:List Addr}{H:Hp}{f:Str}:∀{b:List (Str×W)} {gs:List (Str×V)},fS K J H b gs->(∀{w},b.lookup f=some w->∃v,gs.lookup f=some v/\RW K J H w v)/\(b.lookup f=none->gs.lookup f=none)
 |_,_,.nil=>⟨λ h=>by simp at h,λ _=>rfl⟩
 |_,_,.cons (f:=g) q t=>by
  let⟨k,j⟩:=t.lookup (f:=f);cases a:f==g with
  |true=>
   refine⟨λ h=>?_,λ h=>?_⟩
   .erw[MT,a] at h ⊢;cases h;exact⟨_,rfl,q⟩
   .erw[MT,a] at h;cases h
  |false=>
   refine⟨λ h=>?_,λ h=>?_⟩
   .erw[MT,a] at h ⊢;exact k h
   .erw[MT,a] at h ⊢;exact j h
theorem yh:∀{gs:List (Str×V)} {xs:List W},aJ K J H xs (gs.map (·.2))->fS K J H ((gs.map (·.1)).zip xs) gs
 | [],_,t=>by cases t;exact .nil
 |(g,v)::gs,xs,t=>by
  cases t with
  |cons q t=>exact .cons q (yh t)
theorem Rel.ins{w:W}{b:List (Str×W)}(r:Rel K cl J m H)(q:RW K J H w v)(e:kg m w=some (c,b)):∃a dx gs,v=.ref a/\Rd H a (.ins (ah K c) dx gs)/\fS K J H b gs:=by
 cases q with
 |ref h=>
  erw[kg] at e;split at e
  .ext l g j;cases e;let⟨dx,gs,z,t⟩:=r.obj j h;exact⟨_,dx,gs,rfl,.inl z,t⟩
  .cases e
 |obj h k t=>
  erw[kg] at e;cases e;subst k;exact⟨_,_,_,rfl,.inr ⟨_,h⟩,yh t⟩
 |_=>erw[kg] at e;cases e
theorem Im{a:Expr}(hc:∀{c f},C.cs.flds.contains (c,f)=true->vI X.K (ah X.K c)/\gn X.K (ah X.K c) f)(ha:PE X a (SE X cl (ao C d)))(hb:attributeBase a f X.env (eval a X.env)=eval a X.env):PE X (.Attribute a f pos) (SE X cl (ao C (.fld d f))):=by
 rintro aa s Y H Q I ⟨J,Z,m,w,m',r,l,e,k⟩;erw[iD] at e;let⟨x,m1,e1,e⟩:=R.af e;unfold pH at e;split at e
 .ext c fs e2;split at e
  .ext B;split at e
   .ext w' e3;cases e;refine sI hb (br (ha aa s Y H (λ v g=>∃b,Ext J H b g/\Rel X.K cl b m' g/\RW X.K b g x v) I ⟨J,Z,m,x,m',r,l,e1,fun b g v1 q j y=>⟨b,q,j,y⟩⟩) λ u s1 ⟨v,g,F,M,b,q,j,y⟩=>?_);let⟨a',dx,gs,rfl,hr,t⟩:=j.ins y e2;obtain rfl:u=Value.ref a':=M;let⟨U,O,N⟩:=yg F hr;let⟨z,ez,S⟩:=t.lookup.1 e3;let⟨h,A⟩:=hc B;let⟨u,hu,L⟩:=eO.some_of (v:=z) (o:=U f) (by rw[<-ez];exact N f);exact get_map F.eS O (h.get f) h.hd A hu (lZ L) ⟨z,g,F.tok _,L,k _ _ _ q j S⟩
   .cases e
  .cases e
 .cases e
theorem tB{w:W}(q:RW K J H w v):∀{a:List (Str×W)} {gs:List (Str×V)},fS K J H a gs->fS K J H (D.d7 f w a) (L2.d7 f v gs)
 |_,_,.nil=>.cons q .nil
 |_,_,.cons (f:=g) (ws:=ws) (vs:=vs) b t=>by
  erw[D.d7,L2.d7];split
  .exact .cons q t
  .exact .cons b (tB q t)
theorem fS.length:∀{a:List (Str×W)} {gs:List (Str×V)},fS K J H a gs->a.length=gs.length
 |_,_,.nil=>rfl
 |_,_,.cons _ t=>by rw[Nh,Nh,t.length]
theorem fS.mono(r:Rel K cl J m H)(x:Ext J H J' H'){a:List (Str×W)}(t:fS K J H a gs):fS K J' H' a gs:=t.bU r zu x
theorem Rel.KP{a:Addr}(r:Rel K cl J m H){o:O}{y:List (Str×W)}(B:m[n]?=some o)(w:J[n]?=some a)(q:fS K J H y gs) :
  Ext J H J (upd H a (.ins (ah K c) dx gs))/\Rel K cl J (m.set n (.ins c y)) (upd H a (.ins (ah K c) dx gs)):=by
 have F:a∈J:=Nm w;have x:Ext J H J (upd H a (.ins (ah K c) dx gs)):=⟨⟨[],by simp,by simp⟩,λ {b u} h hn _=>by rw[ai (show b≠a from λ z=>hn (by rw[z];exact F))];exact h⟩;refine⟨x,by simp[r.len],r.nd,λ {k M b} j g=>?_⟩
 by_cases l:n=k
 .subst l;rw[w] at g;cases g;rw[Nb (MG.mp B).1] at j;cases j;exact⟨dx,gs,av,q.mono r x⟩
 .rw[M7 l] at j;have A:=r.obj j g;refine A.mono r x (ai ?_);rintro rfl;let⟨Q,L⟩:=MG.mp g;let⟨N,I⟩:=MG.mp w;exact l ((Qo r.nd).mp (I.trans L.symm))
theorem EL{a:Expr}{O:E}{b:Pos}(hc:∀{c f},C.cs.flds.contains (c,f)=true->vI X.K (ah X.K c)/\gn X.K (ah X.K c) f)(ho:PE X o (SE X cl (ao C O)))(ha:PE X a (SE X cl (ao C d)))
  (hs:swapsWith a @(.Attribute o f b) pos.line X.env=pure false):PS X (.Assign [.Attribute o f b] a pos) (SS X cl (bf C (.fas O f d))):=by
 refine PS.imp (Dy ho ha hs) ?_;rintro D Y H ⟨J,Z,m,ff,m',r,l,e,k⟩;erw[mL] at e;let⟨w,L,e1,e⟩:=R.af e;let⟨x,m2,e2,e⟩:=R.af e;let⟨_,m3,g,e⟩:=R.af e;cases e;refine⟨J,Z,m,w,L,r,l,e1,fun u H1 v1 A q q1=>?_⟩;refine⟨u,Z,L,x,m2,q,l.mono r A,e2,fun Q H2 v2 y j U=>?_⟩;unfold mF at g;split at g
 .ext n;split at g
  .ext c fs N;split at g
   .ext h;cases g;cases U with
    |ref M=>
     let⟨dx,gs,z,t⟩:=j.obj N M;let⟨F,B⟩:=hc h.1;let⟨I,S⟩:=j.KP (c:=c) (dx:=dx) N M (tB (f:=f) (q1.mono q y) t);exact⟨_,_,dx,gs,rfl,z,F,B,by rw[<-t.length];exact h.2,k _ _ ((A.trans q y).trans j I) S _ (((l.mono r A).mono q y).mono j I)⟩
   .cases g
  .cases g
 .cases g
def Cg(X:L2.Cx)(cl:Cl)(C:D.Cx)(c name:Str)(i:Nat):Prop:=∃(k:Nat) (g:Addr) (b:FuncData) (a:List Str),bI k X.A/\vI X.K (ah X.K c)/\Meth X.K (ah X.K c) name g/\Binds X.K b a []/\
 bQ X.prog X.w X.K X.mg X.base (vK X.prog X.w) k g b a (sY X.K cl a.length (C.call i))/\∀ws m w m',C.call i ws m=.ok w m'->ws.length=a.length
theorem Io{name:Str}{A:Pos}(hM:∀{c name i},C.cs.mths.lookup (c,name)=some i->Cg X cl C c name i)(ho:PE X o (SE X cl (ao C d)))(ha:PA X es (SA X cl (aR C ds)))
  (L:attributeBase o name X.env (eval o X.env)=eval o X.env)
  (hfew:((backTo pos (starEach es X.env)).all (λ x=>!x.1)&&(backToKw pos (keywordEach [] X.env)).all (λ x=>x.1.isSome)
   && decide (es.length+([]:List Keyword).length+(if ([]:List Keyword).isEmpty then 0 else 1)<30))=true)
  (F:(A.endLine==pos.line)=true) (hs:(es=[]/\ds=.nil)\/∃a r,es=a::r/\starEach (a::r) X.env=(false,eval a X.env)::starEach r X.env/\(backTo pos (starEach r X.env)).any (·.1)=false) :
  PE X (.Call (.Attribute o name A) es [] pos) (SE X cl (ao C (.mth d name ds))):=by
 rintro aa s Y H Q I ⟨J,Z,m,w,m',r,l,e,k⟩;erw[iE] at e;let⟨x,m1,e1,e⟩:=R.af e;split at e
 .ext i S;let⟨ws,m2,e3,e⟩:=R.af e;refine jE L hfew F (br (ho aa s Y H (λ v z=>∃g,Ext J H g z/\Rel X.K cl g m1 z/\RW X.K g z x v) I ⟨J,Z,m,x,m1,r,l,e1,fun g z v1 x1 B q1=>⟨g,x1,B,q1⟩⟩) λ u s1 ⟨v,z,I1,rv,g,x1,B,q1⟩ pl=>?_);unfold pI at S;split at S
  .ext c fs e4;split at S
   .ext hno;let⟨y,dx,gs,rfl,hr,t⟩:=B.ins q1 e4;obtain rfl:u=Value.ref y:=rv;let⟨mA,O,ro⟩:=yg I1 hr;have hn:mA name=none:=eO.none_of (by rw[<-t.lookup.2 (~~~hno)];exact ro name);let⟨kk,fa,fd,ps,j,hcl,q,hbd,hF,rS⟩:=hM S;refine wk I1.eS O (hcl.get name) q.at_ q.fn hn ?_;have q8:∀vs b h,Ext g z b h->Rel X.K cl b m2 h->aJ X.K b h ws vs->sY X.K cl ps.length (C.call i) ((.ref y::vs)++[]) h Q E0:=λ vs b h M N U=>by
     rw[NL];have hq:aJ X.K b h (x::ws) (.ref y::vs):=.cons (q1.mono B M) U;exact⟨by rw[<-hq.length];exact rS _ _ _ _ e,b,m2,x::ws,w,m',N,hq,e,fun β3 H3 v3 x3 r3 q3=>k _ _ _ ((x1.trans B M).trans N x3) r3 q3⟩
    rcases hs with⟨rfl,rfl⟩ | ⟨a,rr,rfl,hst,hpl⟩
    .erw[eB] at e3;cases e3;exact PySem.W.callWith_K0 (first:=[.ref y]) I1.eS q.kp (nH (us:=[.ref y]) (vs:=[.ref y]) hF j hbd .nil qa I1 %[|rfl] (q8 [] g z Ext.refl B .nil))
    .refine NP (first:=[.ref y]) (h₀:=X.base) I.ok.mod.kin q.kp (br (ha pos aa s1 Y z (λ vs h=>∃b,Ext g z b h/\Rel X.K cl b m2 h/\aJ X.K b h ws vs) I1 ⟨g,Z,m1,ws,m2,B,l.mono r x1,e3,fun b h v2 M N U=>⟨b,M,N,U⟩⟩) λ us s2 ⟨vs,h,I2,rr2,b,M,N,U⟩=>⟨I2.eS,?_⟩) hst hpl;exact nH (us:=.ref y::us) (vs:=.ref y::vs) hF j hbd .nil qa I2 (.cons rfl rr2) (q8 vs b h M N U)
   .cases S
  .cases S
 .cases e
def Cj(X:L2.Cx)(cl:Cl)(C:D.Cx)(c:Str)(i:Nat):Prop:=∃(k:Nat) (g:Addr) (b:FuncData) (a:List Str),bI (k+1) X.A/\Mk X.K (ah X.K c) g/\X.mg c=some (.ref (ah X.K c))/\Binds X.K b a []/\
 bQ X.prog X.w X.K X.mg X.base (vK X.prog X.w) k g b a (sY X.K cl a.length (C.call i))/\∀ws m w m',C.call i ws m=.ok w m'->ws.length=a.length
theorem EM{a:Expr}(hi:C.cs.ini.lookup c=some i)(hI:Cj X cl C c i)(hg:Gl X c)(ha:PA X (a::es) (SA X cl (aR C ds)))
  (F:(c==("__debug__":Str))=false) (he:starEach (a::es) X.env=(false,eval a X.env)::starEach es X.env) (u:(backTo pos (starEach es X.env)).any (·.1)=false) :
  PE X (.Call (.Name c p) (a::es) [] pos) (SE X cl (ao C (.make c ds))):=by
 let⟨k,fa,fd,ps,b,z,A,I,hF,rS⟩:=hI;refine PE.imp (zP z hF b hg A I .nil qa ha F he u) ?_;rintro Y H Q ⟨J,Z,m,w,m',r,l,e,k⟩;erw[bZ] at e;let⟨ws,j,e1,e⟩:=R.af e;refine⟨J,Z,m,ws,j,r,l,e1,fun g H1 v1 x1 h q1 x dx hx B y=>?_⟩;erw[nR,hi] at e;let⟨w2,m2,U,e⟩:=R.af e;split at e
 .cases e;let⟨N,q⟩:=h.xR B (.own x);have D7:upd H1 dx (.own x) x=none:=by rw[ai y.symm];exact hx
  let⟨M,O⟩:=q.xJ (ho:=.ins (ah X.K c) dx []) (o:=.ins c []) D7 λ _=>⟨dx,[],av,.nil⟩;have S:aJ X.K (g++[x]) _ (.ref j.length::ws) (.ref x::v1):=.cons (.ref (h.last x)) ((q1.mono h N).mono q M);refine⟨?_,g++[x],j++[.ins c []],.ref j.length::ws,.non,m',O,by rw[NL];exact S,U,fun β4 H4 v4 L r4 q4=>?_⟩
  .rw[NL,<-S.length];exact rS _ _ _ _ U
  .cases q4;refine⟨rfl,k _ _ _ (((x1.trans h N).trans q M).trans O L) r4 (.ref (L.get (h.last x)))⟩
 .cases e
theorem AY{k f:Nat}{g:Addr}{h:FuncData}{a:List Str}{x:Str}(F:bQ X.prog X.w X.K X.mg X.base (vK X.prog X.w) k g h a (sY X.K cl a.length (C.call f)))(z:bI k X.A)(M:Gl X x)(B:X.mg x=@(.ref g))(L:PySem.W.keepIn X.K (.ref g)=true)(N:Binds X.K h a [])
  (I:a.length=0) (b:(x==("__debug__":Str))=false):PE X (.Call (.Name x p) [] [] pos) (SE X cl (ao C (.call f .nil))):=by
 refine PE.imp (wC F z M B L N .nil qa b) ?_;rintro Y H Q ⟨J,Z,m,w,m',r,l,e,k⟩;erw[fh,eB,R.bind] at e;exact⟨by rw[I];rfl,J,m,[],w,m',r,.nil,e,fun j S O q u y=>k _ _ _ q u y⟩
end
end D
end
section
namespace L2
open PySem PySem.Spec PyProof.Rows List
theorem jF(r:Addr)(a b i:Int)(t u v x:Tok):Meets (Builtin.«range.__contains__» ⟨[.ref r,.int i x],[]⟩) (λ _ R s=>s.heap.get? r=some {cls:=.type "range",dict:=none,data:=.fields #[.int a t,.int b u,.int 1 v],slots:=#[]}/\R (.ok (.ret (.bool (Builtin.Range.rangePlace? a b 1 i).isSome))) s):=
 .of_wp λ c w A R s h=>by let⟨j,g,d,e,f⟩:=s;let⟨k,h⟩:=h;wp_walk;exact⟨_,rfl,h⟩
theorem rT{b i:Int}:(Builtin.Range.rangePlace? 0 b 1 i).isSome=decide (0<=i/\i<b):=by
 unfold Builtin.Range.rangePlace?;erw[Int.sub_zero,Int.emod_one]
 by_cases h:0<=i/\i<b
 .simp[h.1,h.2]
 .rw[Ng h];rw[M8]
  .rfl
  .simp;omega
theorem AZ{X:Cx}:fu X (compareOp .NotIn) (λ x y H Q=>∃i j p,x=.int i/\y=.ref p/\H p=some (.rng 0 j)/\Q (.bl (!decide (0<=i/\i<j))) H):=by
 intro k s Y H x y v u Q I f d h;let⟨i,j,p,rfl,rfl,g,q⟩:=h;let⟨t,rfl⟩:=f;cases d;let⟨c,b,a,e⟩:=I.hok p _ g;refine PySem.SeqRoads2.notIn_meets ⟨_,e,rfl⟩ F.slot_range_contains F.entry_range_contains (F.args_range_contains_2 _ _) (jF p 0 j i c b a t) ⟨e,_,rfl,.bl _,H,I,?_,q⟩;rw[rT];rfl
end L2
end
section
namespace D
open PySem PySem.Spec PyProof.Rows L2 List
variable{C:D.Cx}{Dd:Ends}{H:Hp}{K:ae}{Q:VK}{X:L2.Cx}{b e elt o t tg v:Expr}{c:Str}{cl:Cl}{d:E}{ds:Es}{es:List Expr}{f:Expr->Option E}{fl:F}{i n np:Nat}{m m' m2:Mem}{p pos spos:Pos}{pn:List (Addr×Obj)}{s:Stmt}{scope:Scope}{vs:List V}{ws:List W}{xe:Value->Shared->Prop}{J γ:List Addr}{Z:D.Loc}{Y:L2.St}
def TopK(K:ae)(w:World)(j:Str->Option Value)(x:Str)(g:List (Str×W)):Prop:=∃a h,j x=some (.ref a)/\TopD K w a h/\∀J H,fS K J H g h
section
variable{X:L2.Cx}{cl:Cl}{C:D.Cx}{pos p:Pos}{a:Expr}{d:E}{x:Str}{kvs:List (Str×W)}
theorem EN(T:TopK X.K X.w X.mg x kvs)(B:Gl X x)(G:(x==("__debug__":Str))=false)(I:PE X a (SE X cl (ao C d))):PE X (.Compare a [.NotIn] [.Name x p] pos) (SE X cl (ao C (.fus (.knin kvs) d))):=by
 let⟨b,S,A,L,u⟩:=T;refine PE.imp (sG iA I (iw (v:=.ref b) B A rfl G) rfl) ?_;rintro Y H Q ⟨J,Z,m,w,m',r,l,e,k⟩;erw[cH] at e;let⟨y,P,M,e⟩:=R.af e;erw[dI] at e;split at e
 .ext z;cases e;refine⟨J,Z,m,_,_,r,l,M,fun g N O h j q=>?_⟩;cases q;exact⟨_,_,_,rfl,rfl,L,by rw[<-(u g N).look.1];exact k _ _ _ h j (.bl _)⟩
 .cases e
theorem EO(T:TopK X.K X.w X.mg x kvs)(G:Gl X x)(I:(x==("__debug__":Str))=false)(L:PE X a (SE X cl (ao C d))):PT X (.Compare a [.NotIn] [.Name x p] pos) (ST X cl (bB C (.fus (.knin kvs) d))):=by
 let⟨b,gs,B,M,A⟩:=T;refine PT.imp (sH iA L (iw (v:=.ref b) G B rfl I) rfl) ?_;rintro Y H Q ⟨J,Z,m,w,m',r,l,e,k⟩;erw[eV] at e;let⟨P,m2,g,e⟩:=R.af e;let⟨y,U,N,g⟩:=R.af g;erw[dI] at g;split at g
 .ext z;cases g;erw[truthy] at e;cases e;refine⟨J,Z,m,_,_,r,l,N,fun h O S j q u=>?_⟩;cases u;exact⟨_,_,_,rfl,rfl,M,by rw[<-(A h O).look.1];exact⟨_,rfl,k _ _ j q⟩⟩
 .cases g
theorem ER(T:TopK X.K X.w X.mg x kvs)(I:Gl X x)(L:(x==("__debug__":Str))=false)(M:PE X a (SE X cl (ao C d)))(A:jJ a):PE X (.Subscript (.Name x p) a pos) (SE X cl (ao C (.fus (.kget kvs) d))):=by
 let⟨b,gs,G,N,B⟩:=T;refine PE.imp (BH DV (iw (v:=.ref b) I G rfl L) M A) ?_;rintro Y H Q ⟨J,Z,m,w,m',r,l,e,k⟩;erw[cH] at e;let⟨y,m1,S,e⟩:=R.af e;erw[dI] at e;split at e
 .ext z;split at e
  .ext w' P;cases e;refine⟨J,Z,m,_,_,r,l,S,fun g U v1 h j u=>?_⟩;cases u;let⟨v,O,q⟩:=(B g U).look.2 _ P;exact⟨_,_,_,_,rfl,rfl,N,O,k _ _ _ h j q⟩
  .cases e
 .cases e
end
def tD(X:L2.Cx)(cl:Cl)(C:D.Cx):List Str->Es->List (TE×TE)
 |k::ks,.cons e es=>(tC (.str k),SE X cl (ao C e))::tD X cl C ks es
 |_,_=>[]
section
variable{X:L2.Cx}{cl:Cl}{C:D.Cx}
theorem qf{Z:Loc}:∀{ks:List Str} {es:Es} {J:List Addr} {H:Hp} {m m':Mem} {ws:List W} {Q:List (V×V)->Hp->Prop},ks.length=ws.length->Rel X.K cl J m H->RL X.K J H Z Y->aR C es Z m=.ok ws m'->
  (∀q g vs,Ext J H q g->Rel X.K cl q m' g->aJ X.K q g ws vs->Q ((ks.map V.str).zip vs) g)->nQ (tD X cl C ks es) Y H Q
 |ks,.nil,J,H,m,m',ws,Q,a,r,l,e,k=>by
  erw[eB] at e;cases e;have:ks=[]:=List.length_eq_zero_iff.mp a;subst this;exact k _ _ [] Ext.refl r .nil
 |ks,.cons d es,J,H,m,m',ws,Q,a,r,l,e,k=>by
  erw[eB] at e;let⟨w,m1,M,e⟩:=R.af e;let⟨O,m2,L,e⟩:=R.af e;cases e;cases ks with
  |nil=>simp at a
  |cons z ks=>
   refine⟨J,Z,m,w,m1,r,l,M,fun y P A x j I=>?_⟩;refine qf (~~~a) j (l.mono r x) L fun h N vs u B G=>?_;exact k h N (A::vs) (x.trans j u) B (.cons (I.mono j u) G)
theorem tE:∀{ks:List Str} {ws:List W} {vs:List V},ks.length=ws.length->aJ K J H ws vs->fS K J H (ks.zip ws) (ks.zip vs)
 | [],_,_,h,.nil=>.nil
 | [],_,_,h,.cons _ _=>by simp at h
 |_::_,_,_,h,.nil=>by simp at h
 |k::ks,_,_,h,.cons q t=>.cons q (tE (~~~h) t)
theorem Rel.other{p:Addr}{u u':HO}(r:Rel K cl J m H)(k:H p=some u)(U:p∉J)(h1:∀xs,u≠.tup xs)(h2:∀O x,u≠.frz O x)(h3:∀A,u≠.xd A:=by intro _ z;cases z) :
  Rel K cl J m (upd H p u')/\∀{ws:List W} {vs:List V},aJ K J H ws vs->aJ K J (upd H p u') ws vs:=by
 have l:∀{a:Addr} {o:Obj} {u:HO},H a=some (.frz o u)->upd H p u' a=some (.frz o u):=λ {a o x} e=>by
  rw[ai]
  .exact e
  .rintro rfl;rw[k] at e;cases e;exact h2 _ _ rfl
 have L:∀{a:Addr} {vs:List V},dQ K H a vs->dQ K (upd H p u') a vs:=λ {a vs} q=>by
  rcases q with (e | ⟨o,e⟩) | q
  .refine .inl (.inl ?_);rw[ai]
   .exact e
   .rintro rfl;rw[k] at e;cases e;exact h1 _ rfl
  .exact .inl (.inr ⟨o,l e⟩)
  .exact .inr q
 have R:∀{w:W} {v:V},RW K J H w v->RW K J (upd H p u') w v:=λ q=>q.keep ⟨[],by simp⟩ L l;have j:∀{ws:List W} {vs:List V},aJ K J H ws vs->aJ K J (upd H p u') ws vs:=λ q=>q.keep ⟨[],by simp⟩ L l;have I:∀{ws:List (Str×W)} {vs:List (Str×V)},fS K J H ws vs->fS K J (upd H p u') ws vs:=λ q=>by
  induction q with
  |nil=>exact .nil
  |cons a b T=>exact .cons (R a) T
 refine⟨⟨r.len,r.nd,λ {n o a} g1 g2=>?_⟩,j⟩;have h:a≠p:=by
  rintro rfl;exact U (Nm g2)
 have q:=r.obj g1 g2;cases o with
 |lst ws=>let⟨vs,e,t⟩:=q;exact⟨vs,(ai h).trans e,j t⟩
 |ins c A=>let⟨B,g,e,t⟩:=q;exact⟨B,g,(ai h).trans e,I t⟩
 |set ks=>let⟨S,e,t⟩:=q;exact⟨S,(ai h).trans e,t⟩
 |dic A=>let⟨g,e,t⟩:=q;exact⟨g,(ai h).trans e,I t⟩
 |exc c f ws=>
  let⟨P,N,vs,e,M,t,d⟩:=q;refine⟨P,N,vs,(ai h).trans e,M,j t,d.imp id λ ⟨B,y,d1,d2,G⟩=>⟨B,y,d1,d2,?_⟩⟩;rw[ai]
  .exact G
  .rintro rfl;rw[k] at G;cases G;exact h3 _ rfl
theorem mV:∀{ks:List Str} {vs:List V},ks.length=vs.length->(ks.map V.str).zip vs=(keyed (ks.zip vs)).map λ a=>(kV a.1,a.2)
 | [],_,_=>rfl
 |_::_,[],h=>by simp at h
 |k::ks,v::vs,h=>by
  have:=mV (ks:=ks) (vs:=vs) (~~~h);show (V.str k,v)::(ks.map V.str).zip vs=(V.str k,v)::(keyed (ks.zip vs)).map λ a=>(kV a.1,a.2);rw[this]
theorem ES{g:List (Option Expr)}{j:List Expr}{ks:List Str}(h:Fz X pos g j (tD X cl C ks ds))(O:g.all (·.isSome)=true)(hl:g.length=j.length)(h0:g≠[])(Ke:g.length<=15) :
  PE X (.Dict g j pos) (SE X cl (ao C (.fus (.dict ks) (.tup ds)))):=by
 refine PE.imp (z7 h O hl h0 Ke) ?_;rintro Y H Q ⟨J,Z,m,w,m',r,l,e,k⟩;erw[cH] at e;let⟨x,m1,P,e⟩:=R.af e;let⟨ws,m2,e2,P⟩:=R.af P;split at P
 .cases P;erw[dI,w4] at e;split at e
  .ext hk;let⟨T,k2,k3⟩:=hk;cases e;intro p L;let⟨x1,r1⟩:=r.xR L (.dK []);refine qf T r1 (l.mono r x1) e2 fun q H2 vs S G q2=>?_;have pb:p∉J:=r.HF L;have I:H2 p=some (.dK []):=S.keep av pb 's';have Lw:p∉q:=λ z=>by
    let⟨γ,rfl,B⟩:=S.pre;rcases Nc.mp z with z | z
    .exact pb z
    .have:=B p z;rw[av] at this;cases this
   have vl:ks.length=vs.length:=T.trans q2.length;refine⟨I,keyed (ks.zip vs),?_,by simp[keyed];omega,?_⟩
   .exact mV vl
   .have U:((ks.zip vs).map (·.1)).Nodup:=by rw[map_fst_zip 'o'];exact k2
    rw[vd (qe U) 's',nil_append];let⟨r3,kS⟩:=G.other (u':=.dK (keyed (ks.zip vs))) I Lw (by intro _ z;cases z) (by intro _ _ z;cases z);have y:∀{n:Nat} {a:Addr},q[n]?=some a->(q++[p])[n]?=some a:=λ h=>by rw[ML (MG.mp h).1];exact h
    refine k (q++[p]) _ (.ref p) ⟨?_,λ {b u} N U _=>?_⟩ ⟨by simp[G.len],?_,λ {n o a} g1 g2=>?_⟩ (.ref (G.last p))
    .let⟨γ,rfl,B⟩:=S.pre;refine⟨γ++[p],by rw[OC],λ a A=>?_⟩;rcases Nc.mp A with A | A
     .have z:=B a A
      by_cases e:a=p
      .rw[e];exact L
      .rw[ai e] at z;exact z
     .rw[Nu] at A;rw[A];exact L
    .have nb:b≠p:=au N L;rw[ai nb];exact S.keep (by rw[ai nb];exact N) U 's'
    .rw[Pj];refine⟨G.nd,by simp,λ a A b N=>?_⟩;rw[Nu] at N;subst N;rintro rfl;exact Lw A
    .by_cases M:n<m1.length
     .rw[ML M] at g1;rw[ML (by rw[G.len];exact M)] at g2;exact(r3.obj g1 g2).sub y
     .have:n=m1.length:=by
       have:=(MG.mp g1).1;simp at this;omega
      subst this;rw[MU (MK _)] at g1;simp at g1;subst g1;rw[G.last p] at g2;cases g2;exact⟨ks.zip vs,av,(tE T (kS q2)).sub y⟩
  .cases e
 .cases P
end
set_option genInjectivity false in
structure Ci where
 N:List Str
 names:List (Str×NameKind)
 fns:List (Str×(Nat×Nat))
 gl:List (Str×W)
 cs:Cs
 fz:List Pos
def jG(x:Str):List Str->Option Nat
 | []=>none
 |y::r=>if y=x then some 0 else (jG x r).map (·+1)
theorem iJ{x:Str}:∀{N:List Str} {i:Nat},jG x N=some i->N[i]?=some x
 | [],_,h=>by cases h
 |y::r,i,h=>by
  unfold jG at h;split at h
  .ext e;cases h;simp[e]
  .erw[ME] at h;let⟨j,a,rfl⟩:=h;simpa using iJ a
def rV:List (Str×B):=[("len",.len),("abs",.abs),("max",.max),("min",.min),("divmod",.divmod),("all",.all)
 ,("any",.any)
 ,("list",.list),("tuple",.tuple),("int",.int),("sorted",.sorted),("repr",.repr)
 ]
def kM:List Str:=["len","abs","max","min","divmod","all","any","list","tuple","int","bool","str","dict","isinstance","range","enumerate","zip","sorted","set","repr","sum","reversed"]
def yi:List (Str×(String×String)):=[("append",("append","list.append"))
 ,("join",("join","str.join"))
 ,("index",("index","str.index"))
 ,("add",("add","set.add"))
 ]
def n6(a:List Pos)(o:Expr)(m:Str):Option (String×String):=
 yi.lookup m
def noStar:Expr->Bool
 |.Starred ..=>false
 |_=>true
def isSlice:Expr->Bool
 |.Slice ..=>true
 |_=>false
def isSet:Expr->Bool
 |.Set ..=>true
 |_=>false
def kN:Expr->Bool
 |.ListComp ..=>true
 |.SetComp ..=>true
 |.DictComp ..=>true
 |_=>false
def f9:Expr->Bool
 |.Call (.Name _ _) [] [] _=>true
 |_=>false
def A1:Expr->Bool
 |.Call ..=>true
 |.ListComp ..=>true
 |.List ..=>true
 |.BinOp ..=>true
 |.Subscript ..=>true
 |_=>false
def wz(c:Ci)(e:Expr)(d:E):E:=if A1 e&&c.fz.contains e.pos then .frz d else d
def tF:Expr->Bool
 |.Name ..=>true
 |_=>false
def kO:Expr->Bool
 |.Tuple ..=>true
 |.List ..=>true
 |_=>false
def isIt:E->Bool
 |.rng _=>true
 |.rng2 _ _=>true
 |.enm _=>true
 |.zip _=>true
 |_=>false
def special(x:Str):Bool:=x=="__debug__"||x=="__classdict__"||x=="__name__"
def jH(f:Expr->Option E):List Expr->Option Es
 | []=>some .nil
 |e::es=>if noStar e then match f e with
  |none=>none
  |some d=>match jH f es with
   |none=>none
   |some ds=>some (.cons d ds) else none
def Ip(f:Expr->Option E)(a:BoolOp):List Expr->Option E
 | []=>none
 | [e]=>f e
 |e::r=>match f e with
  |none=>none
  |some d=>match Ip f a r with
   |none=>none
   |some ds=>match a with
    |.And=>some (.and d ds)
    |.Or=>some (.or d ds)
def cO(f:Expr->Option E):Option Expr->Option Oe
 |none=>some .none
 |some e=>(f e).map .some
def mW(c:Ci)(x:Str):Option E:=if special x then none else match c.names.lookup x with
 |some .local=>(jG x c.N).map .var
 |some .cell=>(jG x c.N).map .var
 |some .free=>(jG x c.N).map .var
 |some .globalImplicit=>(c.gl.lookup x).map .cst
 |_=>none
def iK(c:Ci)(x:Str):Option Nat:=match c.names.lookup x with
 |some .local=>jG x c.N
 |some .cell=>jG x c.N
 |_=>none
def Jp(f:Expr->Option T):List Expr->Option Ts
 | []=>some .nil
 |e::es=>if noStar e then match f e with
  |none=>none
  |some d=>match Jp f es with
   |none=>none
   |some ds=>some (.cons d ds) else none
def cT:Nat->Ci->Expr->Option T
 |0,_,_=>none
 |n+1,c,e=>match e with
  |.Name x _=>(iK c x).map .var
  |.Tuple es _ _=>(Jp (cT n c) es).map .tup
  |_=>none
def cI(f:Expr->Option E)(c:Ci)(tg e:Expr):Option E:=match e with
 |.Call (.Name x _) args g _=>if g.isEmpty&&c.names.lookup x==some .globalImplicit&&(c.fns.lookup x).isNone&&!special x then
   if x="range" then match args with
    | [a]=>if noStar a then (f a).map .rng else none
    | [a,b]=>if noStar a&&noStar b then match f a,f b with
     |some d,some h=>some (.rng2 d h)
     |_,_=>none else none
    |_=>none
   else if x="enumerate" then match tg,args with
    |.Tuple _ _ _,[a]=>if noStar a then (f a).map .enm else none
    |_,_=>none
   else match f e with
    |some d=>if isIt d then none else some d
    |none=>none
  else match f e with
   |some d=>if isIt d then none else some d
   |none=>none
 |e=>match f e with
  |some d=>if isIt d then none else some d
  |none=>none
def yj(f:Expr->Option E):List Expr->Option Es
 | []=>some .nil
 | [e]=>(f e).map λ d=>.cons d .nil
 |_=>none
def Ck(f:Expr->Option E)(n:Nat)(c:Ci)(elt:Expr):List Comprehension->Option G
 | []=>(f elt).map .elt
 |⟨tg,it,ifs,as⟩::a=>if as=0/\isSet it=false then match cT n c tg,cI f c tg it,yj f ifs,Ck f n c elt a with
  |some t,some d,some ds,some g=>some (.gen t [] d ds g)
  |_,_,_,_=>none else none
def qg(N:List Str)(names:List (Str×NameKind)):List Nat:=(N.zipIdx.filter λ p=>names.lookup p.1==some .local||names.lookup p.1==some .cell).map (·.2)
def rW(N:List Str)(scope:Scope)(a:List (Str×NameKind)):Bool:=
 decide (scope.kind=.function)&&scope.names.all λ y=>(decide (y.2≠.cell)||decide (scope.names.lookup y.1=some .cell))&&(decide (y.2≠.local)||decide (scope.names.lookup y.1=some .local))&&(decide (y.2≠.free)||decide (a.lookup y.1=some .cell)||decide (a.lookup y.1=some .free))
def A2(c:Ci)(e:Expr):Option (List (Str×W)):=match e with
 |.Name x _=>if special x then none else if c.names.lookup x=some .globalImplicit then c.cs.dic.lookup x else none
 |_=>none
def mX:List (Option Expr)->Option (List Str)
 | []=>some []
 |e::r=>match e with
  |some (.Constant (.str k) _ _)=>(mX r).map (k::·)
  |_=>none
def Iq(g:CmpOp)(a:List (Str×W))(d:Option E):Option E:=match g with
 |.NotIn=>d.map (.fus (.knin a))
 |_=>none
def cE:Nat->Ci->Expr->Option E
 |0,_,_=>none
 |n+1,c,e=>Option.map (wz c e) <| match e with
  |.Name x _=>mW c x
  |.Constant k _ _=>match k with
   |.int i=>some (.cst (.int i))
   |.bool b=>some (.cst (.bl b))
   |.none=>some (.cst .non)
   |.str x=>some (.cst (.str x))
   |_=>none
  |.BinOp a op b _=>match cE n c a,cE n c b with
   |some d,some d'=>some (.bin op d d')
   |_,_=>none
  |.UnaryOp op a _=>match op with
   |.USub=>(cE n c a).map .neg
   |.Not=>(cE n c a).map .not
   |_=>none
  |.BoolOp op vs _=>Ip (cE n c) op vs
  |.Compare a ops bs _=>match ops,bs with
   | [op],[b]=>if behindInMarks op b then none else
    match A2 c b with
    |some j=>Iq op j (cE n c a)
    |none=>
    match cE n c a,cE n c b with
     |some d,some d'=>some (.cmp op d d')
     |_,_=>none
   | [y,o2],[b,z]=>if lastMarks [y,o2] [b,z] then none else match cE n c a,cE n c b,cE n c z with
    |some d,some d',some q=>some (.chain y o2 d d' q)
    |_,_,_=>none
   |_,_=>none
  |.IfExp t a b _=>match cE n c t,cE n c a,cE n c b with
   |some d,some d',some q=>some (.ife d d' q)
   |_,_,_=>none
  |.Tuple es _ _=>(jH (cE n c) es).map .tup
  |.List es _=>(jH (cE n c) es).map .lst
  |.Subscript a s _=>match s with
   |.Slice lo hi st _=>match st with
    |none=>match cE n c a,cO (cE n c) lo,cO (cE n c) hi with
     |some d,some l,some h=>some (.slc d l h)
     |_,_,_=>none
    |some _=>none
   |s=>if isSlice s then none else
    match A2 c a with
    |some j=>(cE n c s).map (.fus (.kget j))
    |none=>
    match cE n c a,cE n c s with
     |some d,some d'=>some (.idx d d')
     |_,_=>none
  |.Dict keys values _=>if keys.length=values.length/\keys.length<=15/\keys≠[] then match mX keys with
    |some ks=>(jH (cE n c) values).map λ ds=>.fus (.dict ks) (.tup ds)
    |none=>none
   else none
  |.Call f args w pos=>if w.isEmpty then match f with
    |.Name x _=>if special x then none else if c.names.lookup x=some .globalImplicit then match c.fns.lookup x with
      |some (i,np)=>match args with
       | []=>if np=0 then some (.call i .nil) else none
       |a::r=>if args.length=np then (jH (cE n c) (a::r)).map (.call i) else none
      |none=>match c.cs.ini.lookup x with
       |some _=>match args with
        | []=>none
        |a::r=>(jH (cE n c) (a::r)).map (.make x)
       |none=>if x="set" then match args with
        | []=>some .set0
        |_=>none
       else
       match rV.lookup x with
       |some b=>match args with
        | []=>none
        |a::r=>(jH (cE n c) (a::r)).map (.blt b)
       |none=>none
     else none
    |.Attribute o m apos=>if f9 o then none else if (apos.endLine==pos.line) then match n6 c.fz o m,cE n c o with
      |some (nm,_),some d=>if args.length<20 then (jH (cE n c) args).map (.meth d nm) else none
      |none,some d=>if args.length<20 then (jH (cE n c) args).map (.mth d m) else none
      |_,_=>none
     else none
    |_=>none
   else none
  |.Attribute o f _=>if f9 o then none else (cE n c o).map λ d=>.fld d f
  |.ListComp elt gens scope _=>match gens with
   | []=>none
   |⟨tg,it,ifs,as⟩::A=>
    let u:Ci:={c with names:=scope.names}
    if as=0/\isSet it=false/\rW c.N scope c.names=true then match cT n u tg,cI (cE n c) c tg it,yj (cE n u) ifs,Ck (cE n u) n u elt A with
     |some t,some d,some ds,some g=>some (.comp (.gen t (qg c.N scope.names) d ds g))
     |_,_,_,_=>none
    else none
  |_=>none
def Jq(f:Expr->Option A):List Expr->Option As
 | []=>some .nil
 |e::es=>if noStar e then match f e with
  |none=>none
  |some d=>match Jq f es with
   |none=>none
   |some ds=>some (.cons d ds) else none
def cA:Nat->Ci->Expr->Option A
 |0,_,_=>none
 |n+1,c,e=>match e with
  |.Name x _=>(iK c x).map λ i=>.pt (.var i)
  |.Tuple es _ _=>(Jq (cA n c) es).map .tup
  |.Subscript o i _=>if isSlice i then none else match cE n c o,cE n c i with
   |some d,some d'=>some (.sub d d')
   |_,_=>none
  |_=>none
def qL(f:Stmt->Option S):List Stmt->Option Ss
 | []=>some .nil
 |s::r=>match f s with
  |none=>none
  |some d=>match qL f r with
   |none=>none
   |some ds=>some (.cons d ds)
def ET(n:Nat)(c:Ci)(tg v:Expr):Option S:=if (kO tg&&kO v)||tF tg||!noStar tg then none else match cA n c tg,cE n c v with
 |some t,some d=>some (.asg t d)
 |_,_=>none
def EU(n:Nat)(c:Ci)(tg v:Expr):Option S:=match tg with
 |.Name x _=>match iK c x,cE n c v with
  |some i,some d=>some (.asg (.pt (.var i)) d)
  |_,_=>none
 |.Attribute o f _=>match cE n c o,cE n c v with
  |some d,some a=>some (.fas d f a)
  |_,_=>none
 |tg=>
  ET n c tg v
def cS:Nat->Ci->Stmt->Option S
 |0,_,_=>none
 |n+1,c,s=>match s with
  |.Assign ts v _=>match ts with
   | [t]=>EU n c t v
   |_=>none
  |.Expr v _=>if kN v then none else (cE n c v).map .expr
  |.Return o _=>match o with
   |some v=>(cE n c v).map .ret
   |none=>some .retN
  |.If t a b _=>match cE n c t,qL (cS n c) a,qL (cS n c) b with
   |some d,some x,some y=>some (.ife d x y)
   |_,_,_=>none
  |.For tg it body g _=>match g with
   | []=>if isSet it then none else match cT n c tg,cI (cE n c) c tg it,qL (cS n c) body with
    |some t,some d,some x=>some (.for_ t d x)
    |_,_,_=>none
   |_=>none
  |.Pass _=>some .pass
  |.Break _=>some .brk
  |.Continue _=>some .cont
  |.Raise _ _ _=>some .never
  |_=>none
structure Ok(X:L2.Cx)(cl:Cl)(C:D.Cx)(c:Ci):Prop where
 N:X.N=c.N
 nd:c.N.Nodup
 vis:∀{x:Str} {k:NameKind},c.names.lookup x=some k->(k=.local\/k=.cell\/k=.free)->BA X.env.scope x
 loc:∀{x:Str} {k:NameKind},c.names.lookup x=some k->(k=.local\/k=.cell)->L2.Loc X.env.scope x/\(X.fn x=true\/X.env.scope.names.lookup x=some .local)
 cel:∀{x:Str},(c.names.lookup x=some .cell\/c.names.lookup x=some .free)->X.env.scope.names.lookup x=some .cell\/X.env.scope.names.lookup x=some .free
 glb:∀{x:Str},c.names.lookup x=some .globalImplicit->Gl X x
 calm:X.calm=true
 units:UN X cl
 hand:X.A.handled=none
 blt:∀x∈kM,X.mg x=none
 fn:∀{x:Str} {i np:Nat},c.fns.lookup x=some (i,np)->∃(k:Nat) (fa:Addr) (fd:FuncData) (ps:List Str),ps.length=np/\bI k X.A/\X.mg x=some (.ref fa)/\PySem.W.keepIn X.K (.ref fa)=true/\Binds X.K fd ps []/\bQ X.prog X.w X.K X.mg X.base (vK X.prog X.w) k fa fd ps (sY X.K cl ps.length (C.call i))
 gl:∀{x:Str} {w:W},c.gl.lookup x=some w->∃u v,X.mg x=some u/\RelV v u/\∀J H,RW X.K J H w v
 cs:c.cs=C.cs
 fld:∀{d f:Str},C.cs.flds.contains (d,f)=true->vI X.K (ah X.K d)/\gn X.K (ah X.K d) f
 mth:∀{d f:Str} {i:Nat},C.cs.mths.lookup (d,f)=some i->Cg X cl C d f i
 ini:∀{d:Str} {i:Nat},C.cs.ini.lookup d=some i->Cj X cl C d i
 dic:∀{x:Str} {kvs:List (Str×W)},C.cs.dic.lookup x=some kvs->TopK X.K X.w X.mg x kvs
 isc:∀{x:Str},C.cs.isc.contains x=true->X.mg x=some (.ref (ah X.K x))/\Ej X.K (ah X.K x)
section
variable{env:Env}
theorem aQ(h:noStar e=true):starEach (e::es) env=(false,eval e env)::starEach es env:=by
 cases e<;>first | rfl | cases h
theorem cV:∀{es:List Expr} {ds:Es},jH f es=some ds->(backTo pos (starEach es env)).any (·.1)=false
 | [],_,_=>rfl
 |e::es,ds,h=>by
  unfold jH at h;split at h
  .ext a;split at h
   .cases h
   .split at h
    .cases h
    .ext j g;rw[aQ a];show ((false||(backTo pos (starEach es env)).any (·.1)))=false;rw[cV g];rfl
  .cases h
theorem n8:∀{es:List Expr} {ds:Es},jH f es=some ds->(backTo pos (starEach es env)).all (λ x=>!x.1)=true
 | [],_,_=>rfl
 |e::es,ds,h=>by
  unfold jH at h;split at h
  .ext a;split at h
   .cases h
   .split at h
    .cases h
    .ext j g;rw[aQ a];show ((true&&(backTo pos (starEach es env)).all (λ x=>!x.1)))=true;rw[n8 g];rfl
  .cases h
theorem eE(h:jH f (e::es)=some ds):noStar e=true/\∃d a,f e=some d/\jH f es=some a/\ds=.cons d a:=by
 unfold jH at h;split at h
 .ext g;split at h
  .cases h
  .ext d k;split at h
   .cases h
   .ext a j;cases h;exact⟨g,d,a,k,j,rfl⟩
 .cases h
theorem iL(h:noStar e=true):assignEach (e::es) env=(false,assign e env)::assignEach es env:=by
 cases e<;>first | rfl | cases h
theorem tG(h:isSlice b=false):jJ b:=by
 intro o i;cases b<;>first | rfl | cases h
theorem jL{m:Str}(h:f9 o=false):attributeBase o m env (eval o env)=eval o env:=by
 unfold attributeBase;split
 .cases h
 .rfl
theorem n9(h:isSet e=false)(x:Value):foldedSetIterable e env x=pure x:=by
 cases e<;>first | rfl | cases h
theorem iM{t:Option Expr}{l:Nat}(h:kN v=false):swapsWith v t l env=pure false:=by
 cases v<;>first | rfl | cases h
def Es.len:Es->Nat
 |.nil=>0
 |.cons _ r=>r.len+1
theorem tH:∀{es:List Expr} {ds:Es},jH f es=some ds->ds.len=es.length
 | [],_,h=>by cases h;rfl
 |e::es,ds,h=>by
  let⟨_,d,a,_,g,rfl⟩:=eE h;show a.len+1=_;rw[tH g];rfl
theorem qh:∀{ds:Es} {Z:Loc} {m m':Mem} {ws:List W},aR C ds Z m=.ok ws m'->ws.length=ds.len
 |.nil,_,_,_,_,h=>by erw[eB] at h;cases h;rfl
 |.cons d ds,_,_,_,_,h=>by
  erw[eB] at h;let⟨w,m1,g,h⟩:=R.af h;let⟨ws,m2,a,h⟩:=R.af h;cases h;rw[Nh,qh a];rfl
end
theorem lookup_mem{J:Type}{x:Str}{b:J}:∀{l:List (Str×J)},l.lookup x=some b->(x,b)∈l:=λ {l} h=>Nl h
theorem vf{x:Str}{b:B}(h:rV.lookup x=some b):x∈kM/\((∃a,xP b=.builtin a/\bootBuiltins x=@(.builtin a))\/∃a,xP b=.type a/\bootBuiltins x=@(.type a)):=by
 have g:=lookup_mem h;erw[rV,OH,Qt,Og,O6] at g;rcases g with⟨rfl,rfl⟩ | ⟨rfl,rfl⟩ | ⟨rfl,rfl⟩ | ⟨rfl,rfl⟩ | ⟨rfl,rfl⟩ | ⟨rfl,rfl⟩ | ⟨rfl,rfl⟩ | ⟨rfl,rfl⟩ | ⟨rfl,rfl⟩ | ⟨rfl,rfl⟩ | ⟨rfl,rfl⟩
  |⟨rfl,rfl⟩
 all_goals first
  |exact⟨by decide +kernel,.inl ⟨_,rfl,by decide +kernel⟩⟩
  |exact⟨by decide +kernel,.inr ⟨_,rfl,by decide +kernel⟩⟩
theorem rX{a:List Pos}{m:Str}{y:String×String}(h:n6 a o m=some y):(m,y)∈yi:=by
 unfold n6 at h;exact lookup_mem h
theorem yk(k:UN X cl){l:List Pos}{m:Str}{a g:String}(h:n6 l o m=some (a,g)):PlainAttrs (HZ (oJ a))/\Slot (HZ (oJ a)) m g/\typeOf (.builtin g)=pure (.type "method_descriptor")/\DB X g (SM X cl a):=by
 have j:=rX h;erw[yi,OH,Qt,Og,O6] at j;rcases j with⟨rfl,rfl,rfl⟩
  |⟨rfl,rfl,rfl⟩
  |⟨rfl,rfl,rfl⟩
  |⟨rfl,rfl,rfl⟩
 .exact⟨PySem.F.plainAttrs_list,PySem.F.slot_list_append,PySem.F.type_list_append,u9⟩
 .exact⟨Qh,PySem.F.slot_str_join,PySem.F.type_str_join,AF⟩
 .exact⟨Qh,PySem.F.slot_str_index,PySem.F.type_str_index,vc⟩
 .exact⟨PySem.F.plainAttrs_set,PySem.F.slot_set_add,PySem.F.type_set_add,En k⟩
theorem bx{x:Str}(h:special x=false):(x==("__debug__":Str))=false/\(x==("__classdict__":Str))=false/\x≠"__name__":=by
 unfold special at h;erw[Bool.or_eq_false_iff] at h;exact⟨h.1.1,h.1.2,~~~h.2⟩
section
variable{X:L2.Cx}{cl:Cl}{C:D.Cx}{c:Ci}
theorem Ok.slot(o:Ok X cl C c){x:Str}(h:jG x c.N=some i):X.N[i]?=some x:=by rw[o.N];exact iJ h
theorem A3(o:Ok X cl C c){x:Str}(h:mW c x=some d):PE X (.Name x pos) (SE X cl (ao C d))/\∀Z m,bB C d Z m=(ao C d Z m).bind λ w m=>D.truthy m w:=by
 unfold mW at h;split at h
 .cases h
 .ext q;let⟨j,k,r⟩:=bx (~~~q);split at h
  .ext a;erw[ME] at h;let⟨i,g,rfl⟩:=h;exact⟨mQ (o.slot g) (o.vis a (.inl rfl)) j k,λ _ _=>rfl⟩
  .ext a;erw[ME] at h;let⟨i,g,rfl⟩:=h;exact⟨mQ (o.slot g) (o.vis a (.inr (.inl rfl))) j k,λ _ _=>rfl⟩
  .ext a;erw[ME] at h;let⟨i,g,rfl⟩:=h;exact⟨mQ (o.slot g) (o.vis a (.inr (.inr rfl))) j k,λ _ _=>rfl⟩
  .ext a;erw[ME] at h;let⟨w,l,rfl⟩:=h;exact⟨BY (o.glb a) (o.gl l) j,λ _ _=>rfl⟩
  .cases h
def Tells(X:L2.Cx)(cl:Cl)(C:D.Cx)(e:Expr)(d:E):Prop:=PE X e (SE X cl (ao C d))/\PT X e (ST X cl (bB C d))
theorem aq(h:PE X e (SE X cl (ao C d)))(g:∀a,isTrue e X.env a=(do let v <-a;standAt e.pos;holding [v] (PySem.truthy v)))(j:∀Z m,bB C d Z m=(ao C d Z m).bind λ w m=>D.truthy m w):Tells X cl C e d:=⟨h,B3 h g j⟩
theorem yl(h:Tells X cl C e d):Tells X cl C e (wz c e d):=by
 unfold wz;split
 .ext a;erw[MJ] at a;refine⟨Ce h.1,B3 (Ce h.1) ?_ λ _ _=>rfl⟩;have:=a.1;cases e<;>first | (intro _;rfl) | cases this
 .exact h
theorem fT(a:∀e d,f e=some d->Tells X cl C e d):∀{es:List Expr} {ds:Es},jH f es=some ds->PA X es (SA X cl (aR C ds))
 | [],_,h=>by cases h;exact HV
 |e::es,ds,h=>by
  let⟨g,d,l,k,j,rfl⟩:=eE h;exact Ed (a e d k).1 (fT a j) (aQ g)
theorem Ir(a:∀e d,f e=some d->Tells X cl C e d){e:Option Expr}{d:Oe}(h:cO f e=some d):PO X e (FF X cl (xr C d)):=by
 cases e with
 |none=>cases h;exact Ef
 |some e=>
  erw[cO,ME] at h;let⟨j,g,rfl⟩:=h;exact Eg (a e j g).1
theorem ym{f:Expr->Option E}(g:∀e d,f e=some d->Tells X cl C e d){a:BoolOp}{pos:Pos}:∀{es:List Expr} {d:E},Ip f a es=some d->PE X (.BoolOp a es pos) (SE X cl (ao C d))/\PW X (.BoolOp a es pos) (ST X cl (bB C d))
 | [],_,h=>by cases h
 | [e],d,h=>by
  have q:=g e d h;cases a with
  |And=>exact⟨vU q.1,zy q.2⟩
  |Or=>exact⟨vU q.1,C0 q.2⟩
 |e::z::r,d,h=>by
  unfold Ip at h;split at h
  .cases h
  .ext y x;split at h
   .cases h
   .ext A w;let⟨k,j⟩:=ym (pos:=pos) g w;let⟨u,l⟩:=g e y x;cases a with
    |And=>cases h;exact⟨HR u k,w_and l j⟩
    |Or=>cases h;exact⟨KD u k,w_or l j⟩
theorem A4{a P:Expr}{da db dc:E}{A o2:CmpOp}(hu:UN X cl)(ha:PE X a (SE X cl (ao C da)))(hb:PE X b (SE X cl (ao C db)))(g:PE X P (SE X cl (ao C dc)))(hm:lastMarks [A,o2] [b,P]=false) :
  PT X (.Compare a [A,o2] [b,P] pos) (ST X cl (bB C (.chain A o2 da db dc))):=by
 refine PT.imp (wc (jd (cl:=cl) hu A) (jd (cl:=cl) hu o2) ha hb g hm) ?_;rintro Y H Q ⟨J,Z,m,w,m',r,l,e,k⟩;erw[bP] at e;let⟨x,m1,e1,e⟩:=R.af e;let⟨y,m2,e2,e⟩:=R.af e;let⟨z,m3,e3,e⟩:=R.af e;refine⟨J,Z,m,x,m1,r,l,e1,fun L H1 v1 O q q1=>?_⟩;refine⟨L,Z,m1,y,m2,q,l.mono r O,e2,fun I H2 v2 N j U=>?_⟩;have l2:=(l.mono r O).mono q N;refine⟨I,m2,x,y,.bl z,m3,j,q1.mono q N,U,by rw[e3];rfl,fun G H3 v3 M h q3=>?_⟩;cases q3;refine⟨z,rfl,?_⟩;have HU:=(O.trans q N).trans j M;split at e
 .ext g;rw[MW g];let⟨u,m4,e4,e⟩:=R.af e;refine⟨G,Z,m3,u,m4,h,l2.mono j M,e4,fun B H4 v4 S T q4=>?_⟩;refine⟨B,m4,y,u,.bl w,m',T,(U.mono j M).mono h S,q4,by rw[e];rfl,fun β5 H5 v5 x5 r5 q5=>?_⟩;cases q5;exact⟨_,rfl,k _ _ ((HU.trans h S).trans T x5) r5⟩
 .ext g;rw[M8 g];cases e;exact⟨_,rfl,k _ _ HU h⟩
theorem Iu{a:Expr}{N P O:E}(T:PT X t (ST X cl (bB C N)))(ha:PT X a (ST X cl (bB C P)))(hb:PT X b (ST X cl (bB C O))):PT X (.IfExp t a b pos) (ST X cl (bB C (.ife N P O))):=by
 intro L s Y H Q I h;let⟨J,Z,m,w,m',r,l,e,k⟩:=h;erw[eX] at e;let⟨x,y,e1,e⟩:=R.af e;show wpAny _ _ (isTrue t X.env (eval t X.env) >>= λ z=>if z=true then isTrue a X.env (eval a X.env) else isTrue b X.env (eval b X.env)) _ _ s;refine MF (br (T L s Y H (λ c u=>c=x/\∃g,Ext J H g u/\Rel X.K cl g y u) I ⟨J,Z,m,x,y,r,l,e1,fun g u j q=>⟨rfl,g,j,q⟩⟩) λ c M ⟨u,S,U,g,j,q⟩=>?_);subst U;cases c with
 |true=>exact ha L M Y u Q S ⟨g,Z,y,w,m',q,l.mono r j,e,fun A H2 B G=>k _ _ (j.trans q B) G⟩
 |false=>exact hb L M Y u Q S ⟨g,Z,y,w,m',q,l.mono r j,e,fun A H2 B G=>k _ _ (j.trans q B) G⟩
end
section
variable{X:L2.Cx}{cl:Cl}{C:D.Cx}{c:Ci}
theorem iN(o:Ok X cl C c){x:Str}(h:iK c x=some i):X.N[i]?=some x/\L2.Loc X.env.scope x/\(X.fn x=true\/X.env.scope.names.lookup x=some .local):=by
 unfold iK at h;split at h
 .ext a;exact⟨o.slot h,o.loc a (.inl rfl)⟩
 .ext a;exact⟨o.slot h,o.loc a (.inr rfl)⟩
 .cases h
theorem FG(o:Ok X cl C c):X.N.Nodup:=by rw[o.N];exact o.nd
theorem Co{f:Expr->Option T}(g:∀e t,f e=some t->PG X e (SG X cl (fC C (.pt t)))):∀{es:List Expr} {ts:Ts},Jp f es=some ts->
  qK X es (Er X cl (eT C (T.rP ts)))/\(assignEach es X.env).length=(T.rP ts).len/\(assignEach es X.env).findIdx? (·.1)=none
 | [],_,h=>by cases h;exact⟨xZ,rfl,rfl⟩
 |e::es,ts,h=>by
  unfold Jp at h;split at h
  .ext q;split at h
   .cases h
   .ext d u;split at h
    .cases h
    .ext ds r;cases h;let⟨l,k,j⟩:=Co g r;have a:=iL (env:=X.env) (es:=es) q;refine⟨s9 (g e d u) l (by rw[a];rfl),?_,?_⟩
     .rw[a,Nh,k];rfl
     .rw[a,findIdx?_cons];simp[j]
  .cases h
theorem qj(o:Ok X cl C c):∀(n:Nat) (e:Expr) (t:T),cT n c e=some t->PG X e (SG X cl (fC C (.pt t)))
 |0,_,_,h=>by cases h
 |n+1,e,t,h=>by
  unfold cT at h;split at h
  .erw[ME] at h;let⟨i,a,rfl⟩:=h;let⟨r,q,l⟩:=iN o a;exact B8 (FG o) r q l
  .erw[ME] at h;let⟨ts,a,rfl⟩:=h;let⟨k,j,g⟩:=Co (λ e t h=>qj o n e t h) a;exact EB (B9 o.calm k j g)
  .cases h
theorem yo(h:isIt d=false):∀Z m,cN C d Z m=(ao C d Z m).bind mG:=by
 intro Z m;cases d<;>first | (simp[isIt] at h;done) | rfl
theorem oh(a:∀e d,f e=some d->Tells X cl C e d)(h:(match f e with | some d=>if isIt d=true then none else some d | none=>none)=some d):PI X tg e (SI X cl (cN C d)):=by
 split at h
 .ext k j;split at h
  .cases h
  .ext g;cases h;exact H8 (a _ _ j).1 (yo (~~~g))
 .cases h
theorem tK(o:Ok X cl C c)(g:∀e d,f e=some d->Tells X cl C e d)(h:cI f c tg e=some d):PI X tg e (SI X cl (cN C d)):=by
 unfold cI at h;split at h
 .ext x p w y pos;split at h
  .ext u;erw[MJ,Ny,isEmpty_iff] at u;let⟨⟨⟨r,j⟩,A⟩,z⟩:=u;subst r;split at h
   .ext q;subst q;have l:=o.blt "range" 'k';split at h
    .split at h
     .ext a;erw[ME] at h;let⟨G,k,rfl⟩:=h;exact H9 (o.glb j) l (g _ _ k).1 (aQ a)
     .cases h
    .split at h
     .ext a;erw[MJ] at a;split at h
      .ext L I k B;cases h;exact Ey (o.glb j) l (g _ _ k).1 (g _ _ B).1 (by rw[aQ a.1,aQ a.2];rfl) (aQ a.2)
      .cases h
     .cases h
    .cases h
   .split at h
    .ext q;subst q;have l:=o.blt "enumerate" 'k';split at h
     .split at h
      .ext a;erw[ME] at h;let⟨G,k,rfl⟩:=h;exact Ia (o.glb j) l (g _ _ k).1 (aQ a)
      .cases h
     .cases h
    .
      exact oh g h
  .exact oh g h
 .exact oh g h
theorem tL(a:∀e d,f e=some d->Tells X cl C e d)(h:yj f es=some ds):j7 X es (ST X cl (aZ C ds)):=by
 unfold yj at h;split at h
 .cases h;exact AW
 .erw[ME] at h;let⟨d,g,rfl⟩:=h;exact AX (a _ _ g).2
 .cases h
theorem kP{a:List Comprehension}{g:G}(h:Ck f n c elt a=some g):∀g',a[0]?=some g'->g'.is_async=0/\∀(env:Env) x,foldedSetIterable g'.iter env x=pure x:=by
 intro g' j;cases a with
 |nil=>simp at j
 |cons q a=>
  simp at j;subst j;let⟨tg,r,l,u⟩:=q;unfold Ck at h;split at h
  .ext k;exact⟨k.1,λ env x=>n9 k.2 x⟩
  .cases h
theorem yp(o:Ok X cl C c)(k:X.xe=λ _ _=>False)(j:∀e d,f e=some d->Tells X cl C e d){gens:List Comprehension}{Δ:Addr}:∀{r:List Comprehension} {g:G} {d0:Nat},Ck f n c elt r=some g->(∀i,gens[d0+1+i]?=r[i]?)->
  PB X (λ Q s=>dD X.prog X.w X.A (.ListComp elt gens scope pos) elt d0 (.ref Δ) X.env Q gens[d0+1]? s) (SB false X cl Δ (gr C g))
 | [],g,d0,h,a=>by
  erw[Ck,ME] at h;let⟨d,q,rfl⟩:=h;exact EH k (by simpa using a 0) (j _ _ q).1
 |⟨tg,it,ifs,as⟩::r,g,d0,h,a=>by
  unfold Ck at h;split at h
  .ext y;split at h
   .ext t d ds g' q I B u;cases h;let⟨rfl,x⟩:=y;have z:=kP u;refine Ih k o.calm (by simpa using a 0) (λ L l=>?_) (tK o j I) (qj o n _ _ q) (tL j B) (yp o k j (d0:=d0+1) u λ i=>?_)
    .have:=a 1;rw[l] at this;let⟨N,M⟩:=z L (~~~this.symm);exact⟨N,M _⟩
    .have:=a (i+1);rw[show d0+1+1+i=d0+1+(i+1) by omega,this];simp
   .cases h
  .cases h
theorem aY{env:Env}:∀{names:List (Str×NameKind)} {x:Str} {k:NameKind},names.lookup x=some k->
  (names.map λ (n,k)=>if (k==NameKind.free&&env.scope.kind==.function&&env.kindOf n==some .cell) then (n,NameKind.cell) else (n,k)).lookup x=some k\/
  (k=.free/\(names.map λ (n,k)=>if (k==NameKind.free&&env.scope.kind==.function&&env.kindOf n==some .cell) then (n,NameKind.cell) else (n,k)).lookup x=some .cell)
 | [],_,_,h=>by simp at h
 |(n,a)::r,x,k,h=>by
  have l:=@aY env r x k;show List.lookup x ((if (a==NameKind.free&&env.scope.kind==.function&&env.kindOf n==some .cell)=true then (n,NameKind.cell) else (n,a))::(r.map λ (n,k)=>if (k==NameKind.free&&env.scope.kind==.function&&env.kindOf n==some .cell) then (n,NameKind.cell) else (n,k)))=some k\/(k=.free/\List.lookup x ((if (a==NameKind.free&&env.scope.kind==.function&&env.kindOf n==some .cell)=true then (n,NameKind.cell) else (n,a))::(r.map λ (n,k)=>if (k==NameKind.free&&env.scope.kind==.function&&env.kindOf n==some .cell) then (n,NameKind.cell) else (n,k)))=some .cell);cases g:x==n with
  |true=>
   erw[MT,g] at h;cases h
   by_cases j:(a==NameKind.free&&env.scope.kind==.function&&env.kindOf n==some .cell)=true
   .rw[MW j];have q:a=.free:=by
     erw[MJ] at j;simpa using j.1.1
    exact .inr ⟨q,by erw[MT,g]⟩
   .rw[M8 j];exact .inl (by erw[MT,g])
  |false=>
   erw[MT,g] at h;have:=l h;split<;>(erw[MT,g];exact this)
theorem Ok.comp(o:Ok X cl C c)(u:rW c.N scope c.names=true):fX X.N (qg c.N scope.names) scope X.env.scope/\∀q h H₀ G pn,Ok (X.comp scope q h H₀ G pn) cl C {c with names:=scope.names}:=by
 unfold rW at u;erw[MJ,Nz,OO,Pb] at u;let⟨L,A⟩:=u;refine⟨⟨L,λ y l j=>?_,λ y l j=>?_,λ p B j=>?_,λ y l I=>?_⟩,λ q h H₀ G pn=>⟨o.N,o.nd,λ {x k} a r=>?_,λ {x k} a r=>?_,λ {x} a=>?_,λ {x} a=>?_,o.calm,⟨o.units.un,o.units.P,o.units.w,o.units.gd⟩,o.hand,o.blt,o.fn,o.gl,o.cs,o.fld,o.mth,o.ini,o.dic,o.isc⟩⟩
 .rcases (A y l).1.1 with z | z
  .exact absurd j z
  .exact z
 .rcases (A y l).1.2 with z | z
  .exact absurd j z
  .exact z
 .unfold qg;rw[o.N] at B;refine Nj.mpr ⟨p,O8.mpr ⟨B,by rcases j with j | j<;>simp[j]⟩,rfl⟩
 .rcases (A y l).2 with (z | z) | z
  .exact absurd I z
  .exact o.cel (.inl z)
  .exact o.cel (.inr z)
 .rcases aY (env:=X.env) a with z | ⟨g,z⟩
  .rcases r with rfl | rfl | rfl
   .exact .inl z
   .exact .inr (.inl z)
   .exact .inr (.inr z)
  .exact .inr (.inl z)
 .rcases r with rfl | rfl
  .rcases aY (env:=X.env) a with z | ⟨g,z⟩
   .exact⟨.inl z,.inr z⟩
   .cases g
  .rcases aY (env:=X.env) a with z | ⟨g,z⟩
   .exact⟨.inr z,.inl (~~~a)⟩
   .cases g
 .rcases a with a | a
  .rcases aY (env:=X.env) a with z | ⟨g,z⟩
   .exact .inl z
   .cases g
  .rcases aY (env:=X.env) a with z | ⟨g,z⟩
   .exact .inr z
   .exact .inl z
 .rcases aY (env:=X.env) a with z | ⟨g,z⟩
  .exact z
  .cases g
end
theorem tM{c:Ci}(o:Ok X cl C c){a:List (Str×W)}(h:A2 c e=some a):∃x p,e=.Name x p/\TopK X.K X.w X.mg x a/\Gl X x/\(x==("__debug__":Str))=false:=by
 unfold A2 at h;split at h
 .ext x p;split at h
  .cases h
  .ext g;split at h
   .ext j;rw[o.cs] at h;exact⟨x,p,rfl,o.dic h,o.glb j,(bx (~~~g)).1⟩
   .cases h
 .cases h
theorem qk:∀{a:List (Option Expr)} {ks:List Str},mX a=some ks->a.all (·.isSome)=true
 | [],_,_=>rfl
 |e::r,ks,h=>by
  unfold mX at h;split at h
  .erw[ME] at h;let⟨g,j,rfl⟩:=h;rw[QC,qk j];rfl
  .cases h
theorem yq(l:∀e d,f e=some d->PE X e (SE X cl (ao C d))):∀{g:List (Option Expr)} {a:List Expr} {ks:List Str} {ds:Es},mX g=some ks->jH f a=some ds->g.length=a.length->Fz X pos g a (tD X cl C ks ds)
 | [],[],ks,ds,j,h,_=>by cases j;cases h;exact z6
 | [],_::_,_,_,_,_,k=>by simp at k
 |_::_,[],_,_,_,_,k=>by simp at k
 |e::r,v::vs,ks,ds,j,h,k=>by
  unfold mX at j;split at j
  .erw[ME] at j;let⟨q,x,rfl⟩:=j;unfold jH at h;split at h
   .split at h
    .cases h
    .ext d w;split at h
     .cases h
     .ext y u;cases h;exact wJ vS (l v d w) (yq l x u (~~~k))
   .cases h
  .cases j
theorem Jr{a:Expr}{es:Es}(h:jH f [a,b]=some es):∃d d',es=.cons d %[|d']/\f a=some d/\f b=some d':=by
 let⟨_,d,ds,l,k,rfl⟩:=eE h;let⟨_,d',q,j,g,rfl⟩:=eE k;cases g;exact⟨d,d',rfl,l,j⟩
theorem Cp{c:Ci}(o:Ok X cl C c){it:Expr}{ifs:List Expr}{j:List Comprehension}{t:T}{u:E}{g:G}
  (r:∀h a H₀ l pn,Ok (X.comp scope h a H₀ l pn) cl C {c with names:=scope.names}) (y:fX X.N (qg c.N scope.names) scope X.env.scope) (B:∀k,j[0]?=some k->k.is_async=0/\∀(q:Env) x,foldedSetIterable k.iter q x=pure x)
  (A:∀e d,cE n c e=some d->Tells X cl C e d) (w:∀h a H₀ l pn e d,cE n {c with names:=scope.names} e=some d->Tells (X.comp scope h a H₀ l pn) cl C e d)
  (O:cT n {c with names:=scope.names} tg=some t) (M:cI (cE n c) c tg it=some u) (L:yj (cE n {c with names:=scope.names}) ifs=some ds) (I:Ck (cE n {c with names:=scope.names}) n {c with names:=scope.names} elt j=some g) (z:isSet it=false) :
  CL X cl C elt tg it ifs j scope pos (qg c.N scope.names) t u ds g:=
 ⟨o.calm,y,B,tK o A M,λ _ _ _ _ _=>qj (r _ _ _ _ _) n _ _ O,λ _ _ _ _ _=>tL (w _ _ _ _ _) L,
  λ _ _ _ _ _ P=>yp (r _ _ _ _ _) rfl (w _ _ _ _ _) I λ i=>by simp[Nat.add_comm],λ x=>n9 z x⟩
theorem gz:∀(n:Nat) (X:L2.Cx) (c:Ci) (e:Expr) (d:E),Ok X cl C c->cE n c e=some d->Tells X cl C e d
 |0,_,_,_,_,_,h=>by cases h
 |n+1,X,c,e,d,o,h=>by
  have l:∀e d,cE n c e=some d->Tells X cl C e d:=λ e d h=>gz n X c e d o h;unfold cE at h;erw[ME] at h;let⟨d,h,rfl⟩:=h;refine yl ?_;split at h
  .
   let⟨q1,q2⟩:=A3 o h;exact aq q1 (λ _=>rfl) q2
  .
   split at h
   .cases h;exact aq BV (λ _=>rfl) λ _ _=>rfl
   .cases h;exact aq HL (λ _=>rfl) λ _ _=>rfl
   .cases h;exact aq BW (λ _=>rfl) λ _ _=>rfl
   .cases h;exact aq BX (λ _=>rfl) λ _ _=>rfl
   .cases h
  .
   split at h
   .ext A U j y;cases h;exact aq (HM (l _ _ j).1 (l _ _ y).1) (λ _=>rfl) λ _ _=>rfl
   .cases h
  .
   split at h
   .erw[ME] at h;let⟨d',j,rfl⟩:=h;exact aq (HQ (l _ _ j).1) (λ _=>rfl) λ _ _=>rfl
   .erw[ME] at h;let⟨d',j,rfl⟩:=h;exact⟨BZ (l _ _ j).1,B0 (l _ _ j).2⟩
   .cases h
  .
   let⟨q1,q2⟩:=ym l h;exact⟨q1,q2.pt⟩
  .
   split at h
   .split at h
    .cases h
    .ext M;split at h
     .ext kvs N;let⟨x,p,rfl,hT,I,hd⟩:=tM o N;unfold Iq at h;split at h
      .erw[ME] at h;let⟨A,j,rfl⟩:=h;exact⟨EN hT I hd (l _ _ j).1,EO hT I hd (l _ _ j).1⟩
      .cases h
     split at h
     .ext A U j y;cases h;exact⟨HN o.units (l _ _ j).1 (l _ _ y).1 (~~~M),HP o.units (l _ _ j).1 (l _ _ y).1 (~~~M)⟩
     .cases h
   .split at h
    .cases h
    .ext M;split at h
     .ext A U d3 j y O;cases h;have M:=(Nn _).mp M;exact⟨AA o.units (l _ _ j).1 (l _ _ y).1 (l _ _ O).1 (v9 (jd o.units _) (jd o.units _) (l _ _ j).1 (l _ _ y).1 (l _ _ O).1 M),A4 o.units (l _ _ j).1 (l _ _ y).1 (l _ _ O).1 M⟩
     .cases h
   .cases h
  .
   split at h
   .ext A U d3 j y O;cases h;exact⟨HS (l _ _ j).2 (l _ _ y).1 (l _ _ O).1,Iu (l _ _ j).2 (l _ _ y).2 (l _ _ O).2⟩
   .cases h
  .
   erw[ME] at h;let⟨ds,j,rfl⟩:=h;exact aq (B4 (fT l j)) (λ _=>rfl) λ _ _=>rfl
  .erw[ME] at h;let⟨ds,j,rfl⟩:=h;exact aq (B5 (fT l j)) (λ _=>rfl) λ _ _=>rfl
  .
   split at h
   .split at h
    .split at h
     .ext A U d3 j y O;cases h;exact aq (HX (l _ _ j).1 (Ir l y) (Ir l O)) (λ _=>rfl) λ _ _=>rfl
     .cases h
    .cases h
   .split at h
    .cases h
    .ext hs;split at h
     .ext kvs N;let⟨x,p,rfl,hT,I,hd⟩:=tM o N;erw[ME] at h;let⟨A,j,rfl⟩:=h;exact aq (ER hT I hd (l _ _ j).1 (tG ((Nn _).mp hs))) (λ _=>rfl) λ _ _=>rfl
     split at h
     .ext A U j y;cases h;exact aq (HW (l _ _ j).1 (l _ _ y).1 (tG ((Nn _).mp hs))) (λ _=>rfl) λ _ _=>rfl
     .cases h
  .
   split at h
   .ext hc;split at h
    .ext ks N;erw[ME] at h;let⟨ds,j,rfl⟩:=h;exact aq (ES (yq (λ e d h=>(l e d h).1) N j hc.1) (qk N) hc.1 hc.2.2 hc.2.1) (λ _=>rfl) λ _ _=>rfl
    .cases h
   .cases h
  .
   ext f args kws pos;split at h
   .ext N;have N:kws=[]:=by simpa using N
    subst N;split at h
    .ext x p;split at h
     .cases h
     .ext q8;let⟨G,hs2,hs3⟩:=bx (~~~q8);split at h
      .ext Mi;have I:=o.glb Mi;split at h
       .ext i np hf;split at h
        .split at h
         .ext hnp;cases h;let⟨k,fa,fd,ps,e1,e2,e3,e4,e5,e6⟩:=o.fn hf;exact aq (AY e6 e2 I e3 e4 e5 (by rw[e1];exact hnp) G) (λ _=>rfl) λ _ _=>rfl
         .cases h
        .ext a r;split at h
         .ext w;erw[ME] at h;let⟨ds,j,rfl⟩:=h;let⟨k,fa,fd,ps,e1,e2,e3,e4,e5,e6⟩:=o.fn hf;let⟨q,A,R,z1,L,rfl⟩:=eE j;refine aq (s_call e6 e2 I e3 e4 e5 (fT l j) (fun Z m ws m' hw=>?_) G (aQ q) (cV L)) (λ _=>rfl) λ _ _=>rfl;rw[qh hw,tH j,e1];exact w
         .cases h
       .split at h
        .ext ix T;split at h
         .cases h
         .ext a r;erw[ME] at h;let⟨ds,j,rfl⟩:=h;let⟨q,A,R,z1,L,rfl⟩:=eE j;rw[o.cs] at T;exact aq (EM T (o.ini T) I (fT l j) G (aQ q) (cV L)) (λ _=>rfl) λ _ _=>rfl
        split at h
        .ext lK;subst lK;split at h
         .cases h;exact aq (Ep o.units I (o.blt _ 'k')) (λ _=>rfl) λ _ _=>rfl
         .cases h
        split at h
        .ext b hb;split at h
         .cases h
         .ext a r;erw[ME] at h;let⟨ds,j,rfl⟩:=h;let⟨q,A,R,z1,L,rfl⟩:=eE j;obtain⟨M,⟨id,y1,S⟩ | ⟨id,y1,S⟩⟩:=vf hb
          .exact aq (El o.units o.calm o.hand y1 I (o.blt _ M) S (fT l j) hs3 G (aQ q) (cV L)) (λ _=>rfl) λ _ _=>rfl
          .exact aq (Em o.units o.calm o.hand y1 I (o.blt _ M) S (fT l j) hs3 G (aQ q) (cV L)) (λ _=>rfl) λ _ _=>rfl
        .cases h
      .cases h
    .ext ob mm apos;split at h
     .cases h
     .ext P;split at h
      .ext z;split at h
       .ext nm id A y1 S;split at h
        .ext w;erw[ME] at h;let⟨ds,j,rfl⟩:=h;let⟨w0,w1,w2,w3⟩:=yk (X:=X) (cl:=cl) o.units y1;have u:=jL (env:=X.env) (m:=mm) (by simpa using P:f9 ob=false);cases args with
         |nil=>
          cases j;exact aq (AG rfl w0 w1 w2 w3 (l _ _ S).1 u z) (λ _=>rfl) λ _ _=>rfl
         |cons a r=>
          let⟨q,U,R,z1,L,rfl⟩:=eE j;refine aq (Eo rfl w0 w1 w2 w3 (l _ _ S).1 (fT l j) u ?_ z (aQ q) (cV L)) (λ _=>rfl) λ _ _=>rfl;rw[n8 j];have:(a::r).length+0+0<30:=MO w 'd';show (true&&true&&decide _)=true;exact NH this
        .cases h
       .ext A y1 S;split at h
        .ext w;erw[ME] at h;let⟨ds,j,rfl⟩:=h;have u:=jL (env:=X.env) (m:=mm) (by simpa using P:f9 ob=false);refine aq (Io (λ hx=>o.mth hx) (l _ _ S).1 (fT l j) u ?_ z ?_) (λ _=>rfl) λ _ _=>rfl
         .rw[n8 j];have:args.length+0+0<30:=MO w 'd';show (true&&true&&decide _)=true;exact NH this
         .cases args with
          |nil=>cases j;exact .inl ⟨rfl,rfl⟩
          |cons a r=>
           let⟨q,U,R,z1,L,rfl⟩:=eE j;exact .inr ⟨a,r,rfl,aQ q,cV L⟩
        .cases h
       .cases h
      .cases h
    .cases h
   .cases h
  .
   ext ob f p;split at h
   .cases h
   .ext P;erw[ME] at h;let⟨A,j,rfl⟩:=h;exact aq (Im (λ hx=>o.fld hx) (l _ _ j).1 (jL (by simpa using P:f9 ob=false))) (λ _=>rfl) λ _ _=>rfl
  .
   ext elt gens scope pos;split at h
   .cases h
   .ext tg it ifs as gs;split at h
    .ext mY;let⟨rfl,lK,hco⟩:=mY;split at h
     .ext t A ds g j y O h4;cases h;let⟨ok,oc⟩:=o.comp hco;have FH:∀cl' B H₀ fp pn e d,cE n {c with names:=scope.names} e=some d->Tells (X.comp scope cl' B H₀ fp pn) cl C e d:=λ cl' B H₀ fp pn e d h=>gz n _ _ e d (oc cl' B H₀ fp pn) h;refine aq (EJ (Cp o oc ok (kP h4) l FH j y O h4 lK) (eval_ListComp _ _ _ _)) (λ _=>rfl) λ _ _=>rfl
     .cases h
    .cases h
  .cases h
section
variable{env:Env}
theorem A5{i:Expr}(h:isSlice i=false)(v:Value):assign (.Subscript o i pos) env v=(do
   let a <-holding [v] (eval o env)
   let g <-holding [v,a] (eval i env)
   standAt pos
   holding [v,a,g] (setItem a g v)
   release [v,a,g] []):=by
 cases i<;>first | rfl | cases h
theorem A6{l:Nat}(h:tF tg=false):swapsWithSole [tg] v l env=pure false:=by
 show swapsWith v (some tg) l env=pure false;cases v<;>first | rfl | (cases tg<;>first | rfl | cases h)
theorem A7{f:Str}{l:Nat}:swapsWith v @(.Attribute o f p) l env=pure false:=by
 cases v<;>rfl
theorem mZ(h:(kO tg&&kO v)=false):swappedStores [tg] v env=pure none:=by
 cases tg<;>first | rfl | (cases v<;>first | rfl | cases h)
end
theorem vg{c:Ci}(j:kN v=true)(h:cE n c v=some d):(∃elt gens scope pos,v=.ListComp elt gens scope pos)\/∃g a gens scope pos,v=.DictComp g a gens scope pos:=by
 cases n with
 |zero=>cases h
 |succ n=>
  cases v with
  |ListComp elt gens scope pos=>exact .inl ⟨_,_,_,_,rfl⟩
  |SetComp elt gens scope pos=>unfold cE at h;simp at h
  |DictComp k v gens scope pos=>exact .inr ⟨_,_,_,_,_,rfl⟩
  |_=>cases j
section
variable{X:L2.Cx}{cl:Cl}{C:D.Cx}{c:Ci}
theorem Cq{f:Expr->Option A}(g:∀e t,f e=some t->PG X e (SG X cl (fC C t))):∀{es:List Expr} {ts:As},Jq f es=some ts->
  qK X es (Er X cl (eT C ts))/\(assignEach es X.env).length=ts.len/\(assignEach es X.env).findIdx? (·.1)=none
 | [],_,h=>by cases h;exact⟨xZ,rfl,rfl⟩
 |e::es,ts,h=>by
  unfold Jq at h;split at h
  .ext q;split at h
   .cases h
   .ext d u;split at h
    .cases h
    .ext ds r;cases h;let⟨l,k,j⟩:=Cq g r;have a:=iL (env:=X.env) (es:=es) q;refine⟨s9 (g e d u) l (by rw[a];rfl),?_,?_⟩
     .rw[a,Nh,k];rfl
     .rw[a,findIdx?_cons];simp[j]
  .cases h
theorem yr(o:Ok X cl C c):∀(n:Nat) (e:Expr) (t:A),cA n c e=some t->PG X e (SG X cl (fC C t))
 |0,_,_,h=>by cases h
 |n+1,e,t,h=>by
  unfold cA at h;split at h
  .erw[ME] at h;let⟨i,a,rfl⟩:=h;let⟨j,g,u⟩:=iN o a;exact B8 (FG o) j g u
  .erw[ME] at h;let⟨ts,a,rfl⟩:=h;let⟨q,l,k⟩:=Cq (λ e t h=>yr o n e t h) a;exact B9 o.calm q l k
  .split at h
   .cases h
   .ext r;split at h
    .ext x w j g;cases h;exact Ib o.units (gz n X c _ _ o j).1 (gz n X c _ _ o g).1 (A5 ((Nn _).mp r))
    .cases h
  .cases h
theorem gh{f:Stmt->Option S}(a:∀s d,f s=some d->PS X s (SS X cl (bf C d))):∀{es:List Stmt} {ds:Ss},qL f es=some ds->gF X es (SS X cl (aC C ds))
 | [],_,h=>by cases h;exact ED
 |e::es,ds,h=>by
  unfold qL at h;split at h
  .cases h
  .ext d j;split at h
   .cases h
   .ext ds g;cases h;exact AH (a e d j) (gh a g)
theorem yt(o:Ok X cl C c){x:Str}{gens:List Comprehension}(U:iK c x=some i)(h:cE n c (.ListComp elt gens scope pos)=some d) :
  PS X (.Assign [.Name x p] (.ListComp elt gens scope pos) spos) (SS X cl (bf C (.asg (.pt (.var i)) d))):=by
 let⟨I,G,B⟩:=iN o U;have e:swapsWith (.ListComp elt gens scope pos) @(.Name x p) spos.line X.env=pure (X.env.blockKind==.function&&X.env.kindOf x==some .local&&p.line==(Expr.ListComp elt gens scope pos).pos.line&&!(scope.names.any λ (n,k)=>n==x&&(k==.local||k==.cell))):=rfl;cases A:(X.env.blockKind==.function&&X.env.kindOf x==some .local&&p.line==(Expr.ListComp elt gens scope pos).pos.line&&!(scope.names.any λ (n,k)=>n==x&&(k==.local||k==.cell))) with
 |false=>
  rw[A] at e;exact rQ (FG o) I G (gz n X c _ _ o h).1 e B
 |true=>
  rw[A] at e;cases n with
  |zero=>cases h
  |succ n=>
   have S:∀e d,cE n c e=some d->Tells X cl C e d:=λ e d h=>gz n X c e d o h;unfold cE at h;erw[ME] at h;let⟨d,h,rfl⟩:=h;have r:PS X (.Assign [.Name x p] (.ListComp elt gens scope pos) spos) (SS X cl (bf C (.asg (.pt (.var i)) d)))->PS X (.Assign [.Name x p] (.ListComp elt gens scope pos) spos) (SS X cl (bf C (.asg (.pt (.var i)) (wz c (.ListComp elt gens scope pos) d)))):=λ q=>by
    unfold wz;split
    .exact EK q
    .exact q
   refine r ?_;split at h
   .cases h
   .ext tg it T as gs;split at h
    .ext P;let⟨rfl,R,u⟩:=P;split at h
     .ext t d1 ds g N M L y;cases h;let⟨O,z⟩:=o.comp u;have FH:∀l a j w pn e d,cE n {c with names:=scope.names} e=some d->Tells (X.comp scope l a j w pn) cl C e d:=λ l a j w pn e d h=>gz n _ _ e d (z l a j w pn) h;exact AV (FG o) I G (Cp o z O (kP y) S FH N M L y R) e B
     .cases h
    .cases h
theorem A8(o:Ok X cl C c)(k:∀e d,cE n c e=some d->Tells X cl C e d){d:S}(h:ET n c tg v=some d):PS X (.Assign [tg] v spos) (SS X cl (bf C d)):=by
 unfold ET at h;split at h
 .cases h
 .ext a;erw[Pb,NB,Qx,Bool.not_eq_false] at a;let⟨⟨r,q⟩,l⟩:=a;split at h
  .ext t u j g;cases h;exact EE (k _ _ g).1 (yr o n _ _ j) (A6 ((Nn _).mp q)) (mZ ((Nn _).mp r)) (by rw[iL l];rfl)
  .cases h
theorem A9(o:Ok X cl C c)(q:X.env.scope.names=c.names)(r:X.env.scope.kind=.function){d:S}(h:EU n c tg v=some d):PS X (.Assign [tg] v spos) (SS X cl (bf C d)):=by
 have j:∀e d,cE n c e=some d->Tells X cl C e d:=λ e d h=>gz n X c e d o h;unfold EU at h;split at h
 .ext x p;split at h
  .ext i z g a;cases h;let⟨y,w,u⟩:=iN o g
   by_cases k:kN v=true
   .rcases vg k a with⟨_,_,_,_,rfl⟩ | ⟨_,_,_,_,_,rfl⟩
    .exact yt o g a
    .cases n with | zero=>cases a | succ n=>unfold cE at a;simp at a
   .exact rQ (FG o) y w (j _ _ a).1 (iM ((Nn _).mp k)) u
  .cases h
 .split at h
  .ext z A g a;cases h;exact EL (λ l=>o.fld l) (j _ _ g).1 (j _ _ a).1 A7
  .cases h
 .
   exact A8 o j h
theorem Cr(o:Ok X cl C c)(a:X.env.scope.names=c.names)(g:X.env.scope.kind=.function)(B:PassesOwn (model X.prog X.w) X.A X.env X.xe)(G:∀e s,¬X.xe e s):∀(n:Nat) (s:Stmt) (d:S),cS n c s=some d->PS X s (SS X cl (bf C d))
 |0,_,_,h=>by cases h
 |n+1,s,d,h=>by
  have j:∀e d,cE n c e=some d->Tells X cl C e d:=λ e d h=>gz n X c e d o h;have k:∀s d,cS n c s=some d->PS X s (SS X cl (bf C d)):=λ s d h=>Cr o a g B G n s d h;unfold cS at h;split at h
  .split at h
   .exact A9 o a g h
   .cases h
  .split at h
   .cases h
   .ext L;erw[ME] at h;let⟨z,u,rfl⟩:=h;exact AI (j _ _ u).1 (iM ((Nn _).mp L))
  .split at h
   .erw[ME] at h;let⟨z,u,rfl⟩:=h;exact x9 (j _ _ u).1
   .cases h;exact nW
  .split at h
   .ext z x y r q l;cases h;exact ya (j _ _ r).2 (gh k q) (gh k l)
   .cases h
  .split at h
   .split at h
    .cases h
    .ext I;split at h
     .ext t z x r q l;cases h;exact yb B o.calm (tK o j q) (qj o n _ _ r) (gh k l) (λ x=>n9 ((Nn _).mp I) x)
     .cases h
   .cases h
  .cases h;exact tu
  .cases h;exact EF
  .cases h;exact AJ
  .cases h;exact kL
  .cases h
end
def yu(K:ae)(J:List Addr)(H:Hp)(Q:VK)(E:XK):F->Prop
 |.nx _=>Q .non H
 |.rt w=>∀v,RW K J H w v->Q v H
 |.rz c none _=>E (.ref (ah K c)) none H
 |.rz c (some (f,w)) _=>∀y dx,RW K J H w y->H dx=none->E (.ref (ah K c)) (some dx) (upd H dx (.xd [(f,y)]))
 |_=>False
def Ba(K:ae)(cl:Cl)(np:Nat)(f:List W->Mem->R F):Sp:=λ vs H Q E=>vs.length=np/\∃J m ws fl m',Rel K cl J m H/\aJ K J H ws vs/\f ws m=.ok fl m'/\∀a g,Ext J H a g->Rel K cl a m' g->yu K a g Q E fl
section
variable{X:L2.Cx}{cl:Cl}{C:D.Cx}{pos:Pos}
theorem Bb{x f:Str}{a:Expr}{np g:Pos}{k:Nat}{G:Addr}{L:FuncData}{h:List Str}{bm:List Value}(N:XC X.K (ah X.K c) bm @(.ref G))(z:PySem.W.typeIn X.K (.ref G)=@(.type "function"))
  (Fi:bQ X.prog X.w X.K X.mg X.base z9 k G L h (FE (ah X.K c) f)) (S:bI (k+1) X.A) (hb:Binds X.K L h []) (u:h.length=2) (j:X.ex=[]) (U:Gl X x) (T:X.mg x=@(.ref (ah X.K c))) (he:PE X a (SE X cl (ao C d)))
  (B:(x==("__debug__":Str))=false) (q:starEach [a] X.env=(false,eval a X.env)::starEach [] X.env):PS X (.Raise @(.Call (.Name x np) [a] [] g) none pos) (SS X cl (bf C (.rais c (some f) d))):=by
 refine PS.imp (xB N z Fi S hb u j U T he B q) ?_;rintro D Y H ⟨J,Z,m,fl,m',r,l,e,k⟩;erw[rH] at e;let⟨w,m1,e1,e⟩:=R.af e;cases e;exact⟨J,Z,m,w,_,r,l,e1,fun M H1 y I O P dx hd=>k _ _ I O Y y dx (l.mono r I) P hd⟩
theorem yv{x:Str}{a:Expr}{np g:Pos}{P:List Value}(B:XC X.K (ah X.K c) P none)(L:X.A.handled=none)(h:X.ex=[])(M:Gl X x)(I:X.mg x=@(.ref (ah X.K c)))(N:PE X a (SE X cl (ao C d)))
  (q:(x==("__debug__":Str))=false) (j:starEach [a] X.env=(false,eval a X.env)::starEach [] X.env):PS X (.Raise @(.Call (.Name x np) [a] [] g) none pos) (SS X cl (bf C (.rais c none d))):=by
 refine PS.imp (uY B L h M I N q j) ?_;rintro D Y H ⟨J,Z,m,fl,m',r,l,e,k⟩;erw[rH] at e;let⟨w,T,O,e⟩:=R.af e;cases e;exact⟨J,Z,m,w,_,r,l,O,fun z U y u G S=>k _ _ u G Y (l.mono r u)⟩
theorem oi{h:BP}{f:F}{a:List Addr}{j:Hp}(e:zo C h Z none fl m2=.ok f m')(z:Rel X.K cl a m2 j)(u:RL X.K a j Z Y)
  (A:∀l r,Ext a j l r->Rel X.K cl l m' r->xU X Dd l r f) (x:∀w,mH C h Z w m2=.ok f m'->∀v,RW X.K a j w v->Q v j):yu X.K a j Q (zq X Y) fl:=by
 cases fl with
 |nx g=>exact x .non e .non .non
 |rt w=>exact λ v q=>x w e v q
 |bk g=>cases e
 |ct g=>cases e
 |rz c G g=>
  cases e;have k:=A a j Ext.refl z;rcases G with _ | ⟨f,w⟩
  .exact k Y u
  .exact λ y I q B=>k Y y I u q B
theorem oj{h:BP}{f:F}{a:List Addr}{j:Hp}{u:W}{v0:V}(e:zo C h Z (some u) fl m2=.ok f m')(A:Rel X.K cl a m2 j)(x:RL X.K a j Z Y)
  (B:∀l r,Ext a j l r->Rel X.K cl l m' r->xU X Dd l r f) (z:mH C h Z u m2=.ok f m'->Q v0 j):yu X.K a j (λ v H=>v=.non/\Q v0 H) (zq X Y) fl:=by
 cases fl with
 |nx g=>exact⟨rfl,z e⟩
 |rt w=>
  intro v q;cases w<;>first | (cases q;exact⟨rfl,z e⟩) | cases e
 |bk g=>cases e
 |ct g=>cases e
 |rz c I g=>
  cases e;have k:=B a j Ext.refl A;rcases I with _ | ⟨f,w⟩
  .exact k Y x
  .exact λ y L q G=>k Y y L x q G
theorem kQ{m1:Mem}(r:Rel X.K cl J m H)(l:RL X.K J H Z Y)(A:aR C ds Z m=.ok ws m1)(z:C.flow i ws m1=.ok fl m2)(y:ws.length=np)
  (h:∀a g,Ext J H a g->Rel X.K cl a m2 g->yu X.K a g Q (zq X Y) fl):rN X (Ba X.K cl np (C.flow i)) [] (SA X cl (aR C ds)) Y H Q:=
 ⟨J,Z,m,ws,m1,r,l,A,fun j B vs w k q=>⟨by rw[NL,<-q.length];exact y,j,m1,ws,fl,m2,k,by rw[NL];exact q,z,fun a g u x=>h a g (w.trans k u) x⟩⟩
theorem kR{m1:Mem}(r:Rel X.K cl J m H)(l:RL X.K J H Z Y)(U:aR C ds Z m=.ok ws m1)(T:C.flow i (.ref m1.length::ws) (m1++[.ins c []])=.ok fl m2)(S:(W.ref m1.length::ws).length=np)
  (h:∀a k x,Ext J H a k->Rel X.K cl a m2 k->RW X.K a k (.ref m1.length) (.ref x)->yu X.K a k (λ v H=>v=.non/\Q (.ref x) H) (zq X Y) fl):rO X (ah X.K c) (Ba X.K cl np (C.flow i)) [] (SA X cl (aR C ds)) Y H Q:=by
 refine⟨J,Z,m,ws,m1,r,l,U,fun g H1 N M j P x z R y w=>?_⟩;let⟨G,u⟩:=j.xR y (.own x);have D7:upd H1 z (.own x) x=none:=by rw[ai w.symm];exact R
 let⟨B,I⟩:=u.xJ (ho:=.ins (ah X.K c) z []) (o:=.ins c []) D7 λ _=>⟨z,[],av,.nil⟩;have L:aJ X.K (g++[x]) _ (.ref m1.length::ws) (.ref x::N):=.cons (.ref (j.last x)) ((P.mono j G).mono u B);refine⟨?_,g++[x],m1++[.ins c []],.ref m1.length::ws,fl,m2,I,by rw[NL];exact L,T,fun q H4 A O=>?_⟩
 .rw[NL,<-L.length];exact S
 .exact h q H4 x (((M.trans j G).trans u B).trans I A) O (.ref (A.get (j.last x)))
theorem EV{a:Expr}(M:PE X a (rN X (Ba X.K cl np (C.flow i)) [] (SA X cl (aR C ds))))(I:∀ws m fl m',C.flow i ws m=.ok fl m'->ws.length=np) :
  ((swapsWith a none pos.line X.env=pure false)->PS X (.Expr a pos) (SS X cl (bf C (.xc .drop none i ds))))/\PS X (.Return (some a) pos) (SS X cl (bf C (.xc .ret none i ds)))/\
  ∀{tg:Expr} {N:A},PG X tg (SG X cl (fC C N))->swapsWithSole [tg] a pos.line X.env=pure false->swappedStores [tg] a X.env=pure none->(assignEach [tg] X.env).map (·.2)=[assign tg X.env]->PS X (.Assign [tg] a pos) (SS X cl (bf C (.xc (.asg N) none i ds))):=by
 refine⟨λ L=>?_,?_,λ {tg N} hg L hw h1=>?_⟩
 .refine PS.imp (nG M L) ?_;rintro D Y H ⟨J,Z,m,f,m',r,l,e,k⟩;erw[pS] at e;let⟨ws,S,B,e⟩:=R.af e;let⟨fl,m2,j,e⟩:=R.af e;refine kQ r l B j (I _ _ _ _ j) fun u T g h=>oi e h (l.mono r g) (fun O P x y=>k _ _ (g.trans h x) y) λ w z v q=>?_;cases z;exact k _ _ g h Y (l.mono r g)
 .refine PS.imp (qO M) ?_;rintro D Y H ⟨J,Z,m,f,m',r,l,e,k⟩;erw[pS] at e;let⟨ws,S,B,e⟩:=R.af e;let⟨fl,m2,j,e⟩:=R.af e;refine kQ r l B j (I _ _ _ _ j) fun u T g h=>oi e h (l.mono r g) (fun O P x y=>k _ _ (g.trans h x) y) λ w z v q=>?_;cases z;exact k _ _ g h v q
 .refine PS.imp (qP M hg L hw h1) ?_;rintro D Y H ⟨J,Z,m,f,m',r,l,e,k⟩;erw[pS] at e;let⟨ws,S,B,e⟩:=R.af e;let⟨fl,m2,j,e⟩:=R.af e;refine kQ r l B j (I _ _ _ _ j) fun u T g h=>oi e h (l.mono r g) (fun O P x y=>k _ _ (g.trans h x) y) λ w z v q=>?_;let⟨Z3,m3,e3,z⟩:=R.af z;cases z;exact⟨u,Z,m2,w,Z3,_,h,l.mono r g,q,e3,fun O P G x y U=>k _ _ (g.trans h x) y G U⟩
theorem EW{a:Expr}(N:PE X a (rO X (ah X.K c) (Ba X.K cl np (C.flow i)) [] (SA X cl (aR C ds))))(L:∀ws m fl m',C.flow i ws m=.ok fl m'->ws.length=np) :
  ((swapsWith a none pos.line X.env=pure false)->PS X (.Expr a pos) (SS X cl (bf C (.xc .drop (some c) i ds))))/\PS X (.Return (some a) pos) (SS X cl (bf C (.xc .ret (some c) i ds)))/\
  ∀{tg:Expr} {G:A},PG X tg (SG X cl (fC C G))->swapsWithSole [tg] a pos.line X.env=pure false->swappedStores [tg] a X.env=pure none->(assignEach [tg] X.env).map (·.2)=[assign tg X.env]->PS X (.Assign [tg] a pos) (SS X cl (bf C (.xc (.asg G) (some c) i ds))):=by
 refine⟨λ M=>?_,?_,λ {tg G} hg M hw h1=>?_⟩
 .refine PS.imp (nG N M) ?_;rintro D Y H ⟨J,Z,m,f,m',r,l,e,k⟩;erw[pT] at e;let⟨ws,T,B,e⟩:=R.af e;let⟨fl,m2,j,e⟩:=R.af e;refine kR r l B j (L _ _ _ _ j) fun u U x g h q=>oj (Q:=λ _ P=>D.nx Y P) (v0:=.ref x) e h (l.mono r g) (fun O S w y=>k _ _ (g.trans h w) y) λ z=>?_;cases z;exact k _ _ g h Y (l.mono r g)
 .refine PS.imp (qO N) ?_;rintro D Y H ⟨J,Z,m,f,m',r,l,e,k⟩;erw[pT] at e;let⟨ws,T,B,e⟩:=R.af e;let⟨fl,m2,j,e⟩:=R.af e;refine kR r l B j (L _ _ _ _ j) fun u U x g h q=>oj (Q:=D.rt) e h (l.mono r g) (fun O S w y=>k _ _ (g.trans h w) y) λ z=>?_;cases z;exact k _ _ g h _ q
 .refine PS.imp (qP N hg M hw h1) ?_;rintro D Y H ⟨J,Z,m,f,m',r,l,e,k⟩;erw[pT] at e;let⟨ws,T,B,e⟩:=R.af e;let⟨fl,m2,j,e⟩:=R.af e;refine kR r l B j (L _ _ _ _ j) fun u U x g h q=>oj (Q:=λ v P=>SG X cl (fC C G) v Y P D.nx) e h (l.mono r g) (fun O S w y=>k _ _ (g.trans h w) y) λ z=>?_;let⟨Z3,m3,e3,z⟩:=R.af z;cases z;exact⟨u,Z,m2,_,Z3,_,h,l.mono r g,q,e3,fun O S I w y l'=>k _ _ (g.trans h w) y I l'⟩
end
section
variable{X:L2.Cx}{cl:Cl}{C:D.Cx}{pos:Pos}
theorem Rel.exc{a:Addr}{g:Obj}{h:Option Addr}{f:Str}(r:Rel K cl J m H)(j:H a=none)(l:Au (ah K c) h g)(q:aJ K J H ws vs)(d:XD H h f vs) :
  Ext J H (J++[a]) (upd H a (iH a g))/\Rel K cl (J++[a]) (m++[.exc c f ws]) (upd H a (iH a g)):=by
 refine r.xJ (ho:=iH a g) (o:=.exc c f ws) j λ x=>?_;refine⟨g,h,vs,av,l,q.mono r x,d.imp id λ ⟨u,y,z,w,k⟩=>⟨u,y,z,w,?_⟩⟩;rw[ai (au k j)];exact k
theorem RL.gone(l:RL K J H Z Y):RL K J H (Z.set i none) (Y.set i none):=by
 refine⟨~~~l.len,λ {j w} h=>?_⟩
 by_cases z:i=j
 .subst z;rw[QB] at h;simp at h
 .rw[M7 z] at h ⊢;exact l.at_ h
def tN(i:Option Nat)(Y:L2.St):L2.St:=match i with
 |none=>Y
 |some i=>Y.set i none
theorem iO{j:L2.Cx}{i:Option Nat}{a:Ends}{f:F}(g:j.K=X.K)(e:gone i fl m2=.ok f m')(k:Rel X.K cl J m' H->xU X Dd J H f)(r:Rel X.K cl J m2 H)(h:∀Z Y,RL X.K J H Z Y->RL X.K J H (rG i none Z) (tN i Y))
  (z:∀Y,a.nx Y H=Dd.nx (tN i Y) H) (y:∀Y,a.bk Y H=Dd.bk (tN i Y) H) (x:∀Y,a.ct Y H=Dd.ct (tN i Y) H) (u:a.rt=Dd.rt):xU j a J H fl:=by
 cases fl with
 |nx Z=>cases e;intro Y l;rw[g] at l;rw[z];exact k r _ (h _ _ l)
 |bk Z=>cases e;intro Y l;rw[g] at l;rw[y];exact k r _ (h _ _ l)
 |ct Z=>cases e;intro Y l;rw[g] at l;rw[x];exact k r _ (h _ _ l)
 |rt w=>cases e;intro v q;rw[g] at q;rw[u];exact k r _ q
 |rz c w Z=>cases e
theorem EX{body x:List Stmt}{G:Stmt}{cn n:Str}{np hpos:Pos}{P:Addr}{Ar:List Value}{jP:Option Value}{b h:Ss}{cs:List Str}(hx:X.ex=[])(hst:X.stack=X.env::X.outer)(hfl:X.env.frame=some X.env.locals)
  (hN:X.N.Nodup) (hi:X.N[i]?=some n) (hk:X.env.kindOf n=some .local) (p:XC X.K P Ar jP) (hg:Gl X cn) (hm:X.mg cn=@(.ref P)) (hdb:(cn==("__debug__":Str))=false)
  (hcs:∀c,cs.contains c=true->∃bm j,XC X.K (ah X.K c) bm j/\(Value.ref (ah X.K c)::bm).contains (.ref P)=true)
  (hb:∀pn xe,PassesOwn (model X.prog X.w) X.A X.env xe->gF (X.lH pn xe) body (SS (X.lH pn xe) cl (aC C b)))
  (hs:∀a pn,gF (X.jD (.ref a) pn pX) (G::x) (SS (X.jD (.ref a) pn pX) cl (aC C h))) :
  PS X (.Try body [.ExceptHandler @(.Name cn np) (some n) (G::x) hpos] [] [] pos) (SS X cl (bf C (.tr b cs (some i) h))):=by
 refine PS.imp (xE (tb:=λ MC=>SS MC cl (aC C b)) hx hst hfl hb (Ky (ts:=λ MC=>SS MC cl (aC C h)) hx hN hi hk p hg hm hs hdb)) ?_;rintro D Y H ⟨J,Z,m,f,m',r,l,e,k⟩;erw[Aj] at e;let⟨fl,z,e1,e⟩:=R.af e;intro pn xe hE;refine⟨J,Z,m,fl,z,r,l,e1,fun T H1 M u=>?_⟩;cases fl with
 |nx L=>cases e;exact k _ _ M u
 |bk L=>cases e;exact k _ _ M u
 |ct L=>cases e;exact k _ _ M u
 |rt w=>cases e;exact k _ _ M u
 |rz c fw L=>
  simp only at e;split at e
  .ext hc;let⟨bm,j,xc,hin⟩:=hcs c hc;let⟨B,m2,S,e3⟩:=R.af e;rcases fw with _ | ⟨g,w⟩
   .have S:aC C h (L.set i @(.ref z.length)) (z++[O.exc c "" []])=.ok B m2:=S;intro I l1;refine hE I (.ref (ah X.K c)) none H1 ⟨ah X.K c,bm,j,rfl,xc,hin,λ a pn' oa xo ha=>?_⟩;let⟨U,r2⟩:=u.exc (f:="") (ws:=[]) (vs:=[]) ha xo .nil (.inl ⟨rfl,rfl⟩);refine⟨T++[a],L.set i @(.ref z.length),z++[O.exc c "" []],B,m2,r2,(RL.mono u U l1).set (.ref (u.last a)),S,fun β3 H3 x3 r3=>?_⟩;exact iO (X:=X) rfl e3 (λ r4=>k _ _ ((M.trans u U).trans r2 x3) r4) r3 (fun Z Y l=>l.gone) (λ _=>rfl) (λ _=>rfl) (λ _=>rfl) rfl
   .have S:aC C h (L.set i @(.ref z.length)) (z++[O.exc c g [w]])=.ok B m2:=S;intro I y dx l1 q hd;let⟨x0,r0⟩:=u.xR hd (.xd [(g,y)]);refine hE I (.ref (ah X.K c)) (some dx) (upd H1 dx (.xd [(g,y)])) ⟨ah X.K c,bm,j,rfl,xc,hin,λ a pn' oa xo ha=>?_⟩;let⟨U,r2⟩:=r0.exc (f:=g) (ws:=[w]) (vs:=[y]) ha xo %[|RW.mono u x0 q] (.inr ⟨dx,y,rfl,rfl,av⟩);refine⟨T++[a],L.set i (some (.ref z.length)),z++[O.exc c g [w]],B,m2,r2,(RL.mono r0 U (RL.mono u x0 l1)).set (.ref (r0.last a)),S,fun β3 H3 x3 r3=>?_⟩;exact iO (X:=X) rfl e3 (λ r4=>k _ _ (((M.trans u x0).trans r0 U).trans r2 x3) r4) r3 (fun Z Y l=>l.gone) (λ _=>rfl) (λ _=>rfl) (λ _=>rfl) rfl
  .cases e
end
section
variable{X:L2.Cx}{cl:Cl}{C:D.Cx}{pos:Pos}
theorem EY{body u:List Stmt}{B:Stmt}{cn:Str}{np hpos:Pos}{P:Addr}{Ar:List Value}{jP:Option Value}{b h:Ss}{cs:List Str}(hx:X.ex=[])(hst:X.stack=X.env::X.outer)(hfl:X.env.frame=some X.env.locals)
  (p:XC X.K P Ar jP) (hg:Gl X cn) (hm:X.mg cn=@(.ref P)) (hdb:(cn==("__debug__":Str))=false)
  (hcs:∀c,cs.contains c=true->∃bm j,XC X.K (ah X.K c) bm j/\(Value.ref (ah X.K c)::bm).contains (.ref P)=true)
  (hb:∀pn xe,PassesOwn (model X.prog X.w) X.A X.env xe->gF (X.lH pn xe) body (SS (X.lH pn xe) cl (aC C b)))
  (hs:∀a pn,gF (X.jD (.ref a) pn pX) (B::u) (SS (X.jD (.ref a) pn pX) cl (aC C h))) :
  PS X (.Try body [.ExceptHandler @(.Name cn np) none (B::u) hpos] [] [] pos) (SS X cl (bf C (.tr b cs none h))):=by
 refine PS.imp (xE (tb:=λ MC=>SS MC cl (aC C b)) hx hst hfl hb (Kz (ts:=λ MC=>SS MC cl (aC C h)) hx p hg hm hs hdb)) ?_;rintro D Y H ⟨J,Z,m,f,m',r,l,e,k⟩;erw[Aj] at e;let⟨fl,U,e1,e⟩:=R.af e;intro pn xe hE;refine⟨J,Z,m,fl,U,r,l,e1,fun N H1 L x=>?_⟩;cases fl with
 |nx I=>cases e;exact k _ _ L x
 |bk I=>cases e;exact k _ _ L x
 |ct I=>cases e;exact k _ _ L x
 |rt w=>cases e;exact k _ _ L x
 |rz c fw I=>
  simp only at e;split at e
  .ext hc;let⟨bm,j,xc,hin⟩:=hcs c hc;let⟨z,m2,M,e3⟩:=R.af e;rcases fw with _ | ⟨g,w⟩
   .have M:aC C h I (U++[O.exc c "" []])=.ok z m2:=M;intro G l1;refine hE G (.ref (ah X.K c)) none H1 ⟨ah X.K c,bm,j,rfl,xc,hin,λ a pn' oa xo ha=>?_⟩;let⟨S,T⟩:=x.exc (f:="") (ws:=[]) (vs:=[]) ha xo .nil (.inl ⟨rfl,rfl⟩);refine⟨N++[a],I,U++[O.exc c "" []],z,m2,T,RL.mono x S l1,M,fun β3 H3 x3 r3=>?_⟩;exact iO (X:=X) rfl e3 (λ r4=>k _ _ ((L.trans x S).trans T x3) r4) r3 (fun Z Y l=>l) (λ _=>rfl) (λ _=>rfl) (λ _=>rfl) rfl
   .have M:aC C h I (U++[O.exc c g [w]])=.ok z m2:=M;intro G y dx l1 q hd;let⟨x0,r0⟩:=x.xR hd (.xd [(g,y)]);refine hE G (.ref (ah X.K c)) (some dx) (upd H1 dx (.xd [(g,y)])) ⟨ah X.K c,bm,j,rfl,xc,hin,λ a pn' oa xo ha=>?_⟩;let⟨S,T⟩:=r0.exc (f:=g) (ws:=[w]) (vs:=[y]) ha xo %[|RW.mono x x0 q] (.inr ⟨dx,y,rfl,rfl,av⟩);refine⟨N++[a],I,U++[O.exc c g [w]],z,m2,T,RL.mono r0 S (RL.mono x x0 l1),M,fun β3 H3 x3 r3=>?_⟩;exact iO (X:=X) rfl e3 (λ r4=>k _ _ (((L.trans x x0).trans r0 S).trans T x3) r4) r3 (fun Z Y l=>l) (λ _=>rfl) (λ _=>rfl) (λ _=>rfl) rfl
  .cases e
theorem Rel.KQ{x:V}{f:Str}(r:Rel K cl J m H)(q:RW K J H (.ref n) x)(e:m[n]?=@(.exc c f ws)) :
  ∃a j g vs,x=.ref a/\H a=some (iH a j)/\Au (ah K c) g j/\aJ K J H ws vs/\XD H g f vs:=by
 cases q with
 |ref h=>
  let⟨j,g,vs,l,k,t,d⟩:=r.obj e h;exact⟨_,j,g,vs,rfl,l,k,t,d⟩
theorem Iv{a:Expr}{f:Str}{A:List Str}(T:∀c,A.contains c=true->∃h j,XC X.K (ah X.K c) h j/\XG X.K (ah X.K c)/\PySem.W.findIn X.K (.ref (ah X.K c)) f=some none)
  (U:PE X a (SE X cl (ao C d))) (hb:attributeBase a f X.env (eval a X.env)=eval a X.env):PE X (.Attribute a f pos) (SE X cl (ao C (.fus (.xfl f A) d))):=by
 refine PE.imp (D8 U hb) ?_;rintro Y H Q ⟨J,Z,m,w,m',r,l,e,k⟩;erw[cH] at e;let⟨x,m1,e1,e⟩:=R.af e;erw[dI,w5] at e;split at e
 .ext n;split at e
  .ext c g w1 e2;split at e
   .ext u;cases e;refine⟨J,Z,m,_,_,r,l,e1,fun B H1 v1 M q O=>?_⟩;let⟨a',P,od,vs,rfl,h1,G,t,dd⟩:=q.KQ O e2;let⟨v,rfl,N⟩:=ic t;let⟨h,j,L,I,S⟩:=T c u.2;rcases dd with⟨_,z⟩ | ⟨dx,y,d1,d2,d3⟩
    .cases z
    .cases d2;subst d1;exact⟨a',ah X.K c,dx,P,h,j,_,v,rfl,h1,G,L,I,S,d3,by rw[u.1];simp[List.lookup],k _ _ _ M q N⟩
   .cases e
  .cases e
 .cases e
theorem Iw{a g:Expr}{v:V}{u:Value}{h:List (Str×Bool)}(hg:Gl X "isinstance")(U:X.mg "isinstance"=none)(h2:PE X g (tC v))(T:∀u',RelV v u'->u'=u)
  (hk:∀c b,h.lookup c=some b->∃y j,XC X.K (ah X.K c) y j/\XG X.K (ah X.K c)/\PySem.W.kitOne X.K (.ref (ah X.K c)) u=some b) (ha:PE X a (SE X cl (ao C d)))
  (A:starEach [a,g] X.env=(false,eval a X.env)::starEach [g] X.env) (q:starEach [g] X.env=(false,eval g X.env)::starEach [] X.env):PE X (.Call (.Name "isinstance" p) [a,g] [] pos) (SE X cl (ao C (.fus (.isx h) d))):=by
 refine PE.imp (jZ (xF) hg U 'k' (bW ha (bW h2 eZ q) A) 'k' 'k' A (by rw[q];rfl)) ?_;rintro Y H Q ⟨J,Z,m,w,m',r,l,e,k⟩;erw[cH] at e;let⟨x,m1,e1,e⟩:=R.af e;erw[dI,mD] at e;split at e
 .split at e
  .ext c f ws em;split at e
   .ext b eb;cases e;refine⟨J,Z,m,_,_,r,l,e1,fun B H1 v1 M z N=>?_⟩;let⟨a',P,O,vs,rfl,h1,G,t,dd⟩:=z.KQ N em;let⟨y,j,L,I,S⟩:=hk c b eb;exact⟨a',ah X.K c,O,P,y,j,v,u,b,rfl,h1,G,L,I,T,S,k _ _ _ M z (.bl b)⟩
   .cases e
  .cases e
 .cases e
theorem EZ{a:Expr}{q}{tp:Pos}{us:List Value}{tab:List (Str×Bool)}(hg:Gl X "isinstance")(hm:X.mg "isinstance"=none)(h2:PA X es (λ _ H Q=>Q vs H))(hz:vs.length<=sizeLine)(hu:∀g,Vals vs g->g=us)
  (hk:∀c b,tab.lookup c=some b->∃u j,XC X.K (ah X.K c) u j/\XG X.K (ah X.K c)/\PySem.W.kitAny X.K (.ref (ah X.K c)) us=some b) (ha:PE X a (SE X cl (ao C d)))
  (he:starEach [a,.Tuple es q tp] X.env=(false,eval a X.env)::starEach [.Tuple es q tp] X.env):PE X (.Call (.Name "isinstance" p) [a,.Tuple es q tp] [] pos) (SE X cl (ao C (.fus (.isx tab) d))):=by
 refine PE.imp (jZ (u5) hg hm 'k' (bW ha (bW (wA h2) eZ) he) 'k' 'k' he rfl) ?_;rintro Y H Q ⟨J,Z,m,w,m',r,l,e,k⟩;erw[cH] at e;let⟨x,m1,e1,e⟩:=R.af e;erw[dI,mD] at e;split at e
 .split at e
  .ext c f ws em;split at e
   .ext b eb;cases e;refine⟨J,Z,m,_,_,r,l,e1,fun A H1 v1 M h P=>⟨hz,λ t y=>?_⟩⟩;let⟨a',T,S,N,rfl,z,B,_,_⟩:=h.KQ P em;let⟨u,j,I,G,U⟩:=hk c b eb;let⟨L,O⟩:=h.p7 y vs;exact⟨a',ah X.K c,S,T,u,j,t,vs,us,b,rfl,by rw[ai (au z y)];exact z,B,I,G,av,hu,U,k _ _ _ (M.trans h L) O (.bl b)⟩
   .cases e
  .cases e
 .cases e
end
structure Cz where
 fn:List (Str×(Nat×Nat)):=[]
 ini:List (Str×Nat):=[]
 cls:List (Str×Option Str):=[]
 sub:List (Str×List Str):=[]
def Cz.tab(z:Cz)(ts:List Str):List (Str×Bool):=z.cls.map λ y=>(y.1,ts.any λ t=>((z.sub.lookup t).getD []).contains y.1)
def Cz.has(z:Cz)(f:Str):List Str:=(z.cls.filter λ y=>y.2==some f).map (·.1)
def Js(c:Ci)(z:Cz):Expr->Option Str
 |.Name t _=>if !special t&&c.names.lookup t==some .globalImplicit&&(z.sub.lookup t).isSome then some t else none
 |_=>none
def Bc(c:Ci)(z:Cz):List Expr->Option (List Str)
 | []=>some []
 |e::r=>match Js c z e with
  |some t=>(Bc c z r).map (t::·)
  |none=>none
def yw:Expr->Option (Expr×Expr)
 |.Call (.Name x _) [a,t] [] _=>if x="isinstance" then some (a,t) else none
 |_=>none
def yx:Expr->Option (List Expr)
 |.Tuple es _ _=>some es
 |_=>none
def uE:Nat->Ci->Cz->Expr->Option E
 |0,_,_,_=>none
 |n+1,c,z,e=>match e with
  |.Name x _=>mW c x
  |.Constant k _ _=>match k with
   |.int i=>some (.cst (.int i))
   |.bool b=>some (.cst (.bl b))
   |.none=>some (.cst .non)
   |.str x=>some (.cst (.str x))
   |_=>none
  |.Tuple es _ _=>(jH (uE n c z) es).map .tup
  |.List es _=>(jH (uE n c z) es).map .lst
  |.BoolOp op vs _=>Ip (uE n c z) op vs
  |.UnaryOp op a _=>match op with
   |.Not=>(uE n c z a).map .not
   |_=>none
  |.Attribute o f _=>if f9 o then none else (uE n c z o).map (.fus (.xfl f (z.has f)))
  |.Call f args g pos=>match yw (.Call f args g pos) with
   |some (a,t)=>if noStar a&&noStar t&&c.names.lookup ("isinstance":Str)==some .globalImplicit then match yx t with
    |some es=>match Bc c z es,uE n c z a with
     |some ts,some d=>if es.length<=100 then some (.fus (.isx (z.tab ts)) d) else none
     |_,_=>none
    |none=>match Js c z t,uE n c z a with
     |some t,some d=>some (.fus (.isx (z.tab [t])) d)
     |_,_=>none
    else none
   |none=>none
  |_=>none
def nameOf:Expr->Option Str
 |.Name x _=>some x
 |_=>none
def uS:Nat->Ci->Cz->Stmt->Option S
 |0,_,_,_=>none
 |n+1,c,z,s=>match s with
  |.Assign ts v _=>match ts with
   | [t]=>match nameOf t with
    |some x=>if kN v then none else match iK c x,uE n c z v with
     |some i,some d=>some (.asg (.pt (.var i)) d)
     |_,_=>none
    |none=>none
   |_=>none
  |.Return o _=>match o with
   |some v=>(uE n c z v).map .ret
   |none=>some .retN
  |.If t a b _=>match uE n c z t,qL (uS n c z) a,qL (uS n c z) b with
   |some d,some x,some y=>some (.ife d x y)
   |_,_,_=>none
  |.Pass _=>some .pass
  |_=>none
def om:Expr->Option (Str×Expr×List Expr)
 |.Call (.Name x _) (a::r) [] _=>some (x,a,r)
 |_=>none
def E2(n:Nat)(c:Ci)(z:Cz)(e:Expr):Option (Option Str×Nat×Es):=match om e with
 |some (x,a,r)=>if !special x&&c.names.lookup x==some .globalImplicit&&!c.fz.contains e.pos then match z.fn.lookup x with
   |some (i,np)=>if (a::r).length=np then (jH (cE n c) (a::r)).map λ d=>(none,i,d) else none
   |none=>match z.ini.lookup x with
    |some i=>(jH (cE n c) (a::r)).map λ d=>(some x,i,d)
    |none=>none
  else none
 |none=>none
def raiseOf:Option Expr->Option Expr->Option (Str×Expr)
 |some (.Call (.Name x _) [a] [] _),none=>some (x,a)
 |_,_=>none
def handOf:List ExceptHandler->Option (Str×Option Str×Stmt×List Stmt)
 | [.ExceptHandler (some (.Name x _)) y (s::r) _]=>some (x,y,s,r)
 |_=>none
def E3:S->Bool
 |.ife _ _ _=>false
 |.for_ _ _ _=>false
 |.while_ _ _=>false
 |.rais _ _ _=>false
 |.xc _ _ _ _=>false
 |.tr _ _ _ _=>false
 |_=>true
def vh(n:Nat)(c:Ci)(s:Stmt):Option S:=match cS n c s with
 |some d=>if E3 d then some d else none
 |none=>none
def yy(n:Nat)(c:Ci)(z:Cz)(x:Str)(a:Expr):Option S:=match z.cls.lookup x with
 |some g=>if !special x&&c.names.lookup x==some .globalImplicit&&noStar a then (cE n c a).map (.rais x g) else none
 |none=>some .never
def Iz(c:Ci)(z:Cz)(x:Str)(y:Option Str)(b h:Ss):Option S:=match z.cls.lookup x,z.sub.lookup x with
 |some _,some cs=>if !special x&&c.names.lookup x==some .globalImplicit then match y with
   |none=>some (.tr b cs none h)
   |some v=>if c.names.lookup v=some .local then (jG v c.N).map λ i=>.tr b cs (some i) h else none
  else none
 |_,_=>none
def Ct(n:Nat)(c:Ci)(z:Cz)(t v:Expr):Option S:=match E2 n c z v with
 |some (mk,i,ds)=>if !noStar t||kO t then none else (cA n c t).map λ t=>.xc (.asg t) mk i ds
 |none=>none
def cX:Nat->Ci->Cz->Stmt->Option S
 |0,_,_,_=>none
 |n+1,c,z,s=>match s with
  |.Raise e f _=>match raiseOf e f with
   |some (x,a)=>yy n c z x a
   |none=>some .never
  |.Try body hs g fin _=>match g with
   | []=>match fin with
    | []=>match handOf hs with
     |some (x,y,s,r)=>match qL (cX n c z) body,qL (uS n c z) (s::r) with
      |some b,some h=>Iz c z x y b h
      |_,_=>none
     |none=>none
    |_=>none
   |_=>none
  |.If t a b _=>match cE n c t,qL (cX n c z) a,qL (cX n c z) b with
   |some d,some x,some y=>some (.ife d x y)
   |_,_,_=>none
  |.For tg it body g _=>match g with
   | []=>if isSet it then none else match cT n c tg,cI (cE n c) c tg it,qL (cX n c z) body with
    |some t,some d,some x=>some (.for_ t d x)
    |_,_,_=>none
   |_=>none
  |.Expr v pos=>match E2 n c z v with
   |some (mk,i,ds)=>some (.xc .drop mk i ds)
   |none=>vh (n+1) c (.Expr v pos)
  |.Return o pos=>match o with
   |some v=>match E2 n c z v with
    |some (mk,i,ds)=>some (.xc .ret mk i ds)
    |none=>vh (n+1) c (.Return (some v) pos)
   |none=>some .retN
  |.Assign ts v pos=>match ts with
   | [t]=>match E2 n c z v with
    |some _=>Ct n c z t v
    |none=>vh (n+1) c (.Assign [t] v pos)
   |_=>none
  |s=>vh (n+1) c s
def pA(K:ae)(t:Str):Value:=if t="ValueError" then .type "ValueError" else .ref (ah K t)
def E4(K:ae)(t:Str):V:=if t="ValueError" then .ty "ValueError" else .ref (ah K t)
theorem yz{t:Str}{u:Value}(h:RelV (E4 K t) u):u=pA K t:=by
 unfold E4 at h;unfold pA;split
 .ext e;rw[MW e] at h;exact h
 .ext e;rw[M8 e] at h;exact h
theorem tO{t:Str}:RelV (E4 K t) (pA K t):=by
 unfold E4 pA;split<;>exact rfl
structure ZU(X:L2.Cx)(z:Cz):Prop where
 sub:∀{t:Str} {cs:List Str},z.sub.lookup t=some cs->(X.mg t=some (pA X.K t)\/X.mg t=none/\bootBuiltins t=@(pA X.K t))/\∀{c fo},z.cls.lookup c=some fo->PySem.W.kitOne X.K (.ref (ah X.K c)) (pA X.K t)=@(cs.contains c)
 cls:∀{c:Str} {fo:Option Str},(c,fo)∈z.cls->∃bm j,XC X.K (ah X.K c) bm j/\XG X.K (ah X.K c)/\∀f,fo=some f->PySem.W.findIn X.K (.ref (ah X.K c)) f=some none
structure FI(X:L2.Cx)(cl:Cl)(C:D.Cx)(z:Cz):Prop where
 fn:∀{x:Str} {i np:Nat},z.fn.lookup x=some (i,np)->∃(k:Nat) (fa:Addr) (fd:FuncData) (ps:List Str),ps.length=np/\bI k X.A/\X.mg x=some (.ref fa)/\PySem.W.keepIn X.K (.ref fa)=true/\Binds X.K fd ps []/\bQ X.prog X.w X.K X.mg X.base (kH X.prog X.w) k fa fd ps (Ba X.K cl ps.length (C.flow i))/\∀ws m fl m',C.flow i ws m=.ok fl m'->ws.length=ps.length
 ini:∀{x:Str} {i:Nat},z.ini.lookup x=some i->∃(k:Nat) (fa:Addr) (fd:FuncData) (ps:List Str),bI (k+1) X.A/\Mk X.K (ah X.K x) fa/\X.mg x=some (.ref (ah X.K x))/\Binds X.K fd ps []/\bQ X.prog X.w X.K X.mg X.base (kH X.prog X.w) k fa fd ps (Ba X.K cl ps.length (C.flow i))/\∀ws m fl m',C.flow i ws m=.ok fl m'->ws.length=ps.length
 cls:∀{x:Str} {fo:Option Str},z.cls.lookup x=some fo->X.mg x=some (.ref (ah X.K x))/\(fo=none->∃bm,XC X.K (ah X.K x) bm none)/\∀f,fo=some f->∃(bm:List Value) (k:Nat) (fa:Addr) (fd:FuncData) (ps:List Str),XC X.K (ah X.K x) bm @(.ref fa)/\PySem.W.typeIn X.K (.ref fa)=some (.type "function")/\bQ X.prog X.w X.K X.mg X.base z9 k fa fd ps (FE (ah X.K x) f)/\bI (k+1) X.A/\Binds X.K fd ps []/\ps.length=2
 hnd:∀{x:Str} {fo:Option Str} {cs:List Str},z.cls.lookup x=some fo->z.sub.lookup x=some cs->∀c,cs.contains c=true->∃bm j,XC X.K (ah X.K c) bm j/\(Value.ref (ah X.K c)::bm).contains (.ref (ah X.K x))=true
 u:ZU X z
theorem ZU.of{a:L2.Cx}{z:Cz}(o:ZU X z)(g:a.K=X.K)(h:a.mg=X.mg):ZU a z:=⟨by rw[g,h];exact o.sub,by rw[g];exact o.cls⟩
structure E5(X:L2.Cx)(cl:Cl)(c:Ci):Prop where
 N:X.N=c.N
 nd:c.N.Nodup
 vis:∀{x:Str} {k:NameKind},c.names.lookup x=some k->(k=.local\/k=.cell\/k=.free)->BA X.env.scope x
 loc:∀{x:Str} {k:NameKind},c.names.lookup x=some k->(k=.local\/k=.cell)->L2.Loc X.env.scope x/\(X.fn x=true\/X.env.scope.names.lookup x=some .local)
 glb:∀{x:Str},c.names.lookup x=some .globalImplicit->Gl X x
 blt:∀x∈kM,X.mg x=none
 gl:∀{x:Str} {w:W},c.gl.lookup x=some w->∃u v,X.mg x=some u/\RelV v u/\∀J H,RW X.K J H w v
section
variable{X:L2.Cx}{cl:Cl}{C:D.Cx}{c:Ci}{z:Cz}
theorem IA(o:E5 X cl c){x:Str}(h:mW c x=some d):PE X (.Name x pos) (SE X cl (ao C d))/\∀Z m,bB C d Z m=(ao C d Z m).bind λ w m=>D.truthy m w:=by
 have k:∀{i},jG x c.N=some i->X.N[i]?=some x:=λ h=>by rw[o.N];exact iJ h
 unfold mW at h;split at h
 .cases h
 .ext r;let⟨j,l,u⟩:=bx (~~~r);split at h
  .ext a;erw[ME] at h;let⟨i,g,rfl⟩:=h;exact⟨mQ (k g) (o.vis a (.inl rfl)) j l,λ _ _=>rfl⟩
  .ext a;erw[ME] at h;let⟨i,g,rfl⟩:=h;exact⟨mQ (k g) (o.vis a (.inr (.inl rfl))) j l,λ _ _=>rfl⟩
  .ext a;erw[ME] at h;let⟨i,g,rfl⟩:=h;exact⟨mQ (k g) (o.vis a (.inr (.inr rfl))) j l,λ _ _=>rfl⟩
  .ext a;erw[ME] at h;let⟨w,q,rfl⟩:=h;exact⟨BY (o.glb a) (o.gl q) j,λ _ _=>rfl⟩
  .cases h
theorem E6(o:E5 X cl c){x:Str}(h:iK c x=some i):X.N[i]?=some x/\L2.Loc X.env.scope x/\(X.fn x=true\/X.env.scope.names.lookup x=some .local):=by
 have g:∀{i},jG x c.N=some i->X.N[i]?=some x:=λ h=>by rw[o.N];exact iJ h
 unfold iK at h;split at h
 .ext a;exact⟨g h,o.loc a (.inl rfl)⟩
 .ext a;exact⟨g h,o.loc a (.inr rfl)⟩
 .cases h
theorem yC{a:Expr}(h:yw e=some (a,t)):∃p pos,e=.Call (.Name "isinstance" p) [a,t] [] pos:=by
 unfold yw at h;split at h
 .split at h
  .ext g;cases h;subst g;exact⟨_,_,rfl⟩
  .cases h
 .cases h
theorem yD(h:yx e=some es):∃x p,e=.Tuple es x p:=by
 unfold yx at h;split at h
 .cases h;exact⟨_,_,rfl⟩
 .cases h
theorem vj{x:Str}(h:nameOf e=some x):∃p,e=.Name x p:=by
 unfold nameOf at h;split at h
 .cases h;exact⟨_,rfl⟩
 .cases h
theorem yE(o:E5 X cl c)(u:ZU X z){t:Str}(h:Js c z e=some t):PE X e (tC (E4 X.K t))/\noStar e=true/\∃g,z.sub.lookup t=some g:=by
 unfold Js at h;split at h
 .split at h
  .ext a;cases h;erw[MJ,NB,Ny] at a;let⟨j,w,r⟩:=bx a.1.1;let⟨g,e⟩:=N8.mp a.2;refine⟨?_,rfl,g,e⟩;rcases (u.sub e).1 with q | ⟨l,k⟩
   .exact iw (o.glb a.1.2) q tO j
   .exact zx (o.glb a.1.2) l k tO r j
  .cases h
 .cases h
theorem tP(o:E5 X cl c)(u:ZU X z):∀{es:List Expr} {ts:List Str},Bc c z es=some ts->PA X es (λ _ H Q=>Q (ts.map (E4 X.K)) H)/\es.length=ts.length/\∀t∈ts,∃A,z.sub.lookup t=some A
 | [],_,h=>by cases h;exact⟨eZ,rfl,λ t w=>by cases w⟩
 |e::es,ts,h=>by
  unfold Bc at h;split at h
  .ext t y;erw[ME] at h;let⟨ts,x,rfl⟩:=h;let⟨k,j,g⟩:=yE o u y;let⟨r,q,l⟩:=tP o u x;refine⟨bW k r (aQ j),by rw[Nh,Nh,q],λ s a=>?_⟩;rcases MX.mp a with rfl | a
   .exact g
   .exact l s a
  .cases h
theorem E7{ts:List Str}{x:Str}{b:Bool}(h:(z.tab ts).lookup x=some b):(∃g,z.cls.lookup x=some g)/\b=ts.any λ t=>((z.sub.lookup t).getD []).contains x:=by
 unfold Cz.tab at h;generalize z.cls=l at h ⊢
 induction l with
 |nil=>cases h
 |cons y r a=>
  rw[Ni,MT] at h;rw[MT];cases e:x==y.1 with
  |true=>
   rw[e] at h;cases h;cases eq_of_beq e;exact⟨⟨_,rfl⟩,rfl⟩
  |false=>
   rw[e] at h;exact a h
theorem m7(u:ZU X z){x:Str}{l:Option Str}(g:z.cls.lookup x=some l):∀{ts:List Str},(∀t∈ts,∃a,z.sub.lookup t=some a)->PySem.W.kitAny X.K (.ref (ah X.K x)) (ts.map (pA X.K))=@(ts.any λ t=>((z.sub.lookup t).getD []).contains x)
 | [],_=>rfl
 |t::ts,h=>by
  let⟨a,e⟩:=h t (.head _);have j:=m7 u g (ts:=ts) λ s k=>h s (.tail _ k);rw[Ni,OG,PySem.W.kitAny,(u.sub e).2 g,e,PY];cases a.contains x with
  |true=>rfl
  |false=>rw[Qv];exact j
theorem tQ:∀{ts:List Str} {us:List Value},Vals (ts.map (E4 K)) us->us=ts.map (pA K)
 | [],_,h=>by cases h;rfl
 |t::ts,_,h=>by
  cases h with
  |cons a b=>rw[Ni,yz a,tQ b]
theorem E8{f x:Str}(h:(z.has f).contains x=true):∃y∈z.cls,y=(x,some f):=by
 unfold Cz.has at h;let⟨y,k,j⟩:=Nj.mp (Oo.mp h);let⟨g,a⟩:=O8.mp k;exact⟨y,g,by cases y;cases j;cases eq_of_beq a;rfl⟩
end
section
variable{X:L2.Cx}{cl:Cl}{C:D.Cx}{c:Ci}{z:Cz}
theorem Cu(o:E5 X cl c)(u:ZU X z):∀(n:Nat) (e:Expr) (d:E),uE n c z e=some d->Tells X cl C e d
 |0,_,_,h=>by cases h
 |n+1,e,d,h=>by
  have l:∀e d,uE n c z e=some d->Tells X cl C e d:=λ e d h=>Cu o u n e d h;unfold uE at h;split at h
  .let⟨k,g⟩:=IA (C:=C) o h;exact aq k (λ _=>rfl) g
  .split at h
   .cases h;exact aq BV (λ _=>rfl) λ _ _=>rfl
   .cases h;exact aq HL (λ _=>rfl) λ _ _=>rfl
   .cases h;exact aq BW (λ _=>rfl) λ _ _=>rfl
   .cases h;exact aq BX (λ _=>rfl) λ _ _=>rfl
   .cases h
  .erw[ME] at h;let⟨d',r,rfl⟩:=h;exact aq (B4 (fT l r)) (λ _=>rfl) λ _ _=>rfl
  .erw[ME] at h;let⟨d',r,rfl⟩:=h;exact aq (B5 (fT l r)) (λ _=>rfl) λ _ _=>rfl
  .let⟨k,g⟩:=ym l h;exact⟨k,g.pt⟩
  .split at h
   .erw[ME] at h;let⟨d',r,rfl⟩:=h;exact⟨BZ (l _ _ r).1,B0 (l _ _ r).2⟩
   .cases h
  .split at h
   .cases h
   .ext P;erw[ME] at h;let⟨d',r,rfl⟩:=h;refine aq (Iv (λ x B=>?_) (l _ _ r).1 (jL ((Nn _).mp P))) (λ _=>rfl) λ _ _=>rfl;let⟨y,hy,rfl⟩:=E8 B;let⟨A,j,k,g,w⟩:=u.cls hy;exact⟨A,j,k,g,w _ rfl⟩
  .split at h
   .ext a t hq;let⟨p,pos,e⟩:=yC hq;cases e;split at h
    .ext hc;erw[MJ,Ny] at hc;let⟨⟨c1,c2⟩,c3⟩:=hc;have U:=o.glb c3;have S:=o.blt "isinstance" 'k';have T:∀x b ts,(z.tab ts).lookup x=some b->(∀t∈ts,∃cs,z.sub.lookup t=some cs)->∃A j,XC X.K (ah X.K x) A j/\XG X.K (ah X.K x)/\PySem.W.kitAny X.K (.ref (ah X.K x)) (ts.map (pA X.K))=some b:=λ x b ts O P=>by
      let⟨⟨fo,q⟩,rfl⟩:=E7 O;let⟨A,j,k,g,_⟩:=u.cls (Nl q);exact⟨A,j,k,g,m7 u q P⟩
     split at h
     .ext es he;let⟨kx,tp,rfl⟩:=yD he;split at h
      .ext ts d1 I G;split at h
       rotate_left
       .cases h
       ext hl;cases h;let⟨M,R,L⟩:=tP o u I;exact aq (EZ U S M (by rw[M0,<-R];exact Na hl 'k') (λ us' N=>tQ N) (λ x b B=>T x b ts B L) (l _ _ G).1 (aQ c1)) (λ _=>rfl) λ _ _=>rfl
      .cases h
     .split at h
      .ext t1 d1 I G;cases h;let⟨M,R,L⟩:=yE o u I;refine aq (Iw U S M (λ u' N=>yz N) (λ x b B=>?_) (l _ _ G).1 (aQ c1) (aQ c2)) (λ _=>rfl) λ _ _=>rfl;let⟨A,j,k,g,w⟩:=T x b [t1] B (λ t O=>by cases List.mem_singleton.mp O;exact L);refine⟨A,j,k,g,?_⟩;rw[Ni,PySem.W.kitAny] at w;split at w
       .ext e;rw[e];exact w
       .ext e;rw[e];exact w
       .cases w
      .cases h
    .cases h
   .cases h
  .cases h
theorem Cv(o:E5 X cl c)(u:ZU X z):∀(n:Nat) (s:Stmt) (d:S),uS n c z s=some d->PS X s (SS X cl (bf C d))
 |0,_,_,h=>by cases h
 |n+1,s,d,h=>by
  have j:∀e d,uE n c z e=some d->Tells X cl C e d:=Cu o u n;have l:∀s d,uS n c z s=some d->PS X s (SS X cl (bf C d)):=Cv o u n;unfold uS at h;split at h
  .split at h
   .split at h
    .ext x w;let⟨p,rfl⟩:=vj w;split at h
     .cases h
     .ext A;split at h
      .ext i q g a;cases h;let⟨k,G,B⟩:=E6 o g;exact rQ (by rw[o.N];exact o.nd) k G (j _ _ a).1 (iM ((Nn _).mp A)) B
      .cases h
    .cases h
   .cases h
  .split at h
   .erw[ME] at h;let⟨q,k,rfl⟩:=h;exact x9 (j _ _ k).1
   .cases h;exact nW
  .split at h
   .ext q x y g a r;cases h;exact ya (j _ _ g).2 (gh l a) (gh l r)
   .cases h
  .cases h;exact tu
  .cases h
end
section
variable{X:L2.Cx}{cl:Cl}
theorem PA.eN{t:TA}(h:PA X.eN es t):PA X es t:=λ pos g s Y H Q I a=>
 MV (h pos g s Y H Q (I.gO _) a) (λ _ _ ⟨vs,k,j,r,q⟩=>⟨vs,k,j.cM,r,q⟩) λ _ _ z=>False.elim z
theorem PG.eN{t:TG}(h:PG X.eN e t):PG X e t:=λ j s Y H v u Q I r g=>
 MV (h j s Y H v u Q (I.gO _) r g) (λ _ _ ⟨a,l,k,q⟩=>⟨a,l,k.cM,q⟩) λ _ _ z=>False.elim z
theorem PS.eN{st:Stmt}{t:TS}(h:PS X.eN st t):PS X st t:=λ g s Y H D I a=>
 MV (h g s Y H D (I.gO _) a) (λ _ _ q=>q.cM) λ _ _ z=>False.elim z
theorem PI.eN{t:TI}(h:PI X.eN tg e t):PI X tg e t:=λ y s Y H R I j=>
 MV (h y s Y H R (I.gO _) j) (λ _ _ q=>MV q (λ _ _ ⟨g,k,a,A,G,x,B,w,u,r,l⟩=>⟨g,k,a,A,G,x,B.cM,w,u,r,l⟩) λ _ _ z=>False.elim z) λ _ _ z=>False.elim z
theorem Cw{a:Loc->Mem->R W}(h:PE X.eN e (SE X.eN cl a)):PE X e (SE X cl a):=PE.imp h.eN λ _ _ _ ⟨J,Z,m,w,m',r,l,e,k⟩=>⟨J,Z,m,w,m',r,l,e,k⟩
theorem IB{a:Loc->Mem->R Bool}(h:PT X.eN e (ST X.eN cl a)):PT X e (ST X cl a):=PT.imp h.eN λ _ _ _ ⟨J,Z,m,w,m',r,l,e,k⟩=>⟨J,Z,m,w,m',r,l,e,k⟩
theorem Cy{e:List Expr}{a:Loc->Mem->R (List W)}(h:PA X.eN e (SA X.eN cl a)):PA X e (SA X cl a):=PA.imp (PA.eN h) λ _ _ _ ⟨J,Z,m,w,m',r,l,e,k⟩=>⟨J,Z,m,w,m',r,l,e,k⟩
theorem CA{g:W->Loc->Mem->R Loc}(h:PG X.eN e (SG X.eN cl g)):PG X e (SG X cl g):=PG.imp (PG.eN h) λ _ _ _ _ ⟨J,Z,m,w,a,m',r,l,q,e,k⟩=>⟨J,Z,m,w,a,m',r,l,q,e,k⟩
theorem IC{a:Loc->Mem->R Src}(h:PI X.eN tg e (SI X.eN cl a)):PI X tg e (SI X cl a):=PI.imp (PI.eN h) λ _ _ _ ⟨J,Z,m,w,m',r,l,e,k⟩=>⟨J,Z,m,w,m',r,l,e,k⟩
theorem Bd{d:S}(h:E3 d=true){Z g:Loc}{x:Str}{j:Option (Str×W)}(e:bf C d Z m=.ok (.rz x j g) m'):False:=by
 cases d with
 |asg t d=>erw[gf] at e;let⟨_,_,_,e⟩:=R.af e;let⟨_,_,_,e⟩:=R.af e;cases e
 |aug i op d=>
  erw[sS] at e;split at e
  .let⟨_,_,_,e⟩:=R.af e;let⟨_,_,_,e⟩:=R.af e;cases e
  .cases e
 |expr d=>erw[i8] at e;let⟨_,_,_,e⟩:=R.af e;cases e
 |ret d=>erw[mJ] at e;let⟨_,_,_,e⟩:=R.af e;cases e
 |retN=>erw[ku] at e;cases e
 |pass=>erw[kD] at e;cases e
 |brk=>erw[pR] at e;cases e
 |cont=>erw[kE] at e;cases e
 |never=>erw[iG] at e;cases e
 |fas a f b=>erw[mL] at e;let⟨_,_,_,e⟩:=R.af e;let⟨_,_,_,e⟩:=R.af e;let⟨_,_,_,e⟩:=R.af e;cases e
 |_=>cases h
theorem ID{d:S}(u:E3 d=true)(h:PS X.eN s (SS X.eN cl (bf C d))):PS X s (SS X cl (bf C d)):=PS.imp (PS.eN h) λ D Y H ⟨J,Z,m,f,m',r,l,e,k⟩=>by
 refine⟨J,Z,m,f,m',r,l,e,fun w y g j=>?_⟩;have q:=k w y g j;cases f with
 |rz x z a=>exact(Bd u e).elim
 |_=>exact q
end
section
variable{X:L2.Cx}{cl:Cl}{C:D.Cx}{c:Ci}{z:Cz}
theorem Ok.lH(o:Ok X.eN cl C c):Ok (X.lH pn xe).eN cl C c:=
 ⟨o.N,o.nd,λ a b=>o.vis a b,λ a b=>o.loc a b,λ a=>o.cel a,λ a=>o.glb a,o.calm,⟨o.units.un,o.units.P,o.units.w,o.units.gd⟩,o.hand,o.blt,λ a=>o.fn a,λ a=>o.gl a,o.cs,λ a=>o.fld a,λ a=>o.mth a,λ a=>o.ini a,λ a=>o.dic a,λ a=>o.isc a⟩
theorem FI.lH(o:FI X cl C z):FI (X.lH pn xe) cl C z:=⟨o.fn,o.ini,o.cls,o.hnd,o.u.of rfl rfl⟩
theorem Ok.jD(o:Ok X.eN cl C c){e:Value}:E5 (X.jD e pn xe) cl c:=
 ⟨o.N,o.nd,λ a b=>o.vis a b,λ a b=>o.loc a b,λ a=>o.glb a,o.blt,λ a=>o.gl a⟩
theorem m8{a:Expr}{x:Str}{r:List Expr}(h:om e=some (x,a,r)):∃p pos,e=.Call (.Name x p) (a::r) [] pos:=by
 unfold om at h;split at h
 .cases h;exact⟨_,_,rfl⟩
 .cases h
theorem rY{e f:Option Expr}{x:Str}{a:Expr}(h:raiseOf e f=some (x,a)):∃np g,e=some (.Call (.Name x np) [a] [] g)/\f=none:=by
 unfold raiseOf at h;split at h
 .cases h;exact⟨_,_,rfl,rfl⟩
 .cases h
theorem vm{a:List ExceptHandler}{x:Str}{y:Option Str}{r:List Stmt}(h:handOf a=some (x,y,s,r)):∃np g,a=[.ExceptHandler @(.Name x np) y (s::r) g]:=by
 unfold handOf at h;split at h
 .cases h;exact⟨_,_,rfl⟩
 .cases h
theorem vn{env:Env}{f:Expr}{ks:List Keyword}{l:Nat}:swapsWithSole [t] (.Call f es ks p) l env=pure false:=by
 show swapsWith (.Call f es ks p) (some t) l env=pure false;exact iM rfl
theorem yF(o:Ok X.eN cl C c)(O:FI X cl C z)(R:X.ex=[]){l:Option Str}(h:E2 n c z e=some (l,i,ds)) :
  PS X (.Expr e pos) (SS X cl (bf C (.xc .drop l i ds)))/\PS X (.Return (some e) pos) (SS X cl (bf C (.xc .ret l i ds)))/\
  ∀{tg:Expr} {U:A},PG X tg (SG X cl (fC C U))->swapsWithSole [tg] e pos.line X.env=pure false->swappedStores [tg] e X.env=pure none->(assignEach [tg] X.env).map (·.2)=[assign tg X.env]->PS X (.Assign [tg] e pos) (SS X cl (bf C (.xc (.asg U) l i ds))):=by
 have P:∀e d,cE n c e=some d->Tells X.eN cl C e d:=λ e d h=>gz n X.eN c e d o h;unfold E2 at h;split at h
 .ext x a r hq;let⟨p,g,rfl⟩:=m8 hq;split at h
  .ext y;erw[MJ,NB,Ny] at y;let⟨T,h2,h3⟩:=bx y.1.1;have S:Gl X x:=o.glb y.1.2;split at h
   .ext i' np hf;split at h
    .ext rS;erw[ME] at h;let⟨d,j,e⟩:=h;cases e;let⟨k,fa,fd,ps,e1,N,M,L,I,G,B⟩:=O.fn hf;let⟨w,d1,d2,_,u,_⟩:=eE j;have q:=EV (pos:=pos) (xG (pos:=g) (p:=p) R G N S M L I .nil (Cy (fT P j)) T (aQ w) (cV u)) B;exact⟨q.1 rfl,q.2.1,q.2.2⟩
    .cases h
   .split at h
    .ext i' hi;erw[ME] at h;let⟨d,j,e⟩:=h;cases e;let⟨k,fa,fd,ps,N,M,L,I,G,B⟩:=O.ini hi;let⟨w,d1,d2,_,u,_⟩:=eE j;have q:=EW (pos:=pos) (xH (pos:=g) (p:=p) R M G N S L I .nil (Cy (fT P j)) T (aQ w) (cV u)) B;exact⟨q.1 rfl,q.2.1,q.2.2⟩
    .cases h
  .cases h
 .cases h
theorem jM(o:Ok X.eN cl C c)(a:X.env.scope.names=c.names)(g:X.env.scope.kind=.function){d:S}(h:vh n c s=some d):PS X s (SS X cl (bf C d)):=by
 unfold vh at h;split at h
 .ext l k;split at h
  .ext j;cases h;exact ID j (Cr o a g PassesOwn.never (λ _ _ z=>z) n s d k)
  .cases h
 .cases h
theorem yG:∀(n:Nat) (X:L2.Cx) (s:Stmt) (d:S),Ok X.eN cl C c->FI X cl C z->X.env.scope.names=c.names->X.env.scope.kind=.function->X.ex=[]->X.stack=X.env::X.outer->X.env.frame=some X.env.locals->PassesOwn (model X.prog X.w) X.A X.env X.xe->cX n c z s=some d->PS X s (SS X cl (bf C d))
 |0,_,_,_,_,_,_,_,_,_,_,_,h=>by cases h
 |n+1,X,s,d,o,B,g,q,L,M,O,hp,h=>by
  have ih:∀e d,cE n c e=some d->Tells X.eN cl C e d:=λ e d h=>gz n X.eN c e d o h;have zv:∀s d,cX n c z s=some d->PS X s (SS X cl (bf C d)):=λ s d h=>yG n X s d o B g q L M O hp h;unfold cX at h;split at h
  .split at h
   .ext x a P;let⟨np,cpos,rfl,rfl⟩:=rY P;unfold yy at h;split at h
    .ext fo T;split at h
     .ext l;erw[MJ,NB,Ny] at l;let⟨h1,h2,h3⟩:=bx l.1.1;erw[ME] at h;let⟨d1,hd,rfl⟩:=h;let⟨U,q2,q3⟩:=B.cls T;cases fo with
      |none=>
       let⟨bm,R⟩:=q2 rfl;exact yv R o.hand L (o.glb l.1.2) U (Cw (ih _ _ hd).1) h1 (aQ l.2)
      |some f=>
       let⟨bm,k,fa,fd,ps,R,hfn,Fi,I,hb,hps⟩:=q3 f rfl;exact Bb R hfn Fi I hb hps L (o.glb l.1.2) U (Cw (ih _ _ hd).1) h1 (aQ l.2)
     .cases h
    .cases h;exact kL
   .cases h;exact kL
  .split at h
   .split at h
    .split at h
     .ext x y s0 r0 P;let⟨np,hpos,rfl⟩:=vm P;split at h
      .ext b hh hb hu;unfold Iz at h;split at h
       .ext fo cs T hsb;split at h
        .ext l;erw[MJ,NB,Ny] at l;let⟨h1,h2,h3⟩:=bx l.1;let⟨U,q2,q3⟩:=B.cls T;let⟨bm,j,R,_⟩:=B.u.cls (Nl T);have G:∀pn xe,PassesOwn (model X.prog X.w) X.A X.env xe->gF (X.lH pn xe) _ (SS (X.lH pn xe) cl (aC C b)):=λ pn xe hpo=>gh (λ s d h=>yG n (X.lH pn xe) s d o.lH B.lH g q L M O hpo h) hb;have IE:∀a pn,gF (X.jD (.ref a) pn pX) (s0::r0) (SS (X.jD (.ref a) pn pX) cl (aC C hh)):=λ a pn=>gh (Cv (o.jD) (B.u.of rfl rfl) n) hu;split at h
         .cases h;exact EY L M O R (o.glb l.2) U h1 (B.hnd T hsb) G IE
         .ext v;split at h
          .ext hv;erw[ME] at h;let⟨i,hi,rfl⟩:=h;exact EX L M O (show X.N.Nodup from FG (X:=X.eN) o) (o.slot hi) (by show X.env.scope.names.lookup v=_;rw[g];exact hv) R (o.glb l.2) U h1 (B.hnd T hsb) G IE
          .cases h
        .cases h
       .cases h
      .cases h
     .cases h
    .cases h
   .cases h
  .split at h
   .ext d1 x y y1 y2 y3;cases h;exact ya (IB (ih _ _ y1).2) (gh zv y2) (gh zv y3)
   .cases h
  .split at h
   .split at h
    .cases h
    .ext hs;split at h
     .ext t d1 x y1 y2 y3;cases h;exact yb hp o.calm (IC (tK o ih y2)) (CA (qj o n _ _ y1)) (gh zv y3) (λ x=>n9 ((Nn _).mp hs) x)
     .cases h
   .cases h
  .split at h
   .ext mk i ds I;cases h;exact(yF o B L I).1
   .exact jM o g q h
  .split at h
   .split at h
    .ext mk i ds I;cases h;exact(yF o B L I).2.1
    .exact jM o g q h
   .cases h;exact nW
  .split at h
   .split at h
    .ext t _ _ _;unfold Ct at h;split at h
     .ext mk i ds I;split at h
      .cases h
      .ext l;erw[Pb,NB,Qx,Bool.not_eq_false] at l;erw[ME] at h;let⟨t1,ht,rfl⟩:=h;obtain⟨x,a,r,P⟩:∃x a r,om _=some (x,a,r):=by
        unfold E2 at I;split at I
        .ext x a r P;exact⟨x,a,r,P⟩
        .cases I
       let⟨p,cpos,rfl⟩:=m8 P;refine(yF o B L I).2.2 (CA (yr o n _ _ ht)) ?_ (mZ (by rw[(Nn _).mp l.2];rfl)) (by rw[iL l.1];rfl);exact vn
     .cases h
    .exact jM o g q h
   .cases h
  .exact jM o g q h
end
mutual
def aK:W->Bool
 |.tup xs=>aB xs
 |.fz xs=>aB xs
 |.obj _ _ vs=>aB vs
 |.ref _=>false
 |.non=>true
 |.bl _=>true
 |.int _=>true
 |.str _=>true
def aB:List W->Bool
 | []=>true
 |x::r=>aK x&&aB r
end
mutual
def vM(k:Nat):W->W
 |.tup xs=>.tup (lM k xs)
 |.fz xs=>.fz (lM k xs)
 |.obj c ks vs=>.obj c ks (lM k vs)
 |.ref n=>.ref (k+n)
 |.non=>.non
 |.bl b=>.bl b
 |.int i=>.int i
 |.str x=>.str x
def lM(k:Nat):List W->List W
 | []=>[]
 |x::r=>vM k x::lM k r
end
def Be(k:Nat):List (Str×W)->List (Str×W)
 | []=>[]
 |(f,x)::r=>(f,vM k x)::Be k r
def CB(k:Nat):O->O
 |.lst xs=>.lst (lM k xs)
 |.ins c fs=>.ins c (Be k fs)
 |.set ks=>.set ks
 |.dic fs=>.dic (Be k fs)
 |.exc c f ws=>.exc c f (lM k ws)
def aL(f:List W->Mem->R W)(ws:List W)(m:Mem):R W:=
 if aB ws then match f ws [] with
  |.ok w a=>if aK w then .ok w m else .ok (vM m.length w) (m++a.map (CB m.length))
  |.no=>.no
 else f ws m
set_option genInjectivity false in
structure Pg where
 fns:List Fn
 cs:Cs
 fuel:Nat
 z:Cz:={}
def cL(p:Pg):Nat->Nat->List W->Mem->R F
 |0,_,_,_=>.no
 |n+1,f,ws,m=>match p.fns[f]? with
  |none=>.no
  |some d=>if ws.length=d.np then aC ⟨λ f=>aL (λ ws m=>(cL p n f ws m).bind outF),p.fuel,p.cs,λ f=>cL p n f⟩ d.body (fk d.nl ws) m else .no
def runN(p:Pg)(n f:Nat)(ws:List W)(m:Mem):R W:=(cL p n f ws m).bind outF
theorem runN_succ(p:Pg)(n f:Nat)(ws:List W)(m:Mem):runN p (n+1) f ws m=match p.fns[f]? with
  |none=>.no
  |some d=>if ws.length=d.np then (aC ⟨λ f=>aL (runN p n f),p.fuel,p.cs,λ f=>cL p n f⟩ d.body (fk d.nl ws) m).bind outF else .no:=by
 unfold runN;rw[cL];cases p.fns[f]? with
 |none=>rfl
 |some d=>
  dsimp only;split
  .rfl
  .rfl
theorem RW.pure{g:List Addr}{w:W}{v:V}(q:RW K J H w v):aK w=true->RW K g H w v:=
 RW.rec (motive_1:=λ w v _=>aK w=true->RW K g H w v) (motive_2:=λ w v _=>aB w=true->aJ K g H w v) (λ _=>.non) (λ b _=>.bl b) (λ b _=>.int b) (λ b _=>.str b) (λ h _ i e=>.tup h (i e)) (λ h _ i e=>.fz h (i e)) (λ h z _ i e=>.obj h z (i e)) (λ q e=>nomatch (show false=true from e)) (λ _=>.nil) (λ _ _ a b e=>.cons (a (MN.mp e).1) (b (MN.mp e).2)) q
theorem aJ.pure{h:List Addr}{w:List W}{v:List V}(q:aJ K J H w v)(e:aB w=true):aJ K h H w v:=by
 induction w generalizing v with
 |nil=>cases q;exact .nil
 |cons x w g=>cases q with | cons a b=>exact .cons (a.pure (MN.mp e).1) (g b (MN.mp e).2)
theorem RW.shift{w:W}{v:V}(q:RW K γ H w v):RW K (J++γ) H (vM J.length w) v:=
 RW.rec (motive_1:=λ w v _=>RW K (J++γ) H (vM J.length w) v) (motive_2:=λ w v _=>aJ K (J++γ) H (lM J.length w) v) .non .bl .int .str (λ h _ i=>.tup h i) (λ h _ i=>.fz h i) (λ h e _ i=>.obj h e i) (λ q=>.ref (by rw[MU 'o',Nat.add_sub_cancel_left];exact q)) .nil (λ _ _ a b=>.cons a b) q
theorem aJ.shift{w:List W}{v:List V}(q:aJ K γ H w v):aJ K (J++γ) H (lM J.length w) v:=by
 induction w generalizing v with
 |nil=>cases q;exact .nil
 |cons x w g=>cases q with | cons a b=>exact .cons a.shift (g b)
theorem fS.shift{w:List (Str×W)}{v:List (Str×V)}(q:fS K γ H w v):fS K (J++γ) H (Be J.length w) v:=by
 induction q with
 |nil=>exact .nil
 |cons a b g=>exact .cons a.shift g
theorem RO.shift{a:Addr}{o:O}(q:RO K cl γ H a o):RO K cl (J++γ) H a (CB J.length o):=by
 cases o with
 |lst ws=>let⟨vs,e,t⟩:=q;exact⟨vs,e,t.shift⟩
 |ins c fs=>let⟨l,g,e,t⟩:=q;exact⟨l,g,e,t.shift⟩
 |dic fs=>let⟨g,e,t⟩:=q;exact⟨g,e,t.shift⟩
 |exc c f ws=>let⟨k,j,vs,e,h,t,d⟩:=q;exact⟨k,j,vs,e,h,t.shift,d⟩
 |set r=>exact q
theorem vo{f:List W->Mem->R W}{E:XK}(h:sY K cl np (aL f) vs H Q E):sY K cl np f vs H Q E:=by
 let⟨M,J,m,ws,w,m',r,t,e,k⟩:=h;unfold aL at e;split at e
 .ext T;split at e
  .ext O P e1;refine⟨M,[],[],ws,O,P,⟨rfl,nodup_nil,λ {n o a} h=>by simp at h⟩,t.pure T,e1,fun N z v x A q=>?_⟩;have B:∀{a:Addr} {o:HO},H a=some o->z a=some o:=λ h=>x.keep h 's' 's';have G:Ext J H J z:=⟨⟨[],by simp,by simp⟩,λ h _ _=>B h⟩;have I:Rel K cl J m z:=⟨r.len,r.nd,λ j l=>by
    have q:=r.obj j l;let⟨u,e,_⟩:=q.ex;exact q.mono r G ((B e).trans e.symm)⟩
   split at e
   .ext S;cases e;exact k J z v G I (q.pure S)
   .cases e;let⟨γ,y,g⟩:=x.pre;rw[nil_append] at y;subst y;rw[<-r.len] at k;refine k (J++N) z v ⟨⟨N,rfl,g⟩,λ h _ _=>B h⟩ ⟨by simp[r.len,A.len],?_,λ {n o a} j l=>?_⟩ q.shift
    .rw[Pj];refine⟨r.nd,A.nd,λ a ha b U=>?_⟩;rintro rfl;let⟨u,e,_⟩:=r.ex ha;rw[g a U] at e;cases e
    .by_cases L:n<J.length
     .rw[ML (by rw[<-r.len];exact L)] at j;rw[ML L] at l;exact(I.obj j l).sub λ {n a} h=>by rw[ML (MG.mp h).1];exact h
     .rw[MU (by rw[<-r.len];omega),Pe] at j;rw[MU 'o'] at l;erw[ME] at j;let⟨o',j,rfl⟩:=j;rw[<-r.len] at j;exact(A.obj j l).shift
  .cases e
 .exact⟨M,J,m,ws,w,m',r,t,e,k⟩
theorem vp{f:List W->Mem->R W}{w:W}(h:aL f ws m=.ok w m'):∃m1 w1 m2 a,f a m1=.ok w1 m2/\ws=a:=by
 unfold aL at h;split at h
 .split at h
  .exact⟨_,_,_,_,by assumption,rfl⟩
  .cases h
 .exact⟨_,_,_,_,h,rfl⟩
section
variable{P:Program}{w:World}{K:ae}{mg:Str->Option Value}{base:Heap}{fns:List (Str×(Nat×Nat))}{gl:List (Str×W)}{fz:List Pos}{p:Pg}
abbrev cB(p:Pg)(c:Ci):Stmt->Option S:=cX 60 c p.z
def FD(K:ae)(p:Pg)(fns:List (Str×(Nat×Nat)))(gl:List (Str×W))(fz:List Pos)(i:Nat)(x:Str)(f:Addr)(k:FuncData)(j:List Str):Prop:=
 ∃(g:Str) (h:Stmt) (N:List Str) (a:Ss),BK K x g h f k/\fW N j (aE h)/\qL (cB p ⟨N,(aE h).names,fns,gl,p.cs,fz⟩) (cj h)=some a/\p.fns[i]?=some ⟨j.length,N.length,a⟩/\Binds K k j []
structure FA(K:ae)(w:World)(mg:Str->Option Value)(p:Pg)(fns:List (Str×(Nat×Nat)))(gl:List (Str×W))(fz:List Pos):Prop where
 blt:∀x∈kM,mg x=none
 glo:∀{x:Str} {w:W},gl.lookup x=some w->∃u v,mg x=some u/\RelV v u/\∀J H,RW K J H w v
 fn:∀{x:Str} {i np:Nat},fns.lookup x=some (i,np)->∃f fd ps,ps.length=np/\FD K p fns gl fz i x f fd ps/\mg x=@(.ref f)
 mth:∀{c x:Str} {i:Nat},p.cs.mths.lookup (c,x)=some i->∃f fd ps,FD K p fns gl fz i x f fd ps/\vI K (ah K c)/\Meth K (ah K c) x f
 ini:∀{c:Str} {i:Nat},p.cs.ini.lookup c=some i->∃f fd ps,FD K p fns gl fz i "__init__" f fd ps/\Mk K (ah K c) f/\mg c=@(.ref (ah K c))
 fld:∀{c x:Str},p.cs.flds.contains (c,x)=true->vI K (ah K c)/\gn K (ah K c) x
 dic:∀{x:Str} {kvs:List (Str×W)},p.cs.dic.lookup x=some kvs->TopK K w mg x kvs
 isc:∀{x:Str},p.cs.isc.contains x=true->mg x=some (.ref (ah K x))/\Ej K (ah K x)
structure FZ(K:ae)(mg:Str->Option Value)(p:Pg)(fns:List (Str×(Nat×Nat))):Prop where
 fn:∀{x:Str} {v:Nat×Nat},p.z.fn.lookup x=some v->fns.lookup x=some v
 ini:∀{x:Str} {i:Nat},p.z.ini.lookup x=some i->p.cs.ini.lookup x=some i
 cls:∀{x:Str} {fo:Option Str},p.z.cls.lookup x=some fo->mg x=some (.ref (ah K x))/\(fo=none->∃bm,XC K (ah K x) bm none)/\∀f,fo=some f->∃(bm:List Value) (fa:Addr) (fd:FuncData) (ps:List Str),XC K (ah K x) bm @(.ref fa)/\PySem.W.typeIn K (.ref fa)=some (.type "function")/\(∀P w base,bQ P w K mg base z9 1 fa fd ps (FE (ah K x) f))/\Binds K fd ps []/\ps.length=2
 hnd:∀{x:Str} {fo:Option Str} {cs:List Str},p.z.cls.lookup x=some fo->p.z.sub.lookup x=some cs->∀c,cs.contains c=true->∃bm j,XC K (ah K c) bm j/\(Value.ref (ah K c)::bm).contains (.ref (ah K x))=true
 sub:∀{t:Str} {cs:List Str},p.z.sub.lookup t=some cs->(mg t=some (pA K t)\/mg t=none/\bootBuiltins t=@(pA K t))/\∀{c fo},p.z.cls.lookup c=some fo->PySem.W.kitOne K (.ref (ah K c)) (pA K t)=@(cs.contains c)
 exc:∀{c:Str} {fo:Option Str},(c,fo)∈p.z.cls->∃bm j,XC K (ah K c) bm j/\XG K (ah K c)/\∀f,fo=some f->PySem.W.findIn K (.ref (ah K c)) f=some none
theorem RL.start{N:List Str}(t:aJ K J H ws vs):RL K J H (fk N.length ws) (L2.start N vs):=by
 refine⟨?_,λ {i w} h=>?_⟩
 .unfold fk L2.start;simp[t.length]
 .unfold fk at h
  by_cases a:i<ws.length
  .rw[ML (~~~a),Pe] at h;erw[ME] at h;let⟨k,j,g⟩:=h;cases g;let⟨v,e,q⟩:=t.get j;refine⟨v,?_,q⟩;unfold L2.start;rw[ML (by rw[M0,<-t.length];exact a),Pe,e];rfl
  .rw[MU (~~~a),getElem?_replicate] at h;split at h<;>cases h
theorem tR{E:XK}(h:sY K cl np (runN p n i) vs H Q E):Ba K cl np (cL p n i) vs H Q E:=by
 let⟨l,J,m,ws,w,m',r,t,e,k⟩:=h;let⟨fl,A,x,a⟩:=R.af (show (cL p n i ws m).bind outF=.ok w m' from e);cases fl with
 |nx Z=>cases a;exact⟨l,J,m,ws,_,_,r,t,x,fun y z g j=>k _ _ _ g j .non⟩
 |rt u=>cases a;exact⟨l,J,m,ws,_,_,r,t,x,fun y z g j v q=>k _ _ _ g j q⟩
 |rz c B Z=>cases a
 |bk Z=>cases a
 |ct Z=>cases a
theorem rZ(I:FA K w mg p fns gl fz)(Z0:FZ K mg p fns):∀(n:Nat) {i:Nat} {x:Str} {f:Addr} {j:FuncData} {g:List Str},FD K p fns gl fz i x f j g->bQ P w K mg base (kH P w) (2*n+1) f j g (Ba K ⟨P,w⟩ g.length (cL p n i))
 |0,i,x,f,j,g,h=>⟨λ vs H Q E q=>q.1,λ A outer s H args us vs Q E M he Lg hv hs=>by
   let⟨_,_,_,_,_,_,_,_,e,_⟩:=hs;cases e⟩
 |n+1,i,x,f,j,g,h=>by
  let⟨qual,st,N,body,F,S,hb,hi,hB⟩:=h;refine F.L6 (k:=2*n+2) S (λ vs H Q E h=>h.1) (λ cdv A outer s H vs Q E M h=>?_);let⟨hl,J,m,ws,fl,m',r,t,e,k⟩:=h;have KR:∀{T:Nat} {x':Str} {f':Addr} {B:FuncData} {a:List Str},FD K p fns gl fz T x' f' B a->∀ws m fl m',cL p n T ws m=.ok fl m'->ws.length=a.length:=λ hd ws m fl m' hc=>by
   let⟨_,_,_,_,_,_,_,hi',_⟩:=hd;cases n with
   |zero=>cases (show (R.no:R D.F)=.ok _ _ from hc)
   |succ n=>
    erw[cL,hi'] at hc;split at hc
    .assumption
    .cases hc
  have rS:∀{T:Nat} {x':Str} {f':Addr} {B:FuncData} {a:List Str},FD K p fns gl fz T x' f' B a->∀ws m w m',aL (runN p n T) ws m=.ok w m'->ws.length=a.length:=λ hd ws m w m' hc=>by
   let⟨m1,w1,m2,xK,hc,hlw⟩:=vp hc;let⟨fl,m3,e1,_⟩:=R.af (show (cL p n _ xK m1).bind outF=.ok w1 m2 from hc);rw[hlw];exact KR hd _ _ _ _ e1
  have go:∀{T:Nat} {x':Str} {f':Addr} {B:FuncData} {a:List Str},FD K p fns gl fz T x' f' B a->bQ P w K mg base (kH P w) (2*n+1) f' B a (Ba K ⟨P,w⟩ a.length (cL p n T))/\bQ P w K mg base (vK P w) (2*n+1) f' B a (sY K ⟨P,w⟩ a.length (aL (runN p n T))):=λ hd=>
   ⟨rZ I Z0 n hd,(rZ I Z0 n hd).imp λ _ _ _ _ q=>tR (vo q)⟩
  have o:Ok (iz (kH P w) P w K mg base N qual (aE st) f cdv A outer s H E).eN ⟨P,w⟩ ⟨λ f=>aL (runN p n f),p.fuel,p.cs,λ f=>cL p n f⟩ ⟨N,(aE st).names,fns,gl,p.cs,fz⟩:=by
   refine⟨rfl,S.nd,λ {x k} O hv=>?_,λ {x k} O hv=>?_,λ {x} O=>O,λ {x} O=>O,rfl,⟨M.units,rfl,rfl,M.gd⟩,M.hd,I.blt,λ {x i np} L=>?_,I.glo,rfl,I.fld,λ {c x i} L=>?_,λ {c i} L=>?_,I.dic,I.isc⟩
   .rcases hv with rfl | rfl | rfl
    .exact .inl O
    .exact .inr (.inl O)
    .exact .inr (.inr O)
   .rcases hv with rfl | rfl
    .exact⟨.inl O,.inl rfl⟩
    .exact⟨.inr O,.inl rfl⟩
   .let⟨G,j,g,h1,l,U⟩:=I.fn L;have hkp:PySem.W.keepIn K (.ref G)=true:=let ⟨_,_,_,_,F,_,_,_,_⟩:=l;F.kp;have u:Binds K j g []:=let ⟨_,_,_,_,_,_,_,_,z⟩:=l;z;exact⟨2*n+1,G,j,g,h1,M.mono 'o',U,hkp,u,(go l).2⟩
   .let⟨G,j,g,l,U,h4⟩:=I.mth L;have u:Binds K j g []:=let ⟨_,_,_,_,_,_,_,_,z⟩:=l;z;exact⟨2*n+1,G,j,g,M.mono 'o',U,h4,u,(go l).2,rS l⟩
   .let⟨G,j,g,l,U,h4⟩:=I.ini L;have u:Binds K j g []:=let ⟨_,_,_,_,_,_,_,_,z⟩:=l;z;exact⟨2*n+1,G,j,g,M,U,h4,u,(go l).2,rS l⟩
  have oz:FI (iz (kH P w) P w K mg base N qual (aE st) f cdv A outer s H E) ⟨P,w⟩ ⟨λ f=>aL (runN p n f),p.fuel,p.cs,λ f=>cL p n f⟩ p.z:=by
   refine⟨λ {x i np} L=>?_,λ {x i} L=>?_,λ {x fo} L=>?_,Z0.hnd,Z0.sub,Z0.exc⟩
   .let⟨G,j,g,h1,l,U⟩:=I.fn (Z0.fn L);have hkp:PySem.W.keepIn K (.ref G)=true:=let ⟨_,_,_,_,F,_,_,_,_⟩:=l;F.kp;have u:Binds K j g []:=let ⟨_,_,_,_,_,_,_,_,z⟩:=l;z;exact⟨2*n+1,G,j,g,h1,M.mono 'o',U,hkp,u,(go l).1,KR l⟩
   .let⟨G,j,g,l,U,h4⟩:=I.ini (Z0.ini L);have u:Binds K j g []:=let ⟨_,_,_,_,_,_,_,_,z⟩:=l;z;exact⟨2*n+1,G,j,g,M,U,h4,u,(go l).1,KR l⟩
   .let⟨q1,q2,q3⟩:=Z0.cls L;refine⟨q1,q2,λ f hf=>?_⟩;let⟨bm,G,j,g,y1,y2,y3,y4,y5⟩:=q3 f hf;exact⟨bm,1,G,j,g,y1,y2,y3 P w base,M.mono 'o',y4,y5⟩
  refine⟨_,gh (λ s d h=>yG 60 _ s d o oz rfl S.kind rfl rfl rfl Aq h) hb,?_⟩;erw[cL,hi] at e;split at e
  .refine⟨J,fk N.length ws,m,fl,m',r,RL.start t,e,fun β1 H1 x1 r1=>?_⟩;have q:=k β1 H1 x1 r1;cases fl with
   |nx Z=>exact fun Y _=>q
   |rt w=>exact q
   |rz c fw Z=>
    rcases fw with _ | ⟨f,w⟩
    .exact fun Y _=>sV q
    .exact fun Y y dx _ qq hd=>sV (q y dx qq hd)
   |bk Z=>exact q.elim
   |ct Z=>exact q.elim
  .cases e
theorem sound(k:FA K w mg p fns gl fz)(j:FZ K mg p fns)(n:Nat){x:Str}{f:Addr}{g:FuncData}{a:List Str}(h:FD K p fns gl fz i x f g a):bQ P w K mg base (vK P w) (2*n+1) f g a (sY K ⟨P,w⟩ a.length (runN p n i)):=
 (rZ k j n h).imp λ _ _ _ _ q=>tR q
end
theorem yH{l:PySem.W.OpenLaw}{q:Program}{loose:List Str}{XP:(Str->Option Value)->Heap->Prop}{YP:World->Heap->Prop}{d:DefRec}{K:Params->ae}{p:Pg}{x:Str}
  (B:l.most=some 63) (j:d.params.defaults=[]) (I:∀(w:World) (h:Heap),YP w h->(K w.params).In h)
  (F:∀(w:World) (g:Str->Option Value) (y:Addr) (h:Heap),(K w.params).In h->h.Ns mainGlobals g->g d.name=some (.ref y)->
   ∃r:FuncData,(∀(s:Shared) (u:Value),BindsTo s r ⟨[u],[]⟩ [(x,u)])/\
    ∀base:Heap,(K w.params).In base->base.Ns mainGlobals g->bQ l.prog w (K w.params) g base (vK l.prog w) 81 y r [x] (sY (K w.params) ⟨l.prog,w⟩ 1 (runN p 40 i)))
  (N:∀ns:List Int,ns.length<=63->∃m',runN p 40 i [.fz (ns.map .int)] []=.ok (.bl true) m') :
  PySem.W.WalkO q loose XP YP l.row.toRowW d [] (λ f vs=>PySem.call f vs):=by
 refine L2.z8 (n:=63) (k:=81) (x:=x) (CX:=λ w=>vK l.prog w) (sp:=λ w=>sY (K w.params) ⟨l.prog,w⟩ 1 (runN p 40 i)) B 'd' j ⟨rfl,by decide,by decide,rfl⟩ I F (λ w H a ns G M L=>?_) λ _ _ _ _ _ z=>Mb z;let⟨m',e⟩:=N ns G;have A:p6 (K w.params) H a (ns.map V.int):=by
  rcases L with (h | ⟨o,h⟩) | h
  .rcases M a with z | ⟨o,xs,z⟩
   .rw[h] at z;cases z
   .rw[h] at z;cases z
  .exact .inl ⟨o,h⟩
  .exact .inr h
 refine⟨rfl,[],[],[.fz (ns.map .int)],.bl true,m',⟨rfl,nodup_nil,λ {n o a} h=>by simp at h⟩,.cons (.fz A (aJ.ints ns)) .nil,e,fun O P v _ _ q=>?_⟩;cases q;rfl
end D
end
section
namespace D
open PySem List
variable{C:Cx}{P:Nat->Bool}{b r:Ss}{c:Str}{e it:E}{es:Es}{f:List W->Mem->R W}{fl:F}{fw:Option (Str×W)}{hw:BP}{i n:Nat}{m m0 m1 m2:Mem}{o:O}{p:Pg}{s:Src}{t:T}{ws xs:List W}{α:Type}{Z Z1:Loc}
theorem ql{J:Type}[BEq α][LawfulBEq α]{x:α}{b:J}{l:List (α×J)}(h:l.lookup x=some b):(x,b)∈l:=by
 induction l with
 |nil=>simp at h
 |cons p l a=>
  let⟨y,c⟩:=p;rw[MT] at h;split at h
  .ext d;cases h;rw[eq_of_beq d];exact Nk
  .exact M3 _ (a h)
abbrev Cn(p:Pg)(n:Nat):D.Cx:=⟨λ f=>aL (D.runN p n f),p.fuel,p.cs,λ f=>D.cL p n f⟩
section
variable{get:Mem->Nat->Nx}{t:T}{test:Loc->Mem->R Bool}{body:Loc->Mem->List W->R (List W×Loc)}{lC:Loc->Mem->R F}{k i:Nat}{Z Z1 Z2:Loc}{m m1 m2:Mem}{acc r8:List W}{x w:W}
theorem vq(h:get m i=.fin):bS get t test body k i Z m acc=.ok (acc,Z) m:=by unfold bS;rw[h]
theorem yI(h:get m i=.it x)(g:aA t x Z=some Z1)(a:test Z1 m=.ok true m1)(d:body Z1 m1 acc=.ok (r8,Z2) m2):bS get t test body (k+1) i Z m acc=bS get t test body k (i+1) Z2 m2 r8:=by
 rw[bS,h];erw[g,a,R.bind,Nf,d]
theorem r9(h:get m i=.it x)(d:aA t x Z=some Z1)(a:test Z1 m=.ok false m1):bS get t test body (k+1) i Z m acc=bS get t test body k (i+1) Z1 m1 acc:=by
 rw[bS,h];erw[d,a,R.bind,MY,Np]
theorem kU(h:get m i=.fin):dR get t lC k i Z m=.ok (.nx Z) m:=by unfold dR;rw[h]
theorem jN(h:get m i=.it x)(d:aA t x Z=some Z1)(a:lC Z1 m=.ok (.nx Z2) m2):dR get t lC (k+1) i Z m=dR get t lC k (i+1) Z2 m2:=by
 rw[dR,h];erw[d,R.bind,a]
theorem tS(h:get m i=.it x)(d:aA t x Z=some Z1)(a:lC Z1 m=.ok (.ct Z2) m2):dR get t lC (k+1) i Z m=dR get t lC k (i+1) Z2 m2:=by
 rw[dR,h];erw[d,R.bind,a]
theorem Bf(h:get m i=.it x)(d:aA t x Z=some Z1)(a:lC Z1 m=.ok (.rt w) m2):dR get t lC (k+1) i Z m=.ok (.rt w) m2:=by
 rw[dR,h];erw[d,R.bind,a]
theorem qm(I:Nat->Loc->Mem->Prop)(j:∀i Z m,i<n->I i Z m->∃x Z1 Z2 m2,get m i=.it x/\aA t x Z=some Z1/\(lC Z1 m=.ok (.nx Z2) m2\/lC Z1 m=.ok (.ct Z2) m2)/\I (i+1) Z2 m2)(l:∀Z m,I n Z m->get m n=.fin) :
  ∀(k i:Nat) (Z:Loc) (m:Mem),i+k=n->I i Z m->∃a g,dR get t lC k i Z m=.ok (.nx a) g/\I n a g
 |0,i,Z,m,hi,h=>by
  have e:i=n:=by omega
  subst e;exact⟨Z,m,kU (l Z m h),h⟩
 |k+1,i,Z,m,hi,h=>by
  let⟨x,Z1,Z2,m2,u,q,d,y⟩:=j i Z m 'o' h;let⟨a,g,e,v⟩:=qm I j l k (i+1) Z2 m2 'o' y;refine⟨a,g,?_,v⟩;rcases d with d | d
  .rw[jN u q d,e]
  .rw[tS u q d,e]
theorem bY(I:Nat->Loc->Mem->List W->Prop)
  (j:∀i Z m acc,i<n->I i Z m acc->∃x Z1,get m i=.it x/\aA t x Z=some Z1/\((∃m1 r8 Z2 m2,test Z1 m=.ok true m1/\body Z1 m1 acc=.ok (r8,Z2) m2/\I (i+1) Z2 m2 r8)\/∃m1,test Z1 m=.ok false m1/\I (i+1) Z1 m1 acc))
  (l:∀Z m acc,I n Z m acc->get m n=.fin) :
  ∀(k i:Nat) (Z:Loc) (m:Mem) (acc:List W),i+k=n->I i Z m acc->∃d a g,bS get t test body k i Z m acc=.ok (d,a) g/\I n a g d
 |0,i,Z,m,acc,hi,h=>by
  have e:i=n:=by omega
  subst e;exact⟨acc,Z,m,vq (l Z m acc h),h⟩
 |k+1,i,Z,m,acc,hi,h=>by
  obtain⟨x,Z1,A,z,⟨m1,r8,Z2,m2,v,B,u⟩ | ⟨m1,v,u⟩⟩:=j i Z m acc 'o' h
  .let⟨y,a,g,e,q⟩:=bY I j l k (i+1) Z2 m2 r8 'o' u;exact⟨y,a,g,by rw[yI A z v B,e],q⟩
  .let⟨y,a,g,e,q⟩:=bY I j l k (i+1) Z1 m1 acc 'o' u;exact⟨y,a,g,by rw[r9 A z v,e],q⟩
end
theorem aj{s:S}(h:bf C s Z m=.ok (.nx Z1) m1):aC C (.cons s r) Z m=aC C r Z1 m1:=by erw[eY,h,R.bind]
theorem aU{s:S}{w:W}(h:bf C s Z m=.ok (.rt w) m1):aC C (.cons s r) Z m=.ok (.rt w) m1:=by erw[eY,h,R.bind]
theorem eF{s:S}(h:bf C s Z m=.ok (.rz c fw Z1) m1):aC C (.cons s r) Z m=.ok (.rz c fw Z1) m1:=by erw[eY,h,R.bind]
theorem iP{f:Nat}{d:Fn}(g:p.fns[f]?=some d)(a:ws.length=d.np):D.cL p (n+1) f ws m=aC (Cn p n) d.body (fk d.nl ws) m:=by
 rw[D.cL,g];dsimp only;rw[MW a];rfl
theorem E9{f:Nat}(h:D.cL p n f ws m=.ok fl m1):D.runN p n f ws m=outF fl m1:=by unfold D.runN;rw[h];rfl
def nc(P:Nat->Bool):Nat->Nat->Option Nat
 |0,_=>none
 |k+1,i=>if P i then some i else nc P k (i+1)
theorem vt{Q:Nat->Bool}:∀{k i:Nat},(∀j,i<=j->j<i+k->P j=Q j)->nc P k i=nc Q k i
 |0,_,_=>rfl
 |k+1,i,h=>by
  unfold nc;rw[h i (MK _) 'o',vt (k:=k) (i:=i+1) λ j d a=>h j 'o' 'o']
theorem qp:∀{k i:Nat},nc P k i=none->∀j,i<=j->j<i+k->P j=false
 |0,_,_=>λ j d a=>by omega
 |k+1,i,h=>λ j d a=>by
  unfold nc at h;split at h
  .cases h
  .ext e
   by_cases y:j=i
   .subst y;simpa using e
   .exact qp h j 'o' 'o'
theorem tT:∀{k i:Nat},(∀j,i<=j->j<i+k->P j=false)->nc P k i=none
 |0,_,_=>rfl
 |k+1,i,h=>by
  unfold nc;rw[h i (MK _) 'o',M8 'd'];exact tT λ j d a=>h j 'o' 'o'
def CC:F->Prop
 |.rt _=>True
 |.rz _ _ _=>True
 |_=>False
theorem nh{get:Mem->Nat->Nx}{lC:Loc->Mem->R F}(P:Nat->Bool)(I:Nat->Loc->Mem->Prop)(O:Nat->F->Mem->Prop)(y:∀i f m,O i f m->CC f)
  (u:∀i Z m,i<n->I i Z m->∃x Z1,get m i=.it x/\aA t x Z=some Z1/\(P i=true->∃f m2,lC Z1 m=.ok f m2/\O i f m2)/\(P i=false->∃Z2 m2,(lC Z1 m=.ok (.nx Z2) m2\/lC Z1 m=.ok (.ct Z2) m2)/\I (i+1) Z2 m2)) (v:∀Z m,I n Z m->get m n=.fin) :
  ∀(k i:Nat) (Z:Loc) (m:Mem),i+k=n->I i Z m->match nc P k i with
   |none=>∃d g,dR get t lC k i Z m=.ok (.nx d) g/\I n d g
   |some j=>∃f g,dR get t lC k i Z m=.ok f g/\O j f g
 |0,i,Z,m,hi,h=>by
  have e:i=n:=by omega
  subst e;exact⟨Z,m,kU (v Z m h),h⟩
 |k+1,i,Z,m,hi,h=>by
  let⟨x,Z1,q,l,a,B⟩:=u i Z m 'o' h;unfold nc;cases w:P i with
  |true=>
   let⟨f,m2,e,o⟩:=a w;rw[MW rfl];refine⟨f,m2,?_,o⟩;have:=y _ _ _ o;rw[dR,q];erw[l,R.bind,e];cases f<;>first | rfl | exact this.elim
  |false=>
   let⟨Z2,m2,a,A⟩:=B w;have z:=nh P I O y u v k (i+1) Z2 m2 'o' A;have e:dR get t lC (k+1) i Z m=dR get t lC k (i+1) Z2 m2:=by
    rcases a with a | a
    .exact jN q l a
    .exact tS q l a
   rw[M8 'd',e];exact z
theorem bO{f:Nat}{w:W}{d:Fn}(g:p.fns[f]?=some d)(a:ws.length=d.np)(h:aC (Cn p n) d.body (fk d.nl ws) m=.ok (.rt w) m1):D.runN p (n+1) f ws m=.ok w m1:=by
 rw[D.runN_succ,g];erw[a,Nf,h,R.bind,outF]
theorem Fb{w:W}(h:ao C e Z m=.ok w m1):bf C (.asg (.pt (.var i)) e) Z m=.ok (.nx (Z.set i (some w))) m1:=by erw[gf,h,R.bind,fC,aA]
theorem aN{w:W}(h:ao C e Z m=.ok w m1)(a:Z.set i (some w)=Z1):bf C (.asg (.pt (.var i)) e) Z m=.ok (.nx Z1) m1:=by rw[Fb h,a]
theorem kX{xs:List α}(h:xs.Nodup)(d:i<xs.length):xs[i]∉xs.take i:=λ a=>by
 rw[<-take_append_drop i xs] at h;exact(Ov.mp h).2.2 _ a _ (Nm (i:=0) (by rw[getElem?_drop,Nat.add_zero,M9 d])) rfl
theorem bz{w:W}(h:ao C e Z m=.ok w m1):bf C (.ret e) Z m=.ok (.rt w) m1:=by erw[mJ,h,R.bind]
theorem oq{w:W}(h:ao C e Z m=.ok w m1):bf C (.expr e) Z m=.ok (.nx Z) m1:=by erw[i8,h,R.bind]
theorem kY{o:E}{f:Str}{a:Mem}{w x:W}(h:ao C e Z m=.ok w m1)(g:ao C o Z m1=.ok x m2)(d:mF C.cs x f w m2=.ok () a):bf C (.fas o f e) Z m=.ok (.nx Z) a:=by erw[mL,h,g,d,R.bind]
theorem ou{t:E}{a:Ss}(h:bB C t Z m=.ok true m1):bf C (.ife t a b) Z m=aC C a Z m1:=by erw[mK,h,R.bind,Nf]
theorem gT{t:E}{a:Ss}(h:bB C t Z m=.ok false m1):bf C (.ife t a b) Z m=aC C b Z m1:=by erw[mK,h,R.bind,MY,Np]
theorem ay:aC C .nil Z m=.ok (.nx Z) m:=rfl
theorem kZ{f:F}(h:cN C it Z m=.ok s m1)(a:dR s.get t (fun Z m=>aC C b Z m) (s.len m1) 0 Z m1=.ok f m2):bf C (.for_ t it b) Z m=.ok f m2:=by erw[kB,h,R.bind,a]
theorem cW(k:cN C it Z m=.ok s m1)(h:s.len m1=n)(I:Nat->Loc->Mem->Prop)(u:I 0 Z m1)
  (g:∀i Z m,i<n->I i Z m->∃x Z1 Z2 m2,s.get m i=.it x/\aA t x Z=some Z1/\(aC C b Z1 m=.ok (.nx Z2) m2\/aC C b Z1 m=.ok (.ct Z2) m2)/\I (i+1) Z2 m2) (j:∀Z m,I n Z m->s.get m n=.fin) :
  ∃a d,bf C (.for_ t it b) Z m=.ok (.nx a) d/\I n a d:=by
 let⟨a,d,q,l⟩:=qm (get:=s.get) (t:=t) (lC:=fun Z m=>aC C b Z m) I g j n 0 Z m1 'o' u;exact⟨a,d,kZ k (by rw[h];exact q),l⟩
theorem iQ(q:cN C it Z m=.ok s m1)(l:s.len m1=n)(P:Nat->Bool)(I:Nat->Loc->Mem->Prop)(O:Nat->F->Mem->Prop)(w:∀i f m,O i f m->CC f)(y:I 0 Z m1)
  (u:∀i Z m,i<n->I i Z m->∃x Z1,s.get m i=.it x/\aA t x Z=some Z1/\(P i=true->∃f m2,aC C b Z1 m=.ok f m2/\O i f m2)/\(P i=false->∃Z2 m2,(aC C b Z1 m=.ok (.nx Z2) m2\/aC C b Z1 m=.ok (.ct Z2) m2)/\I (i+1) Z2 m2)) (v:∀Z m,I n Z m->s.get m n=.fin) :
  match nc P n 0 with
   |none=>∃a d,bf C (.for_ t it b) Z m=.ok (.nx a) d/\I n a d
   |some j=>∃f d,bf C (.for_ t it b) Z m=.ok f d/\O j f d:=by
 have h:=nh (get:=s.get) (t:=t) (lC:=fun Z m=>aC C b Z m) P I O w u v n 0 Z m1 'o' y;cases e:nc P n 0 with
 |none=>
  rw[e] at h;let⟨a,d,k,g⟩:=h;exact⟨a,d,kZ q (by rw[l];exact k),g⟩
 |some j=>
  rw[e] at h;let⟨f,d,k,g⟩:=h;exact⟨f,d,kZ q (by rw[l];exact k),g⟩
theorem tU{f:Str}{w:W}(h:ao C e Z m=.ok w m1):bf C (.rais c (some f) e) Z m=.ok (.rz c (some (f,w)) Z) m1:=by erw[rH,h,R.bind,Oj]
theorem yJ(h:aR (Cn p n) es Z m=.ok ws m1)(a:D.cL p n i ws m1=.ok (.nx Z1) m2):bf (Cn p n) (.xc .drop none i es) Z m=.ok (.nx Z) m2:=by erw[pS,h,a,R.bind,zo,outF,mH]
theorem yK(h:aR (Cn p n) es Z m=.ok ws m1)(a:D.cL p n i ws m1=.ok (.rz c fw Z1) m2):bf (Cn p n) (.xc hw none i es) Z m=.ok (.rz c fw Z) m2:=by erw[pS,h,a,R.bind,zo]
theorem Fc(h:aR (Cn p n) es Z m=.ok ws m1)(a:D.cL p n i (.ref m1.length::ws) (m1++[.ins c []])=.ok (.nx Z1) m2):bf (Cn p n) (.xc hw (some c) i es) Z m=mH (Cn p n) hw Z (.ref m1.length) m2:=by erw[pT,h,a,R.bind,zo,outF]
theorem Fd{d:Str}(h:aR (Cn p n) es Z m=.ok ws m1)(a:D.cL p n i (.ref m1.length::ws) (m1++[.ins c []])=.ok (.rz d fw Z1) m2):bf (Cn p n) (.xc hw (some c) i es) Z m=.ok (.rz d fw Z) m2:=by erw[pT,h,a,R.bind,zo]
theorem IF{h:Ss}{a:List Str}{i:Option Nat}(e:aC C b Z m=.ok fl m1)(d:∀c fw Z,fl≠.rz c fw Z):bf C (.tr b a i h) Z m=.ok fl m1:=by
 erw[Aj,e,R.bind]
theorem IG{h:Ss}{a:List Str}{i:Option Nat}(e:aC C b Z m=.ok (.rz c fw Z1) m1)(d:a.contains c=true)(g:aC C h (rG i @(.ref m1.length) Z1) (m1++[D3 c fw])=.ok fl m2):bf C (.tr b a i h) Z m=gone i fl m2:=by
 erw[Aj,e,R.bind,d,Nf,g]
theorem cY{js:List Nat}{ifs:Es}{g:G}{a:Loc}(h:cN C it Z m=.ok s m1)(j:bS s.get t (fun Z m=>aZ C ifs Z m) (fun Z m d=>gr C g Z m d) (s.len m1) 0 (fB js Z) m1 []=.ok (ws,a) m2):ao C (.comp (.gen t js it ifs g)) Z m=.ok (.ref m2.length) (m2++[.lst ws]):=by
 erw[fj,gv,h,R.bind,j,new]
theorem jf(a:ao C e Z m=.ok (.int n) m1)(h:n<=1000000):cN C (.rng e) Z m=.ok (.rng 0 n) m1:=by
 erw[kr,a,R.bind];rw[MW 'o',OW]
theorem aI{lo:Int}(h:i<n):Src.get (.rng lo n) m i=.it (.int (lo+i)):=by erw[Src.get,h,Nf]
theorem aF{lo:Int}(h:¬i<n):Src.get (.rng lo n) m i=.fin:=by erw[Src.get,h,Np]
theorem aO(h:i<xs.length):Src.get (.tup xs) m i=.it xs[i]:=by erw[Src.get,M9 h]
theorem aG(h:¬i<xs.length):Src.get (.tup xs) m i=.fin:=by erw[Src.get,O3 (PV h)]
theorem dF{w:W}(h:s.get m i=.it w):Src.get (.enm s) m i=.it (.tup [.int i,w]):=by erw[Src.get,h]
theorem cJ(h:s.get m i=.fin):Src.get (.enm s) m i=.fin:=by erw[Src.get,h]
theorem Bg(h:m[n]?=@(.lst xs))(i:Nat):Src.get (.lst n) m i=Src.get (.tup xs) m i:=by erw[Src.get,getL,h]
theorem iR:∀ns:List Int,aB (ns.map W.int)=true
 | []=>rfl
 |n::r=>by simp[aB,aK,iR r]
theorem bD:∀ns:List Str,aB (ns.map W.str)=true
 | []=>rfl
 |n::r=>by simp[aB,aK,bD r]
theorem ir:∀{xs:List W},aB xs=true↔∀x∈xs,aK x=true
 | []=>by simp[aB]
 |x::r=>by simp[aB,ir (xs:=r)]
theorem qt{f:α->W}(h:∀a,aK (f a)=true)(xs:List α):aB (xs.map f)=true:=ir.mpr λ x d=>by
 let⟨a,_,rfl⟩:=Nj.mp d;exact h a
mutual
theorem k6(g:Nat->Option W):∀{w:W},aK w=true->jB g w=some w
 |.non,_=>rfl
 |.bl _,_=>rfl
 |.int _,_=>rfl
 |.str _,_=>rfl
 |.tup xs,h=>by erw[jB,cK g (by simpa only[aK] using h:aB xs=true)];rfl
 |.fz xs,h=>by erw[jB,cK g (by simpa only[aK] using h:aB xs=true)];rfl
 |.obj c ks vs,h=>by erw[jB,cK g (by simpa only[aK] using h:aB vs=true)];rfl
 |.ref _,h=>by simp[aK] at h
theorem cK(g:Nat->Option W):∀{w:List W},aB w=true->d9 g w=some w
 | [],_=>rfl
 |x::r,h=>by
  erw[aB,MJ] at h;erw[d9,k6 g h.1,cK g h.2]
end
theorem yL(k:Nat){w:W}:aK w=true->gQ k w=true:=
 W.rec (motive_1:=λ w=>aK w=true->gQ k w=true) (motive_2:=λ w=>aB w=true->bF k w=true) (λ _=>rfl) (λ _ _=>rfl) (λ _ _=>rfl) (λ _ _=>rfl) (λ _ i e=>i e) (λ _ i e=>i e) (λ _ _ _ i e=>i e) (λ _ e=>nomatch (show false=true from e)) (λ _=>rfl) (λ _ _ a b e=>MN.mpr ⟨a (MN.mp e).1,b (MN.mp e).2⟩) w
theorem bM(k:Nat){w:List W}(e:aB w=true):bF k w=true:=by
 induction w with
 |nil=>rfl
 |cons x r a=>exact MN.mpr ⟨yL k (MN.mp e).1,a (MN.mp e).2⟩
theorem yM{k l:Nat}(d:k<=l){w:W}:gQ k w=true->gQ l w=true:=
 W.rec (motive_1:=λ w=>gQ k w=true->gQ l w=true) (motive_2:=λ w=>bF k w=true->bF l w=true) (λ _=>rfl) (λ _ _=>rfl) (λ _ _=>rfl) (λ _ _=>rfl) (λ _ i e=>i e) (λ _ i e=>i e) (λ _ _ _ i e=>i e) (λ _ e=>NH (MO (Ot e) d)) (λ _=>rfl) (λ _ _ a b e=>MN.mpr ⟨a (MN.mp e).1,b (MN.mp e).2⟩) w
theorem gK{k l:Nat}(d:k<=l){w:List W}(e:bF k w=true):bF l w=true:=by
 induction w with
 |nil=>rfl
 |cons x r a=>exact MN.mpr ⟨yM d (MN.mp e).1,a (MN.mp e).2⟩
theorem ni{k l:Nat}(a:k<=l)(h:gj k o=true):gj l o=true:=by
 cases o with
 |lst xs=>exact gK a h
 |ins c fs=>exact gK a h
 |dic fs=>exact gK a h
 |exc c f ws=>exact gK a h
 |set d=>rfl
def Cm(m:Mem):Prop:=uU m.length m=true
theorem Cm.nil:Cm []:=rfl
theorem k7{k:Nat}:uU k m=true↔∀o∈m,gj k o=true:=by simp[uU,OO]
theorem Cm.set{p:Nat}(h:Cm m)(ho:gj m.length o=true):Cm (m.set p o):=by
 unfold Cm at h ⊢;rw[Oh,k7] at *;intro x a;rcases mem_or_eq_of_mem_set a with a | rfl
 .exact h x a
 .exact ho
theorem Cm.app{l:Mem}(h:Cm m)(d:∀o∈l,gj (m.length+l.length) o=true):Cm (m++l):=by
 unfold Cm at h ⊢;rw[k7] at *;intro x a;rw[N9];rcases Nc.mp a with a | a
 .exact ni 'o' (h x a)
 .exact d x a
theorem Cm.push(h:Cm m)(ho:gj m.length o=true):Cm (m++[o]):=h.app λ x a=>by
 rw[Nu] at a;subst a;exact ni 's' ho
theorem jg{l:Mem}{w w1:W}(h:ao C e Z m=.ok w (m0++l))(a:m0.length=m.length)(g:Cm m0)(hw:jB (jK (m0++l) m0.length 8) w=some w1):ao C (.frz e) Z m=.ok w1 m0:=by
 have d:(m0++l).take m.length=m0:=by rw[<-a,take_left'];rfl
 have j:m.length<=(m0++l).length/\uU m.length ((m0++l).take m.length)=true:=⟨by rw[N9];omega,by rw[d,<-a];exact g⟩;erw[gu,h,xm];rw[MW j,<-a,hw];erw[a,d]
theorem tV{l:Mem}{j:Nat}(h:ao C e Z m=.ok (.ref j) (m0++l))(k:m0.length=m.length)(g:Cm m0)(q:m0.length<=j)(a:(m0++l)[j]?=@(.lst xs))(d:aB xs=true):ao C (.frz e) Z m=.ok (.fz xs) m0:=by
 refine jg h k g ?_;erw[jB,jK,a,cK _ d,Oj];rw[M8 'o']
theorem bw(h:ao C e Z m=.ok (.ref m0.length) (m0++[.lst xs]))(g:m0.length=m.length)(d:Cm m0)(a:aB xs=true):ao C (.frz e) Z m=.ok (.fz xs) m0:=
 tV h g d (MK _) 's' a
theorem Bh{w:W}(h:ao C e Z m=.ok w m0)(g:m0.length=m.length)(d:Cm m0)(a:aK w=true):ao C (.frz e) Z m=.ok w m0:=
 jg (l:=[]) (by rw[NL];exact h) g d (k6 _ a)
theorem bE(h:aB ws=false):aL f ws m=f ws m:=by simp[aL,h]
theorem cD{w:W}(h:aB ws=true)(e:f ws []=.ok w m1)(hw:aK w=true):aL f ws m=.ok w m:=by simp[aL,h,e,hw]
theorem nj{w:W}(h:aB ws=true)(e:f ws []=.ok w m1)(hw:aK w=false):aL f ws m=.ok (vM m.length w) (m++m1.map (CB m.length)):=by simp[aL,h,e,hw]
theorem set_same{p:Nat}(h:m[p]?=some o):m.set p o=m:=by
 apply ext_getElem?;intro j
 by_cases e:p=j
 .subst e;rw[Nb (MG.mp h).1,h]
 .rw[M7 e]
theorem jO(l:List α):l.filter (λ _=>true)=l:=List.filter_eq_self.mpr λ _ _=>rfl
theorem jQ{get:Mem->Nat->Nx}{ifs:Es}{B:W->Loc}{p:W->Bool}{g:W->W}(u:∀j (h:j<xs.length),get m j=.it xs[j])(M:get m xs.length=.fin)
  (K:∀x∈xs,aA t x Z=@(B x)) (A:∀x∈xs,∀y∈xs,aA t y (B x)=@(B y)) (D:∀x∈xs,aZ C ifs (B x) m=.ok (p x) m) (G:∀x∈xs,p x=true->ao C e (B x) m=.ok (g x) m) (Q:xs.length<=lim) :
  ∃d,bS get t (fun Z m=>aZ C ifs Z m) (fun Z m a=>gr C (.elt e) Z m a) xs.length 0 Z m []=.ok ((xs.filter p).map g,d) m:=by
 let⟨a,d,N,L,S,J,I⟩:=bY (get:=get) (t:=t) (test:=fun Z m=>aZ C ifs Z m) (body:=fun Z m a=>gr C (.elt e) Z m a) (n:=xs.length)
  (λ j Z1 m1 a=>(∀x∈xs,aA t x Z1=@(B x))/\m1=m/\a=((xs.take j).filter p).map g) (λ j Z1 m1 a z=>by
   rintro⟨H,rfl,rfl⟩;have k:=NF z;have l:xs.take (j+1)=xs.take j++[xs[j]]:=by rw[QD,M9 z];rfl
   refine⟨xs[j],B xs[j],u j z,H _ k,?_⟩;have v:=D _ k;cases q:p xs[j] with
   |true=>
    rw[q] at v;refine .inl ⟨m1,((xs.take (j+1)).filter p).map g,B xs[j],m1,v,?_,A _ k,rfl,rfl⟩;have w:(((xs.take j).filter p).map g).length<lim:=by
     rw[M0];have:=length_filter_le p (xs.take j);rw[Of] at this;omega
    erw[gv,G _ k q,R.bind];rw[MW w,l,filter_append,NZ];simp[q]
   |false=>
    rw[q] at v;refine .inr ⟨m1,v,A _ k,rfl,?_⟩;rw[l,filter_append];simp[q]) (fun Z1 m1 a h=>by rw[h.2.1];exact M) xs.length 0 Z m [] 'o' ⟨K,rfl,by simp⟩
 subst J I;exact⟨d,by rw[L,take_length]⟩
theorem comp_map{g:W->W}(h:∀x∈xs,ao C e (Z.set i (some x)) m=.ok (g x) m)(q:xs.length<=lim) :
  ∃a,bS (Src.get (.tup xs)) (.var i) (fun Z m=>aZ C .nil Z m) (fun Z m d=>gr C (.elt e) Z m d) xs.length 0 Z m []=.ok (xs.map g,a) m:=by
 let⟨a,k⟩:=jQ (C:=C) (get:=Src.get (.tup xs)) (t:=.var i) (ifs:=.nil) (e:=e) (Z:=Z) (m:=m) (xs:=xs) (B:=λ x=>Z.set i (some x)) (p:=λ _=>true) (g:=g) (λ j u=>aO u) (aG 'o') (λ x _=>by erw[aA]) (λ x _ y _=>by erw[aA,Pn]) (λ x _=>by erw[bX]) (λ x l _=>h x l) q;rw[jO] at k;exact⟨a,k⟩
theorem yN{g:Nat->W}(h:∀j,j<n->ao C e (Z.set i @(.int j)) m=.ok (g j) m)(v:n<=lim) :
  ∃d,bS (Src.get (.rng 0 n)) (.var i) (fun Z m=>aZ C .nil Z m) (fun Z m l=>gr C (.elt e) Z m l) n 0 Z m []=.ok ((List.range n).map g,d) m:=by
 have a:((List.range n).map λ j=>W.int (j:Nat)).length=n:=by simp
 let⟨d,q⟩:=jQ (C:=C) (get:=Src.get (.rng 0 n)) (t:=.var i) (ifs:=.nil) (e:=e) (Z:=Z) (m:=m) (xs:=(List.range n).map λ j=>W.int (j:Nat)) (B:=λ x=>Z.set i (some x)) (p:=λ _=>true) (g:=λ w=>match w with | .int j=>g j.toNat | _=>.non)
  (λ j k=>by rw[aI (~~~k)];simp) (aF 's') (λ x _=>by erw[aA]) (λ x _ y _=>by erw[aA,Pn]) (λ x _=>by erw[bX]) (λ x u _=>by
   let⟨j,k,rfl⟩:=Nj.mp u;have:=h j (NK.mp k);simpa using this) (by rw[a];exact v)
 rw[a,jO] at q;refine⟨d,q.trans ?_⟩;simp[OY]
theorem k8:∀n:Nat,bools (List.replicate n (W.bl true))=@(List.replicate n true)
 |0=>rfl
 |n+1=>by simp[replicate_succ,bools,k8 n]
theorem tW(xs:List α)(w:W):(xs.map λ _=>w)=List.replicate xs.length w:=map_const' ..
theorem gA{w:W}(h:aM m w=some xs):∃s,srcOf m w=some s/\(∀i,s.get m i=Src.get (.tup xs) m i)/\s.len m=xs.length:=by
 cases w with
 |tup a=>erw[aM] at h;cases h;exact⟨.tup xs,rfl,λ _=>rfl,rfl⟩
 |fz a=>erw[aM,getL] at h;cases h;exact⟨.tup xs,rfl,λ _=>rfl,rfl⟩
 |ref n=>
  erw[aM,getL] at h;split at h
  .ext a e;cases h;exact⟨.lst n,by simp[srcOf,getL,e],λ i=>Bg e i,by simp[Src.len,getL,e]⟩
  .cases h
 |_=>simp[aM,getL] at h
theorem bJ{w:W}(h:getL m w=some xs):aM m w=some xs:=by
 cases w with
 |tup a=>cases h
 |_=>exact h
theorem vz{r:W}(d:f ws m=.ok r m)(g:aB ws=true->f ws []=.ok r [])(a:aK r=true):aL f ws m=.ok r m:=by
 cases h:aB ws with
 |true=>exact cD h (g h) a
 |false=>rw[bE h,d]
theorem vA{w:W}(h:aK w=true):aM [] w=aM m w:=by
 cases w with
 |ref n=>simp[aK] at h
 |_=>rfl
theorem bK{w:W}(h:aM m w=some xs):bA .len [w] m=.ok (.int xs.length) m:=by
 cases w with
 |str z=>simp[aM,getL] at h
 |_=>erw[bA,h]
theorem ow{xs:List α}(h:i<xs.length):L2.sM xs (i:Int)=some xs[i]:=by
 have d:(0:Int)<=i:=by omega
 have a:(i:Int)<xs.length:=by omega
 erw[L2.sM,L2.vJ,d,a,Nf,Option.bind_some,OW,M9 h]
theorem cF{w:W}(h:aM m w=some xs)(a:i<xs.length):bh w (.int i) m=.ok xs[i] m:=by
 cases w with
 |str z=>simp[aM,getL] at h
 |_=>erw[bh,h,ow a]
theorem sd{w:W}(h:aM m w=some xs):∃s,mG w m=.ok s m/\(∀i,s.get m i=Src.get (.tup xs) m i)/\s.len m=xs.length:=by
 let⟨s,g,d,a⟩:=gA h;refine⟨s,?_,d,a⟩;have:xq m w=some s:=by
  cases w with
  |str z=>simp[aM,getL] at h
  |_=>exact g
 erw[mG,this]
theorem k9{w:W}{l:Mem}(h:aM m w=some xs):aM (m++l) w=some xs:=by
 cases w with
 |ref n=>
  erw[aM,getL] at h ⊢;split at h
  .ext a e;rw[ML (MG.mp e).1,e];exact h
  .cases h
 |_=>exact h
theorem jR{b:Bool}(a:bB C e Z m=(ao C e Z m).bind λ w m=>D.truthy m w)(h:ao C e Z m=.ok (.bl b) m1):bB C e Z m=.ok b m1:=by rw[a,h];rfl
theorem cu(f:Nat)(es:Es):ao (Cn p n) (.call f es) Z m=(aR (Cn p n) es Z m).bind λ ws m=>aL (D.runN p n f) ws m:=rfl
theorem jh(o:E)(f:Str)(es:Es):ao (Cn p n) (.mth o f es) Z m=(ao (Cn p n) o Z m).bind λ x m=>match pI p.cs x f m with
  |some i=>(aR (Cn p n) es Z m).bind λ ws m=>aL (D.runN p n i) (x::ws) m
  |none=>.no:=rfl
theorem ji(a:E)(f:Str):ao (Cn p n) (.fld a f) Z m=(ao (Cn p n) a Z m).bind λ x m=>pH p.cs x f m:=rfl
end D
end
section
namespace D
open PySem PySem.Spec PyProof.Rows L2 List
variable{C:Addr}{h:Heap}{i:Nat}{mg:Str->Option Value}{o:Option (Option Value)}{α:Type}
abbrev Tb:Type:=Str×Stmt
def Tb.x(t:Tb):Str:=match t.2 with
 |.FunctionDef n _ _ _ _ _ _ _ _ _=>n
 |_=>""
def Tb.ps(t:Tb):List Str:=(gG t.2).args.map (·.arg)
def Tb.nm(t:Tb):List (Str×NameKind):=(aE t.2).names
def Tb.N(t:Tb):List Str:=
 let a:=t.ps++(t.nm.filter λ p=>(p.2==.local||p.2==.cell)&&!t.ps.contains p.1).map (·.1)
 a++((aE t.2).more.filterMap λ p=>if p.1=("fast":Str) then (match p.2 with
  |.str x=>some x
  |_=>none) else none).filter λ x=>!a.contains x
def II:ScopeKind->Bool
 |.function=>true
 |_=>false
def Tb.sc(t:Tb):Bool:=II (aE t.2).kind&&!(aE t.2).isCoroutine&&!(aE t.2).isGenerator&&decide t.N.Nodup&&t.N.take t.ps.length==t.ps&&t.ps.all (λ x=>t.nm.lookup x==some .local||t.nm.lookup x==some .cell)&&t.nm.all λ y=>y.2 != .free
section
variable(K:ae)(p:Pg)(fns:List (Str×(Nat×Nat)))(gl:List (Str×W))(fz:List Pos)(T:List Tb)
def Tb.a(t:Tb):Addr:=match (if t.1=("":Str) then PySem.W.nsIn K mainGlobals t.x else PySem.W.findIn K (.ref (ah K t.1)) t.x) with
 |some (some (.ref f))=>f
 |_=>0
def Tb.get(t:Tb)(f:FuncData->α)(d:α):α:=match K.lookup (t.a K) with
 |some o=>match o.data with
  |.func g=>f g
  |_=>d
 |none=>d
def Tb.fd(t:Tb):FuncData:=PySem.W.fnOf t.x (t.get K (·.qualname) "") (gG t.2) (cj t.2) (aE t.2) .none .none .none (t.get K (·.pyModule) .none) none (t.get K (·.code) .none) .none
def yO(o:Option (Option Value))(f:Addr):Bool:=match o with
 |some (some (.ref g))=>g==f
 |_=>false
def Fe(o:Option (Option Value)):Bool:=match o with
 |some none=>true
 |_=>false
def isA(o:Option (Option Value)):Bool:=match o with
 |some (some (.builtin b))=>b=="object.__setattr__"
 |_=>false
def Lx(o:Option (Option Value))(w:W):Bool:=match o with
 |some (some (.int i _))=>(match w with
  |.int j=>i==j
  |_=>false)
 |some (some (.str i _))=>(match w with
  |.str j=>i==j
  |_=>false)
 |_=>false
def IJ(C:Addr):Bool:=PySem.W.plainGet K C Str.empty&&PySem.W.hasDictIn K C&&PySem.W.plainOver K C&&isA (PySem.W.findIn K (.ref C) "__setattr__")
def FJ(o:Option (Option Value))(s:String):Bool:=match o with
 |some (some (.builtin x))=>x==s
 |_=>false
def Ff(C:Addr):Bool:=IJ K C&&FJ (PySem.W.findIn K (.ref C) "__class__") "object.__class__"&&FJ (PySem.W.specialIn K (.builtin "object.__class__") "__get__") "getset_descriptor.__get__"&&PySem.W.takesIn K (.builtin "object.__class__")==some true&&PySem.W.mroIn K C (.type "object")==some true
def Fg:Value->Tok
 |.int _ t=>t
 |.str _ t=>t
 |_=>0
def Mj(w:W)(t:Tok):Value:=match w with
 |.int i=>.int i t
 |.str x=>.str x t
 |_=>.none
def vV:W->V
 |.int i=>.int i
 |.str x=>.str x
 |_=>.non
def KW:W->Bool
 |.int _=>true
 |.str _=>true
 |_=>false
def KY(x:Str):Array DictEntry×Nat:=match K.lookup (ah K x) with
 |some o=>match o.data with
  |.dict a n=>(a,n)
  |_=>(#[],0)
 |none=>(#[],0)
def qu(P:Params):List (Str×W)->List DictEntry->List DictEntry
 |kv::r,e::es=>⟨PyData.keyHash P kv.1,.str kv.1 (Fg e.key),Mj kv.2 (Fg e.val)⟩::qu P r es
 |_,_=>[]
def IK(P:Params)(y:Str×List (Str×W)):Obj:=⟨.type "dict",none,.dict (qu P y.2 (KY K y.1).1.toList).toArray (KY K y.1).2,#[]⟩
def IL(i:Nat)(x:Str)(q:Tb->Bool):Bool:=match T[i]? with
 |some t=>t.x==x&&q t
 |none=>false
def Fj(C:Addr):Bool:=match K.lookup C with
 |some o=>match o.data with
  |.cls cd=>o.cls==.type "type"&&cd.mro.head?==some (.ref C)&&decide (o.slots.toList.length=6)&&o.slots.toList[4]?==some @(.builtin "ValueError.__new__")&&!cd.hasDel&&cd.hasDict&&PySem.W.tailIn K VE cd.mro.tail&&PySem.W.nsOkIn K cd.ns&&PySem.W.keepIn K (.ref C)&&isA (PySem.W.findIn K (.ref C) "__setattr__")
  |_=>false
 |none=>false
def tX(C:Addr):Option (Option Value):=match PySem.W.clsIn K C with
 |some cd=>PySem.W.nsIn K cd.ns "__init__"
 |none=>none
def Bj(C:Addr):List Value:=match PySem.W.clsIn K C with
 |some cd=>cd.mro.tail
 |none=>[]
def yP(t:Tb)(f:Str):Bool:=match cj t.2 with
 | [.Assign [.Attribute (.Name s _) g _] (.Name v _) _]=>t.ps==[s,v]&&t.N==[s,v]&&g==f&&!special s&&!special v
 |_=>false
def Ly(y:Str×Option Str):Bool:=Fj K (ah K y.1)&&yO (PySem.W.nsIn K mainGlobals y.1) (ah K y.1)&&FJ (PySem.W.findIn K (.ref (ah K y.1)) "__getattribute__") "BaseException.__getattribute__"&&Fe (PySem.W.findIn K (.ref (ah K y.1)) "__getattr__")&&FJ (PySem.W.findIn K (.ref (ah K y.1)) "__class__") "object.__class__"&&match y.2 with
 |none=>tX K (ah K y.1)==some none
 |some f=>T.any λ t=>yO (tX K (ah K y.1)) (t.a K)&&PySem.W.typeIn K (.ref (t.a K))==some (.type "function")&&Fe (PySem.W.findIn K (.ref (ah K y.1)) f)&&yP t f
def IM:Bool:=p.z.fn.all (λ y=>fns.lookup y.1==some y.2)&&p.z.ini.all (λ y=>p.cs.ini.lookup y.1==some y.2)&&p.z.cls.all (Ly K T) &&
 (p.z.cls.all λ y=>((p.z.sub.lookup y.1).getD []).all λ c=>(p.z.cls.lookup c).isSome&&(Value.ref (ah K c)::Bj K (ah K c)).contains (.ref (ah K y.1))) &&
 p.z.sub.all λ y=>(if y.1="ValueError" then Fe (PySem.W.nsIn K mainGlobals y.1) else yO (PySem.W.nsIn K mainGlobals y.1) (ah K y.1))&&p.z.cls.all λ d=>PySem.W.kitOne K (.ref (ah K d.1)) (pA K y.1)==@(y.2.contains d.1)
def FL:Bool:=
 IM K p fns T &&
 (kM.all λ x=>Fe (PySem.W.nsIn K mainGlobals x))&&(gl.all λ y=>Lx (PySem.W.nsIn K mainGlobals y.1) y.2
 ) &&
 (fns.all λ y=>IL T y.2.1 y.1 λ t=>t.ps.length==y.2.2&&yO (PySem.W.nsIn K mainGlobals y.1) (t.a K)) &&
 (p.cs.mths.all λ y=>IJ K (ah K y.1.1)&&IL T y.2 y.1.2 λ t=>yO (PySem.W.findIn K (.ref (ah K y.1.1)) y.1.2) (t.a K)&&PySem.W.isFn K (.ref (t.a K))) &&
 (p.cs.ini.all λ y=>PySem.W.makesIn K (ah K y.1)&&PySem.W.keepIn K (.ref (ah K y.1))&&yO (PySem.W.nsIn K mainGlobals y.1) (ah K y.1)&&IL T y.2 "__init__" λ t=>yO (PySem.W.findIn K (.ref (ah K y.1)) "__init__") (t.a K)&&PySem.W.isFn K (.ref (t.a K))) &&
 (p.cs.flds.all λ y=>IJ K (ah K y.1)&&Fe (PySem.W.findIn K (.ref (ah K y.1)) y.2)) &&
 (p.cs.dic.all λ y=>yO (PySem.W.nsIn K mainGlobals y.1) (ah K y.1)&&y.2.all (λ b=>KW b.2)&&y.2.length==(KY K y.1).1.toList.length&&!(ah K y.1==sysModules)) &&
 (p.cs.isc.all λ x=>yO (PySem.W.nsIn K mainGlobals x) (ah K x)&&Ff K (ah K x)) &&
 T.all λ t=>PySem.W.keepIn K (.ref (t.a K))&&PySem.W.codeIn K (t.fd K).code (t.fd K).qualname
structure Stat:Prop where
 c:T.map (λ t=>(qL (cB p ⟨t.N,t.nm,fns,gl,p.cs,fz⟩) (cj t.2)).map (Fn.mk t.ps.length t.N.length))=p.fns.map some
 s:T.all Tb.sc=true
 b:T.map (λ t q pm cd (f:Nat->Value)=>bindArgs (PySem.W.fnOf t.x q (gG t.2) (cj t.2) (aE t.2) .none .none .none pm none cd .none) ⟨(List.range t.ps.length).map f,[]⟩)=T.map λ t q pm cd f=>pure (t.ps.zip ((List.range t.ps.length).map f))
end
variable{K:ae}{p:Pg}{fns:List (Str×(Nat×Nat))}{gl:List (Str×W)}{fz:List Pos}{T:List Tb}
theorem se{J:Type}{f g:α->J}{l:List α}(h:l.map f=l.map g){x:α}(a:l[i]?=some x):f x=g x:=by
 have e:=OE (λ l=>l[i]?) h;simpa[a] using e
theorem eG{f:Addr}(h:yO o f=true):o=some @(.ref f):=by
 unfold yO at h;split at h
 .rw[eq_of_beq h]
 .cases h
theorem lg(h:Fe o=true):o=some none:=by
 unfold Fe at h;split at h
 .rfl
 .cases h
theorem yQ(h:isA o=true):o=some @(.builtin "object.__setattr__"):=by
 unfold isA at h;split at h
 .rw[eq_of_beq h]
 .cases h
theorem sj(h:IJ K C=true):vI K C:=by
 erw[IJ,MJ] at h;exact⟨h.1.1.1,h.1.1.2,h.1.2,yQ h.2⟩
theorem oA{s:String}(h:FJ o s=true):o=some @(.builtin s):=by
 unfold FJ at h;split at h
 .rw[eq_of_beq h]
 .cases h
theorem Bk(h:Ff K C=true):Ej K C:=by
 erw[Ff,MJ] at h;exact⟨sj h.1.1.1.1,oA h.1.1.1.2,oA h.1.1.2,eq_of_beq h.1.2,eq_of_beq h.2⟩
theorem oB{x:Str}{q:Tb->Bool}(h:IL T i x q=true):∃t,T[i]?=some t/\t.x=x/\q t=true:=by
 unfold IL at h;split at h
 .ext t e;rw[MJ] at h;exact⟨t,e,eq_of_beq h.1,h.2⟩
 .cases h
theorem yR(us:List Value):(List.range us.length).map (λ i=>us.getD i .none)=us:=by
 apply PM
 .simp
 .intro i b a;simp[List.getD,a]
theorem CG(S:Stat p fns gl fz T){t:Tb}(a:T[i]?=some t){us:List Value}(c:us.length=t.ps.length):bindArgs (t.fd K) ⟨us,[]⟩=pure (t.ps.zip us):=by
 have z:=congrFun (congrFun (congrFun (congrFun (se S.b a) (t.get K (·.qualname) "")) (t.get K (·.pyModule) .none)) (t.get K (·.code) .none)) (λ i=>us.getD i .none);rw[<-c,yR] at z;exact z
theorem CH(S:Stat p fns gl fz T)(j:T.map (λ t=>(K.lookup (t.a K)).map Obj.data)=T.map λ t=>some (.func (t.fd K)))(g:T.all (λ t=>PySem.W.keepIn K (.ref (t.a K))&&PySem.W.codeIn K (t.fd K).code (t.fd K).qualname)=true)
 {t:Tb} (b:T[i]?=some t):(∃q,BK K t.x q t.2 (t.a K) (t.fd K))/\fW t.N t.ps (aE t.2)/\Binds K (t.fd K) t.ps []:=by
 have c:=Nm b;have k:=NR.mp g t c;rw[MJ] at k;have e:=se j b;rw[ME] at e;let⟨o,m,l⟩:=e;let⟨u,r,v,d⟩:=o;cases l;have F:=DJ (st:=t.2) m k.2 k.1;have s:=NR.mp S.s t c;erw[Tb.sc,MJ,NB,Nz,OO,Pb,Ny,bne_iff_ne] at s;refine⟨⟨_,F⟩,⟨?_,s.1.1.1.1.1.2,s.1.1.1.1.2,s.1.1.1.2,s.1.1.2,s.1.2,s.2⟩,Binds.all λ n f=>?_⟩
 .have z:=s.1.1.1.1.1.1;unfold II at z;split at z
  .assumption
  .cases z
 .exact CG S b f
theorem tY(S:Stat p fns gl fz T)(m:T.map (λ t=>(K.lookup (t.a K)).map Obj.data)=T.map λ t=>some (.func (t.fd K)))(k:T.all (λ t=>PySem.W.keepIn K (.ref (t.a K))&&PySem.W.codeIn K (t.fd K).code (t.fd K).qualname)=true)
 {t:Tb} (e:T[i]?=some t):FD K p fns gl fz i t.x (t.a K) (t.fd K) t.ps:=by
 let⟨⟨q,F⟩,j,s⟩:=CH S m k e;have c:(qL (cB p ⟨t.N,t.nm,fns,gl,p.cs,fz⟩) (cj t.2)).map (Fn.mk t.ps.length t.N.length)=p.fns[i]?:=by
  have z:=OE (λ l=>l[i]?) S.c;erw[Pe,e,Oj] at z;cases f:p.fns[i]? with
  |none=>rw[f] at z;cases z
  |some d=>rw[f] at z;exact Nd z
 have g:i<p.fns.length:=by
  have z:=OE List.length S.c;erw[M0] at z;have:=(MG.mp e).1;omega
 rw[M9 g,ME] at c;let⟨b,r,n⟩:=c;exact⟨q,t.2,t.N,b,F,j,r,by rw[M9 g,<-n],s⟩
theorem qw{P:Params}:∀(a:List (Str×W)) (es:List DictEntry),PySem.W.KeysLit P (qu P a es)
 | [],_=>by unfold qu;rw[OZ];trivial
 |_::_,[]=>by unfold qu;rw[OZ];trivial
 |kv::r,e::es=>by
  unfold qu;rw[OZ];exact⟨⟨_,_,rfl,rfl⟩,qw r es⟩
theorem qA{P:Params}{x:Str}:∀(a:List (Str×W)) (es:List DictEntry),a.length=es.length->a.all (λ b=>KW b.2)=true->eO ((a.map λ b=>(b.1,vV b.2)).lookup x) (((qu P a es).find? λ e=>Value.isStrOf x e.key).map (·.val))
 | [],[],_,_=>trivial
 | [],_::_,h,_=>by simp at h
 |_::_,[],h,_=>by simp at h
 |(k,w)::r,e::es,h,hc=>by
  rw[QC,MJ] at hc;have d:=qA (P:=P) (x:=x) r es (~~~h) hc.2;unfold qu;rw[Ni,MT,OL];have j:Value.isStrOf x (Value.str k (Fg e.key))=(k==x):=rfl;erw[j]
  by_cases c:k=x
  .subst c;erw[BEq.rfl,Oj];cases w<;>first | exact⟨_,rfl⟩ | cases hc.1
  .have g:(x==k)=false:=by simpa using λ e=>c e.symm
   have f:(k==x)=false:=by simpa using c
   rw[g,f];exact d
theorem CI{J:List Addr}{H:Hp}:∀(a:List (Str×W)),a.all (λ b=>KW b.2)=true->fS K J H a (a.map λ b=>(b.1,vV b.2))
 | [],_=>.nil
 |(k,w)::r,hc=>by
  rw[QC,MJ] at hc;refine .cons ?_ (CI r hc.2);cases w<;>first | exact .int _ | exact .str _ | cases hc.1
theorem IP{w:World}(n:p.cs.dic.map (λ y=>K.lookup (ah K y.1))=p.cs.dic.map λ y=>some (IK K w.params y))(X:K.In h)(G:h.Ns mainGlobals mg)(S:Stat p fns gl fz T)(m:T.map (λ t=>(K.lookup (t.a K)).map Obj.data)=T.map λ t=>some (.func (t.fd K)))(v:FL K p fns gl T=true):FA K w mg p fns gl fz:=by
 erw[FL,MJ] at v;let⟨⟨⟨⟨⟨⟨⟨⟨l,L⟩,I⟩,F⟩,E⟩,D⟩,B⟩,A⟩,k⟩:=v;replace l:=l.2;have k:T.all (λ t=>PySem.W.keepIn K (.ref (t.a K))&&PySem.W.codeIn K (t.fd K).code (t.fd K).qualname)=true:=k;rw[OO] at l L I F E D B A;have P:∀{i:Nat} {t:Tb},T[i]?=some t->PySem.W.keepIn K (.ref (t.a K))=true:=λ Q=>(MN.mp (NR.mp k _ (Nm Q))).1;refine⟨λ x b=>PySem.W.mg_none_of X G (lg (l x b)),λ {x w} b=>?_,λ {x i np} b=>?_,λ {c x i} b=>?_,λ {c i} b=>?_,λ {c x} b=>?_,λ {x f} b=>?_,λ {x} b=>?_⟩
 .have z:=L _ (lookup_mem b);unfold Lx at z;split at z
  .ext i t e;split at z
   .ext j q;cases q;cases eq_of_beq z;exact⟨_,.int _,N2 X G e,⟨_,rfl⟩,λ _ _=>.int _⟩
   .cases z
  .ext i t e;split at z
   .ext j q;cases q;cases eq_of_beq z;exact⟨_,.str _,N2 X G e,⟨_,rfl⟩,λ _ _=>.str _⟩
   .cases z
  .cases z
 .let⟨t,g,rfl,d⟩:=oB (I _ (lookup_mem b));rw[MJ] at d;exact⟨t.a K,_,t.ps,eq_of_beq d.1,tY S m k g,N2 X G (eG d.2)⟩
 .have z:=F _ (ql b);rw[MJ] at z;let⟨t,g,rfl,d⟩:=oB z.2;rw[MJ] at d;exact⟨t.a K,_,t.ps,tY S m k g,sj z.1,eG d.1,d.2,P g⟩
 .have z:=E _ (lookup_mem b);erw[MJ] at z;let⟨t,g,U,d⟩:=oB z.2;rw[MJ] at d;exact⟨t.a K,_,t.ps,U▸tY S m k g,⟨z.1.1.1,eG d.1,d.2,z.1.1.2⟩,N2 X G (eG z.1.2)⟩
 .have z:=D _ (Oo.mp b);rw[MJ] at z;exact⟨sj z.1,lg z.2⟩
 .have u:=lookup_mem b;have z:=B _ u;erw[MJ,Ny,NB] at z;let⟨⟨⟨O,r⟩,N⟩,M⟩:=z;let⟨i,R⟩:=Qj u;have e:=se n R;refine⟨ah K x,f.map λ s=>(s.1,vV s.2),N2 X G (eG O),⟨⟨_,_,e,?_,λ y=>?_⟩,M⟩,fun J H=>CI f r⟩
  .exact qw _ _
  .unfold findBy;rw[find?_toArray];exact qA f _ N r
 .have z:=A _ (Oo.mp b);rw[MJ] at z;exact⟨N2 X G (eG z.1),Bk z.2⟩
theorem Bl{l:List α}{a:α}(h:l.head?=some a):l=a::l.tail:=by
 cases l with
 |nil=>cases h
 |cons b r=>cases h;rfl
theorem tZ{i:Option Value}(h:Fj K C=true)(a:tX K C=some i):XC K C (Bj K C) i:=by
 unfold Fj at h;split at h
 .ext o B;let⟨oc,Z,da,⟨w⟩⟩:=o;dsimp only at h;split at h
  .ext cd;let⟨A,F,g,z,y,hd,v,b,G,d,Y⟩:=cd;erw[MJ,Ny,Nz,NB] at h;let⟨⟨⟨⟨⟨⟨⟨⟨⟨U,S⟩,R⟩,E⟩,Q⟩,P⟩,O⟩,f⟩,N⟩,M⟩:=h;subst U Q P;have L:PySem.W.clsIn K C=some ⟨A,F,g,z,y,true,v,b,G,d,false⟩:=by unfold PySem.W.clsIn;rw[B]
   unfold tX at a;unfold Bj;rw[L] at a ⊢;dsimp only at a ⊢;obtain⟨s,m,l,k,j,rfl⟩:∃s m l k j,w=[s,m,l,k,@(.builtin "ValueError.__new__"),j]:=by
    rcases w with _ | ⟨a0,_ | ⟨a1,_ | ⟨a2,_ | ⟨a3,_ | ⟨a4,_ | ⟨a5,_ | ⟨a6,r⟩⟩⟩⟩⟩⟩⟩<;>simp at R;erw[getElem?_cons_succ,getElem?_cons_zero,Option.some.injEq] at E;exact⟨a0,a1,a2,a3,a5,by rw[E]⟩
   unfold PySem.W.nsOkIn at f;split at f
   .ext c' d' u I H D;have J:StrKeys u:=λ e c=>by
     have q:=Array.all_eq_true_iff_forall_mem.mp f e c;split at q
     .ext n t V;exact⟨n,t,V⟩
     .cases q
    refine⟨⟨A,y,z,F,v,b,G,d,Z,s,m,l,k,j,"ValueError","ValueError.__new__",_,_,λ x=>nsFind u x,?_,OA,by decide +kernel,?_,λ h X=>⟨⟨_,u,I,X _ _ D,rfl,J,λ _=>rfl⟩,PySem.W.tail_of_in X O⟩⟩,yQ M,N⟩
    .rw[B,Bl S];rfl
    .unfold PySem.W.nsIn at a;rw[D] at a;dsimp only at a;unfold nsFind findBy;dsimp only;rw[<-Array.find?_toList];split at a
     .ext e c;rw[c];exact Nd a
     .ext c;split at a
      .cases a
      .rw[c];exact Nd a
   .cases f
  .cases h
 .cases h
theorem IQ(X:K.In h)(G:h.Ns mainGlobals mg)(S:Stat p fns gl fz T)(B:T.map (λ t=>(K.lookup (t.a K)).map Obj.data)=T.map λ t=>some (.func (t.fd K)))(l:FL K p fns gl T=true):FZ K mg p fns:=by
 erw[FL,MJ] at l;let⟨⟨⟨⟨⟨⟨⟨⟨D,c2⟩,c3⟩,c4⟩,c5⟩,c6⟩,c8⟩,c9⟩,O⟩:=l;replace D:=D.1;have O:T.all (λ t=>PySem.W.keepIn K (.ref (t.a K))&&PySem.W.codeIn K (t.fd K).code (t.fd K).qualname)=true:=O;erw[IM,MJ] at D;let⟨⟨⟨⟨V,U⟩,R⟩,Q⟩,E⟩:=D;rw[OO] at V U R Q E;have N:∀{y:Str×Option Str},y∈p.z.cls->∃i,XC K (ah K y.1) (Bj K (ah K y.1)) i/\XG K (ah K y.1)/\PySem.W.nsIn K mainGlobals y.1=some @(.ref (ah K y.1))/\(y.2=none->i=none)/\∀f,y.2=some f->∃t,t∈T/\i=some (.ref (t.a K))/\PySem.W.typeIn K (.ref (t.a K))=some (.type "function")/\PySem.W.findIn K (.ref (ah K y.1)) f=some none/\yP t f=true:=λ {y} hy=>by
  have q:=R _ hy;unfold Ly at q;erw[MJ] at q;let⟨⟨⟨⟨⟨A,u⟩,r⟩,J⟩,I⟩,b⟩:=q;have m:XG K (ah K y.1):=⟨oA r,lg J,oA I⟩;split at b
  .ext e;exact⟨none,tZ A (eq_of_beq b),m,eG u,λ _=>rfl,λ f B=>by rw[e] at B;cases B⟩
  .ext f e;let⟨t,L,n⟩:=List.any_eq_true.mp b;erw[MJ,Ny] at n;refine⟨some (.ref (t.a K)),tZ A (eG n.1.1.1),m,eG u,λ z=>(by rw[e] at z;cases z),λ g hg=>?_⟩;rw[e] at hg;cases hg;exact⟨t,L,rfl,n.1.1.2,lg n.1.2,n.2⟩
 refine⟨λ {x v} d=>?_,λ {x i} d=>?_,λ {x M} d=>?_,λ {x M cs} d hs c l=>?_,λ {t cs} hs=>⟨?_,λ {c M} l=>?_⟩,λ {c M} hm=>?_⟩
 .exact eq_of_beq (V _ (lookup_mem d))
 .exact eq_of_beq (U _ (lookup_mem d))
 .let⟨i,k,m,A,u,r⟩:=N (lookup_mem d);refine⟨N2 X G A,λ e=>⟨_,u e▸k⟩,λ f e=>?_⟩;let⟨t,L,rfl,J,I,b⟩:=r f e;let⟨j,hj⟩:=Qj L;let⟨⟨qn,F⟩,H,bd⟩:=CH S B O hj;unfold yP at b;split at b
  .ext s p1 g p2 v p3 p4 e1;erw[MJ,Ny,NB] at b;let⟨⟨⟨⟨Y,y2⟩,y3⟩,y4⟩,y5⟩:=b;subst y3;rw[Y,y2] at H;let⟨a1,a2,_⟩:=bx y4;let⟨b1,b2,_⟩:=bx y5;have Z:∀x∈[s,v],BA (aE t.2) x:=λ x d=>(H.par x d).elim .inl λ z=>.inr (.inl z);refine⟨_,t.a K,t.fd K,[s,v],k,J,λ P w base=>?_,by rw[<-Y];exact bd,rfl⟩;exact Aw F H e1 k I (Z s (.head _)) (Z v (.tail _ (.head _))) a1 a2 b1 b2 λ env=>iM rfl
  .cases b
 .have q:=Q _ (lookup_mem d);dsimp only at q;rw[hs,PY] at q;have q:=NR.mp q c (Oo.mp l);rw[MJ] at q;let⟨fo',e⟩:=N8.mp q.1;let⟨i,k,_⟩:=N (lookup_mem e);exact⟨_,i,k,q.2⟩
 .have q:=(MN.mp (E _ (lookup_mem hs))).1;dsimp only at q;unfold pA;split at q
  .ext e;rw[MW e,e];exact .inr ⟨PySem.W.mg_none_of X G (lg (e▸q)),by decide +kernel⟩
  .ext e;rw[M8 e];exact .inl (N2 X G (eG q))
 .exact eq_of_beq (NR.mp (MN.mp (E _ (lookup_mem hs))).2 _ (lookup_mem l))
 .let⟨i,k,m,_,u,r⟩:=N hm;exact⟨_,i,k,m,λ f e=>let ⟨_,_,_,_,q,_⟩:=r f e;q⟩
theorem IT{l:PySem.W.OpenLaw}{w:World}{k:Addr}{x:Str}{t:Tb}(X:K.In h)(G:h.Ns mainGlobals mg)(A:mg "law"=@(.ref k))(S:Stat p fns gl fz T)(n:fns.lookup ("law":Str)=some (i,1))(d:T[i]?=some t)(c:t.ps=[x])
  (e:T.map (λ t=>(K.lookup (t.a K)).map Obj.data)=T.map λ t=>some (.func (t.fd K))) (g:FL K p fns gl T=true) (f:p.cs.dic.map (λ y=>K.lookup (ah K y.1))=p.cs.dic.map λ y=>some (IK K w.params y)) :
  ∃j:FuncData,(∀(s:Shared) (v:Value),BindsTo s j ⟨[v],[]⟩ [(x,v)])/\∀base:Heap,K.In base->base.Ns mainGlobals mg->bQ l.prog w K mg base (vK l.prog w) 81 k j [x] (sY K ⟨l.prog,w⟩ 1 (runN p 40 i)):=by
 have b:=g;erw[FL,MJ] at b;let⟨⟨⟨⟨⟨⟨⟨⟨M,L⟩,u⟩,J⟩,I⟩,H⟩,F⟩,E⟩,r⟩:=b;let⟨B,q,D,m⟩:=oB (NR.mp u _ (lookup_mem n));cases d.symm.trans q;rw[MJ] at m;cases A.symm.trans (N2 X G (eG m.2));have z:=tY S e r d;rw[c] at z;refine⟨t.fd K,λ s v=>.of_eq ?_,λ base _ _=>sound (IP f X G S e g)
  (IQ X G S e g)
  40 z⟩
 have z:=CG (K:=K) S d (us:=[v]) (by rw[c];rfl);rw[c] at z;exact z
end D
end
section
namespace D
open PySem List
variable{m:Mem}{n:Nat}{xs:List W}
abbrev eK(A B:Int):O:=.lst [.int A,.int B]
def iU(m:Mem)(p:Nat):Prop:=∃A B,m[p]?=@(eK A B)
def PS(p:Nat)(m a:Mem):Prop:=∃A B,a=m.set p (eK A B)
section
variable{m m' Lz:Mem}{p q:Nat}
theorem iU.refl(h:iU m p):PS p m m:=let ⟨A,B,e⟩:=h;⟨A,B,(set_same e).symm⟩
theorem PS.trans(h:PS p m m')(h':PS p m' Lz):PS p m Lz:=by
 let⟨A,B,rfl⟩:=h;let⟨b,a,rfl⟩:=h';exact⟨b,a,by rw[Pn]⟩
theorem PS.len(h:PS p m m'):m'.length=m.length:=by let⟨A,B,rfl⟩:=h;simp
theorem PS.eK(h:PS p m m')(a:iU m p):iU m' p:=by
 let⟨A,B,rfl⟩:=h;let⟨c,b,e⟩:=a;exact⟨A,B,Nb (MG.mp e).1⟩
theorem PS.cm(h:PS p m m')(a:Cm m):Cm m':=by let⟨A,B,rfl⟩:=h;exact a.set rfl
theorem PS.ne(h:PS p m m')(a:p≠q):m'[q]?=m[q]?:=by let⟨A,B,rfl⟩:=h;exact M7 a
theorem iU.lt(h:iU m p):p<m.length:=let ⟨_,_,e⟩:=h;(MG.mp e).1
theorem iU.app{l:Mem}(h:iU m p):iU (m++l) p:=let ⟨A,B,e⟩:=h;⟨A,B,by rw[ML (MG.mp e).1];exact e⟩
end
def Draws(f:List W->Mem->R W):Prop:=∀{m:Mem} {p:Nat} {a:Int},iU m p->0<a->a<1073741824->∃d b,f [.ref p,.int a] m=.ok (.int d) b/\PS p m b/\0<=d/\d<a
theorem lq{C:Cx}{f:Nat}{get:Mem->Nat->Nx}{i:Nat}{e:E}{Z:Loc}{p:Nat}{P:W->Prop}(u:iU m p)(z:∀m j,j<n->∃x,get m j=.it x)(A:∀m,get m n=.fin)(G:n<=lim)
  (B:∀x m1,PS p m m1->∃w m2,ao C e (Z.set i (some x)) m1=.ok w m2/\PS p m1 m2/\P w) :
  ∃ws b d,bS get (.var i) (fun Z m=>aZ C .nil Z m) (fun Z m a=>gr C (.elt e) Z m a) n 0 Z m []=.ok (ws,b) d/\PS p m d/\ws.length=n/\∀w∈ws,P w:=by
 let⟨a,b,d,l,q,g,k,h⟩:=bY (get:=get) (t:=.var i) (test:=fun Z m=>aZ C .nil Z m) (body:=fun Z m a=>gr C (.elt e) Z m a) (n:=n)
  (λ j r m1 a=>(∀o,r.set i o=Z.set i o)/\PS p m m1/\a.length=j/\∀w∈a,P w) (λ j r m1 a v=>by
   rintro⟨q,g,k,h⟩;let⟨x,s⟩:=z m1 j v;let⟨w,m2,l,F,D⟩:=B x m1 g;refine⟨x,Z.set i (some x),s,by erw[aA,q],.inl ⟨m1,a++[w],Z.set i (some x),m2,by erw[bX],?_,λ o=>by simp,g.trans F,by simp[k],λ y c=>?_⟩⟩
   .have:a.length<lim:=by omega
    erw[gv,l,R.bind,this,Nf]
   .rcases Nc.mp c with c | c
    .exact h y c
    .rw[Nu] at c;subst c;exact D) (fun Z m a _=>A m) n 0 Z m [] 'o' ⟨λ _=>rfl,u.refl,rfl,by simp⟩
 exact⟨a,b,d,l,g,k,h⟩
theorem su(x:Str)(h:1<=x.cps.size):Txt.slice x (some 1) none=⟨(x.cps.toList.drop 1).toArray⟩:=by
 show PySem.StrLaws.sliceText x (some 1) none=_;rw[PySem.StrLaws.sliceText_from ⟨by omega,by simp;omega⟩];simp;exact PL 's'
theorem nk{b:Type}[DecidableEq b]:∀{l k:List b},l.Nodup->(∀x∈l,x∈k)->l.length<=k.length
 | [],_,_,_=>N7 _
 |x::l,k,hn,h=>by
  have d:=h x Nk;have a:=OJ.mp hn;have:=nk (l:=l) (k:=k.erase x) a.2 λ y c=>(mem_erase_of_ne (λ z=>by subst z;exact a.1 c)).mpr (h y (M3 _ c));rw[length_erase_of_mem d] at this;have:0<k.length:=length_pos_of_mem d;simp;omega
theorem oE{z:Str}(h:z.cps.all (· < 0x110000)=true):toD (n+1) m (.str z)=some (.str z):=by erw[toD,h,Nf]
theorem nq:∀{ws:List Str},(∀z∈ws,z.cps.all (· < 0x110000)=true)->dH (toD (n+1) m) (ws.map .str)=@(ws.map PyData.str)
 | [],_=>rfl
 |z::r,h=>by
  erw[Ni,dH,oE (h z Nk),nq λ y a=>h y (M3 _ a)]
theorem Bm(a b:Str):PyData.eqv (.str a) (.str b)=decide (a=b):=by
 erw[PyData.eqv]
 by_cases h:a=b<;>simp[h]
theorem qB{z:Str}{ws:List Str}(a:z.cps.all (· < 0x110000)=true)(hw:∀z∈ws,z.cps.all (· < 0x110000)=true):jA m (.str z) (ws.map .str)=.ok (decide (z∈ws)) m:=by
 erw[jA,oE a,nq hw];congr 1;rw[Qs]
 induction ws with
 |nil=>simp
 |cons y r b=>
  have:=b λ z a=>hw z (M3 _ a);erw[OG,Function.comp,Bm,OH] at this ⊢;rw[this]
  by_cases h:z=y
  .subst h;simp
  .have c:¬y=z:=λ e=>h e.symm;simp[h,c]
theorem yS:toD (n+1) m (.fz xs)=(dH (toD n m) xs).map .list:=Eq.trans rfl rfl
theorem Bo:toD (n+1) m (.tup xs)=(dH (toD n m) xs).map .tuple:=Eq.trans rfl rfl
theorem Bp{a:Nat}(h:m[a]?=@(.lst xs)):toD (n+1) m (.ref a)=(dH (toD n m) xs).map .list:=by
 erw[toD,getL,h]
theorem yT{w:W}(h:getL m w=some xs):toD (n+1) m w=(dH (toD n m) xs).map .list:=by
 cases w with
 |ref a=>
  erw[getL] at h;split at h
  .ext b e;cases h;exact Bp e
  .cases h
 |fz b=>cases h;exact yS
 |_=>cases h
theorem jj{k:Nat}:∀ns:List Int,dH (toD (k+1) m) (ns.map .int)=@(ns.map PyData.int)
 | []=>rfl
 |a::r=>by erw[Ni,dH,jj r];rfl
theorem t7{x y:W}{d:PyData}(a:toD 60 m x=some d)(b:toD 60 m y=some d):uR m x y=.ok true m:=by
 erw[uR,a,b,PySem.SeqAt.eqv_refl d (ck _ a).1]
end D
end
section
namespace My
open PySem L2 D List
def Fl:Ss:=%[.ife (.or (.not (.call 1 %[|@3])) (.cmp .In @3 @1)) %[|.ret @2] .nil,|.expr (.meth @1 "add" %[|@3])]
def b0:Ss:=%[.asg (.pt @1) .set0,.for_ (.tup %[@2,|@3]) (.enm @0) Fl,|.ret (.cst .non)]
def b1:Ss:=%[|.ret (.and (.chain .LtE .LtE @(1) (.blt .len %[|@0]) @(8)) (.blt .all %[|.frz (.comp (.gen @1 [1] @0 .nil (.elt (.chain .LtE .LtE (.cst (.str "a")) @1 (.cst (.str "z"))))))]))]
def b2:Ss:=%[.xc .drop .none 8 %[@1,@2,@3,@4,|@5],.fas @0 "key_list" (.frz (.blt .list %[|@1])),.fas @0 "state_list" (.frz (.blt .list %[|@2])),.fas @0 "lamp_list" (.frz (.blt .list %[|@3])),.fas @0 "row_list" (.frz (.comp (.gen @6 [6] @4 .nil (.elt (.blt .tuple %[|@6]))))),|.fas @0 "light_list" (.frz (.blt .list %[|@5]))]
def b3:Ss:=%[|.ret (.frz (.blt .list %[|.fld @0 "state_list"]))]
def b4:Ss:=%[|.ret (.frz (.blt .list %[|.fld @0 "lamp_list"]))]
def b5:Ss:=%[|.ret (.idx (.idx (.fld @0 "row_list") @1) @2)]
def b6:Ss:=%[|.ret (.idx (.fld @0 "light_list") @1)]
def b7:Ss:=%[|.ret (.bin .LShift @(1) (.blt .len %[|@0]))]
def b8:Ss:=%[.asg (.pt @5) (.call 0 %[|.frz (.bin .Add (.bin .Add @0 @1) @2)]),.ife (.cmp .IsNot @5 (.cst .non)) %[|.rais "NoTable" (.some "fault") (.tup %[.cst (.str "words"),|@5])] .nil,.xc .drop .none 9 %[@0,@1,|@2],.xc .drop .none 10 %[.cst (.str "row"),@3,.blt .len %[|@1],.call 7 %[|@0],|.blt .len %[|@1]],.xc .drop .none 10 %[.cst (.str "lights"),@4,.blt .len %[|@1],.blt .len %[|@2],|@(2)],|.xc .drop .none 11 %[|@3]]
def b9:Ss:=%[.ife (.cmp .Gt (.blt .len %[|@0]) @(2)) %[|.rais "NoTable" (.some "fault") (.tup %[.cst (.str "many"),|@(0)])] .nil,.ife (.not (.chain .LtE .LtE @(2) (.blt .len %[|@1]) @(4))) %[|.rais "NoTable" (.some "fault") (.tup %[.cst (.str "many"),|@(1)])] .nil,|.ife (.cmp .Gt (.blt .len %[|@2]) @(2)) %[|.rais "NoTable" (.some "fault") (.tup %[.cst (.str "many"),|@(2)])] .nil]
def t8:Ss:=%[|.ife (.or (.cmp .GtE @5 (.blt .len %[|@1])) (.or (.cmp .NotEq (.blt .len %[|.idx @1 @5]) @3) (.not (.blt .all %[|.frz (.comp (.gen @6 [6] (.idx @1 @5) .nil (.elt (.chain .LtE .Lt @(0) @6 @4))))])))) %[|.rais "NoTable" (.some "fault") (.tup %[@0,|@5])] .nil]
def Jt:Ss:=%[.for_ @5 (.rng @2) t8,|.ife (.cmp .Gt (.blt .len %[|@1]) @2) %[|.rais "NoTable" (.some "fault") (.tup %[@0,|@2])] .nil]
def t9:Ss:=%[|.ife (.blt .any %[|.frz (.comp (.gen (.tup %[@3,|@4]) [3,4] (.enm @2) .nil (.elt (.cmp .NotEq (.idx (.idx @0 @4) @3) @4))))]) %[|.rais "NoTable" (.some "fault") (.tup %[.cst (.str "unsettled"),|@1])] .nil]
def Ju:Ss:=%[|.for_ (.tup %[@1,|@2]) (.enm @0) t9]
def Jv:Ss:=%[.asg (.pt @2) (.ife (.cmp .Lt @1 (.blt .len %[|@0])) (.idx @0 @1) @(0)),|.ret (.lst %[.blt .max %[@(0),|.bin .Sub (.blt .abs %[|@2]) (.bin .Pow @(10) @(18))],|.bin .Add (.bin .Add (.bin .Mod (.blt .abs %[|@2]) @(2147483587)) (.bin .Mult @(31) @1)) @(5)])]
def KZ:Ss:=%[.ife (.cmp .Gt (.idx @0 @(0)) @(0)) %[.asg (.tup %[.sub @0 @(0),|.pt @2]) (.blt .divmod %[.idx @0 @(0),|@1]),|.ret @2] .nil,.asg (.sub @0 @(1)) (.bin .Mod (.bin .Add (.bin .Mult (.idx @0 @(1)) @(48271)) @(3571)) @(2147483647)),|.ret (.bin .Mod (.bin .FloorDiv (.bin .Mod (.bin .Mult (.idx @0 @(1)) (.idx @0 @(1))) @(2147483629)) @(13)) @1)]
def qC:Ss:=%[|.ife (.cmp .In @3 @1) %[|.asg (.pt @3) (.bin .Add (.idx @2 (.bin .Mod (.bin .Add (.meth @2 "index" %[|.idx @3 @(0)]) @(1)) @(26))) (.slc @3 (.some @(1)) .none))] .nil]
def Jw:Ss:=%[.asg (.pt @2) (.cst (.str "abcdefghijklmnopqrstuvwxyz")),.asg (.pt @3) (.meth (.cst (.str "")) "join" %[|.frz (.comp (.gen @5 [5] (.rng (.bin .Add @(1) (.call 13 %[@0,|@(8)]))) .nil (.elt (.idx @2 (.call 13 %[@0,|@(26)])))))]),.for_ @4 (.rng @(26)) qC,.expr (.meth @1 "append" %[|@3]),|.ret @3]
def Jx:Ss:=%[|.ret (.frz (.comp (.gen @3 [3] (.rng @1) .nil (.elt (.call 14 %[@0,|@2])))))]
def ua:Ss:=%[|.expr (.meth (.idx @4 @3) "append" %[|.ife (.cmp .In @3 @6) @3 (.idx @6 (.call 13 %[@0,|.blt .len %[|@6]]))])]
def yU:Ss:=%[.asg (.pt @6) (.frz (.comp (.gen @3 [3] (.rng @1) %[|.cmp .Eq (.call 13 %[@0,|@(2)]) @(1)] (.elt @3)))),.ife (.cmp .Eq @6 (.frz (.lst .nil))) %[|.asg (.pt @6) (.frz (.lst %[|.call 13 %[@0,|@1]]))] .nil,|.for_ @3 (.rng @1) ua]
def Jy:Ss:=%[.asg (.pt @4) (.comp (.gen @3 [3] (.rng @1) .nil (.elt (.lst .nil)))),.for_ @5 (.rng @2) yU,|.ret @4]
def Jz:Ss:=%[.asg (.pt @1) (.lst .nil),.asg (.pt @2) (.frz (.call 15 %[@0,.call 13 %[@0,|@(3)],|@1])),.asg (.pt @3) (.frz (.call 15 %[@0,.bin .Add @(2) (.call 13 %[@0,|@(3)]),|@1])),.asg (.pt @4) (.frz (.call 15 %[@0,.call 13 %[@0,|@(3)],|@1])),.asg (.pt @5) (.frz (.call 16 %[@0,.blt .len %[|@3],|.bin .LShift @(1) (.blt .len %[|@2])])),|.ret (.frz (.lst %[@2,@3,@4,@5,|.frz (.comp (.gen @6 [6] @3 .nil (.elt (.blt .tuple %[|.frz (.comp (.gen @7 [7] @4 .nil (.elt (.call 13 %[@0,|@(2)]))))]))))]))]
def JA:Ss:=%[|.ret (.lst %[.frz (.blt .list %[|.idx @0 @(0)]),.frz (.blt .list %[|.idx @0 @(1)]),.frz (.blt .list %[|.idx @0 @(2)]),.comp (.gen @1 [1] (.idx @0 @(3)) .nil (.elt (.blt .list %[|@1]))),|.frz (.blt .list %[|.idx @0 @(4)])])]
def JB:Ss:=%[|.ret (.and (.chain .LtE .LtE @(1) (.blt .len %[|@0]) @(8)) (.blt .all %[|.frz (.comp (.gen @1 [1] @0 .nil (.elt (.cmp .In @1 (.cst (.str "abcdefghijklmnopqrstuvwxyz"))))))]))]
def uc:Ss:=%[|.ife (.or (.cmp .GtE @4 (.blt .len %[|@1])) (.or (.cmp .NotEq (.blt .len %[|.idx @1 @4]) @2) (.blt .any %[|.frz (.comp (.gen @5 [5] (.idx @1 @4) .nil (.elt (.not (.chain .LtE .Lt @(0) @5 @3)))))]))) %[|.ret @4] .nil]
def JC:Ss:=%[.for_ @4 (.rng @0) uc,|.ret (.ife (.cmp .Gt (.blt .len %[|@1]) @0) @0 (.cst .non))]
def ud:Ss:=%[|.ife (.or (.not (.call 19 %[|@8])) (.cmp .In @8 (.frz (.slc @6 .none (.some @7))))) %[|.ret (.tup %[.cst (.str "words"),|@7])] .nil]
def qD:Ss:=%[|.ife (.not (.chain .LtE .LtE @9 (.blt .len %[|.idx @0 @7]) @10)) %[|.ret (.tup %[.cst (.str "many"),|@7])] .nil]
def nu:Ss:=%[.asg (.pt @14) (.call 20 %[.blt .len %[|@2],@11,@12,|@13]),|.ife (.cmp .IsNot @14 (.cst .non)) %[|.ret (.tup %[@8,|@14])] .nil]
def ue:Ss:=%[|.ife (.blt .any %[|.frz (.comp (.gen (.tup %[@16,|@17]) [16,17] (.enm @15) .nil (.elt (.cmp .NotEq (.idx (.idx @4 @17) @16) @17))))]) %[|.ret (.tup %[.cst (.str "unsettled"),|@14])] .nil]
def JD:Ss:=%[.asg (.tup %[.pt @1,.pt @2,.pt @3,.pt @4,|.pt @5]) @0,.asg (.pt @6) (.frz (.bin .Add (.frz (.bin .Add @1 @2)) @3)),.for_ (.tup %[@7,|@8]) (.enm @6) ud,.for_ (.tup %[@7,@9,|@10]) (.frz (.lst %[.tup %[@(0),@(0),|@(2)],.tup %[@(1),@(2),|@(4)],|.tup %[@(2),@(0),|@(2)]])) qD,.for_ (.tup %[@8,@11,@12,|@13]) (.frz (.lst %[.tup %[.cst (.str "row"),@4,.bin .LShift @(1) (.blt .len %[|@1]),|.blt .len %[|@2]],|.tup %[.cst (.str "lights"),@5,.blt .len %[|@3],|@(2)]])) nu,.for_ (.tup %[@14,|@15]) (.enm @4) ue,|.ret (.cst .non)]
def Fo:Ss:=%[.asg (.pt @1) (.cst .non),.tr %[|.xc .drop (.some "Table") 2 %[.idx @0 @(0),.idx @0 @(1),.idx @0 @(2),.idx @0 @(3),|.idx @0 @(4)]] ["NoTable","RelayError"] (.some 2) %[.asg (.pt @1) (.cst (.str "another")),.asg (.pt @3) (.fus (.isx [("NoTable",false),("RelayError",false)]) @2),.asg (.pt @4) (.fus (.isx [("NoTable",false),("RelayError",false)]) @2),|.ife (.and (.fus (.isx [("NoTable",true),("RelayError",false)]) @2) (.and (.fus (.isx [("NoTable",true),("RelayError",true)]) @2) (.and (.not @3) (.not @4)))) %[|.asg (.pt @1) (.fus (.xfl "fault" ["NoTable"]) @2)] .nil],|.ret @1]
def yV:Ss:=%[|.ife (.cmp .NotEq (.frz (.comp (.gen @4 [4] (.rng (.blt .len %[|@3])) .nil (.elt (.mth @1 "goes" %[@2,|@4]))))) @3) %[|.ret (.cst (.bl false))] .nil]
def JE:Ss:=%[.asg (.pt @1) (.frz (.make "Table" %[.idx @0 @(0),.idx @0 @(1),.idx @0 @(2),.idx @0 @(3),|.idx @0 @(4)])),.for_ (.tup %[@2,|@3]) (.enm (.idx @0 @(3))) yV,|.ret (.cst (.bl true))]
def JF:Ss:=%[.asg (.pt @4) (.call 18 %[|@0]),.asg (.pt @5) (.idx (.idx @4 @(3)) @1),.asg (.sub @5 @2) @3,.asg (.pt @6) (.call 21 %[|@4]),.ife (.cmp .NotEq (.call 22 %[|@4]) @6) %[|.ret (.cst (.bl false))] .nil,|.ret (.or (.cmp .IsNot @6 (.cst .non)) (.call 23 %[|@4]))]
def uf:Ss:=%[|.ife (.not (.call 24 %[@2,@3,@4,|@5])) %[|.ret (.cst (.bl false))] .nil]
def ug:Ss:=%[|.for_ @5 (.rng2 (.neg @(1)) (.bin .Add (.blt .len %[|.idx @2 @(1)]) @(1))) uf]
def yW:Ss:=%[|.for_ @4 (.rng (.bin .LShift @(1) (.blt .len %[|.idx @2 @(0)]))) ug]
def uh:Ss:=%[.asg (.pt @2) (.frz (.call 17 %[|.call 12 %[@0,|@1]])),|.for_ @3 (.rng (.blt .len %[|.idx @2 @(1)])) yW]
def JG:Ss:=%[.for_ @1 (.rng (.blt .max %[@(1),|.blt .min %[.blt .len %[|@0],|@(2)]])) uh,|.ret (.cst (.bl true))]
def Mm:Ss:=%[|.fas @0 "fault" @1]
def fe(x:Str)(i n:Nat):Str×(Nat×Nat):=(x,(i,n))
def fns:List (Str×(Nat×Nat)):=[fe "first_wrong_word" 0 1,fe "is_word" 1 1,fe "count_letters" 7 1,fe "check_table" 8 5,fe "check_many" 9 3,fe "check_each" 10 5,fe "check_settled" 11 1,fe "_law_pot" 12 2,fe "_law_draw" 13 2,fe "_law_word" 14 2,fe "_law_words" 15 3,fe "_law_rows" 16 3,fe "_law_table" 17 1,fe "_law_copy" 18 1,fe "_law_is_word" 19 1,fe "_law_misfit" 20 4,fe "_law_fault" 21 1,fe "_law_outcome" 22 1,fe "_law_goes_so" 23 1,fe "_law_changed_right" 24 4,fe "law" 25 1]
def gl:List (Str×W):=[("MOST_SIGNS",(.int 8)),("MOST_KEYS",(.int 2)),("MOST_LAMPS",(.int 2)),("LEAST_STATES",(.int 2)),("MOST_STATES",(.int 4))]
def fz:List Pos:=[⟨47,48,47,85⟩,⟨55,24,55,34⟩,⟨56,26,56,38⟩,⟨57,25,57,36⟩,⟨58,24,58,52⟩,⟨59,26,59,38⟩,⟨65,15,65,36⟩,⟨68,15,68,35⟩,⟨81,29,81,50⟩,⟨97,63,97,106⟩,⟨103,15,103,59⟩,⟨117,29,117,126⟩,⟨120,43,120,55⟩,⟨124,11,124,80⟩,⟨128,20,128,95⟩,⟨129,24,129,26⟩,⟨130,24,130,61⟩,⟨136,16,136,82⟩,⟨137,18,137,88⟩,⟨138,17,138,83⟩,⟨139,21,139,84⟩,⟨140,11,140,157⟩,⟨140,64,140,156⟩,⟨140,71,140,128⟩,⟨142,12,142,30⟩,⟨142,32,142,50⟩,⟨142,52,142,70⟩,⟨142,119,142,137⟩,⟨144,44,144,114⟩,⟨147,82,147,154⟩,⟨152,22,152,45⟩,⟨152,22,152,58⟩,⟨154,65,154,89⟩,⟨156,41,156,74⟩,⟨159,60,159,169⟩,⟨164,15,164,108⟩,⟨179,22,179,97⟩,⟨181,11,181,84⟩,⟨194,20,194,61⟩]
def cs:Cs:=⟨[("Table","key_list"),("Table","state_list"),("Table","lamp_list"),("Table","row_list"),("Table","light_list")],[(("Table","states"),3),(("Table","lamps"),4),(("Table","goes"),5),(("Table","lights"),6)],[("Table",2)],[],[]⟩
def zz:Cz:=⟨[fe "check_table" 8 5,fe "check_many" 9 3,fe "check_each" 10 5,fe "check_settled" 11 1],[("Table",2)],[("NoTable",some "fault"),("RelayError",none)],[("RelayError",["NoTable","RelayError"]),("NoNet",[]),("NoText",[]),("NoNames",[]),("NoName",[]),("NoPiece",[]),("NoPosition",[]),("NoState",[]),("NotResting",[]),("Raced",[]),("NotSure",[]),("NoTable",["NoTable"]),("ValueError",["NoTable","RelayError"])]⟩
def fuel:Nat:=1000
def pg:Pg:=⟨[⟨1,4,b0⟩,⟨1,2,b1⟩,⟨6,7,b2⟩,⟨1,1,b3⟩,⟨1,1,b4⟩,⟨3,3,b5⟩,⟨2,2,b6⟩,⟨1,1,b7⟩,⟨5,6,b8⟩,⟨3,3,b9⟩,⟨5,7,Jt⟩,⟨1,5,Ju⟩,⟨2,3,Jv⟩,⟨2,3,KZ⟩,⟨2,6,Jw⟩,⟨3,4,Jx⟩,⟨3,7,Jy⟩,⟨1,8,Jz⟩,⟨1,2,JA⟩,⟨1,2,JB⟩,⟨4,6,JC⟩,⟨1,18,JD⟩,⟨1,5,Fo⟩,⟨1,5,JE⟩,⟨4,7,JF⟩,⟨1,6,JG⟩,⟨2,2,Mm⟩],cs,fuel,zz⟩
def tf(i:Nat):Tb:=("",top i)
def tm(c:Str)(i j:Nat):Tb:=(c,inClass (top i) j)
def K0:List Tb:=[tf 18,tf 19,tm "Table" 23 0,tm "Table" 23 2,tm "Table" 23 3,tm "Table" 23 5,tm "Table" 23 6,tf 24,tf 25,tf 26,tf 27,tf 28,tf 30,tf 31,tf 32,tf 33,tf 34,tf 35,tf 36,tf 37,tf 38,tf 39,tf 40,tf 41,tf 42,tf 43,tm "NoTable" 5 0]
theorem stat:Stat pg fns gl fz K0:=⟨by kernel_rfl,by kernel_rfl,by kernel_rfl⟩
end My
end
section
namespace My
open PySem D List
theorem lN{b:Type}{a:b}{l:List b}:(a::l)[0]?=some a:=rfl
theorem lO{b:Type}{a:b}{l:List b}{i:Nat}:(a::l)[i+1]?=l[i]?:=rfl
theorem lP{b:Type}{x a:b}{l:List b}:(x::l).set 0 a=a::l:=rfl
theorem lQ{b:Type}{x a:b}{l:List b}{n:Nat}:(x::l).set (n+1) a=x::l.set n a:=rfl
variable{L:List (List Int)}{M m:Mem}{b d i many n p tp width:Nat}{bound:Int}{c z:Str}{ks ls ss ws:List Str}{CJ rws xs:List W}{ns:List Int}{o:O}{o3 o4 o5:Option W}{r iS s t:W}{Z:D.Loc}
structure Wd(z:Str):Prop where
 lo:1<=z.cps.size
 hi:z.cps.size<=8
 az:∀c∈z.cps.toList,97<=c/\c<=122
theorem lR(z:Str):z.length=z.cps.size:=rfl
theorem Wd.asc(h:Wd z):L2.asc z=true:=by
 unfold L2.asc;rw[Array.all_eq_true];intro i a;have:=h.az z.cps[i] 's';simp;omega
theorem Mn{c:Nat}(h:97<=c/\c<=122):aD .LtE (.str "a") (.str ⟨#[c]⟩)=λ m=>.ok true m:=by
 funext m;have:¬[c] < [97]:=by simp[cons_lt_cons_iff];omega
 simp[aD];exact this
theorem leZ{c:Nat}(h:97<=c/\c<=122):aD .LtE (.str ⟨#[c]⟩) (.str "z")=λ m=>.ok true m:=by
 funext m;have:¬[122] < [c]:=by simp[cons_lt_cons_iff];omega
 simp[aD];exact this
theorem Bq(h:Wd z):D.runN pg (n+1) 1 [.str z] []=.ok (.bl true) []:=by
 refine bO (d:=⟨1,2,b1⟩) rfl rfl ?_;show aC _ b1 [@(.str z),none] []=_;have q:cN (Cn pg n) @0 [@(.str z),none] []=.ok (.tup (signs z)) []:=by simp[jv,jw,ko,kq,pJ,pK,pL,pM,pN,pO,pP,kr,ia,iF,pQ,bg,bG,dW,gX,ef,dX,gR,dJ,bC,dg,dY,dM,dN,er,fh,bT,eU,bN,cR,cH,iD,bZ,iE,cz,fj,gu,R.bind,mG,xq,h.asc]
 let⟨j,f⟩:=comp_map (C:=Cn pg n) (i:=1) (e:=.chain .LtE .LtE (.cst (.str "a")) @1 (.cst (.str "z"))) (Z:=[@(.str z),none]) (m:=[]) (xs:=signs z) (g:=λ _=>.bl true) (λ x a=>by
  let⟨c,f,rfl⟩:=Nj.mp a;have:=h.az c f;simp[bg,bG,dW,gX,ef,dX,gR,dJ,bC,dg,dY,dM,dN,er,fh,bT,eU,bN,cR,cH,iD,bZ,iE,cz,fj,gu,R.bind,Mn this,leZ this]) (by have:=h.hi;simp[signs,lim];omega)
 have k:=bw (C:=Cn pg n) (m:=[]) (m0:=[]) (cY (js:=[1]) (ifs:=.nil) q f) rfl Cm.nil (by rw[tW];exact ir.mpr λ x a=>by rw[(List.mem_replicate.mp a).2];rfl);rw[b1,aU (bz (w:=.bl true) (m1:=[]) ?_)];have y:(1:Int)<=z.length:=by have:=h.lo;rw[lR];omega
 have v:(z.length:Int)<=8:=by have:=h.hi;rw[lR];omega
 have u:z.length<=lim:=by have:=h.hi;rw[lR];simp[lim];omega
 have l:bools ((signs z).map λ _=>W.bl true)=some (List.replicate (signs z).length true):=by rw[tW];exact k8 _
 simp[bg,bG,dW,ef,dX,gR,dJ,bC,dg,dY,dM,dN,er,cu,bT,eU,bN,cR,cH,ji,bZ,jh,cz,aX,aH,g8,g9,aT,bA,u,aD,y,v,k,getL,l]
theorem vB(h:z∉ws):j9 (.inr z) (ws.map Sum.inr)=false:=by
 erw[j9,Qs,OY];rw[any_eq_false];intro x a;erw[Nz,Sum.inr.injEq];rintro rfl;exact h a
theorem jk(hw:∀z∈ws,Wd z)(q:ws.Nodup)(E:ws.length<=100):aL (D.runN pg (n+1+1) 0) [.fz (ws.map .str)] M=.ok .non M:=by
 have x:cN (Cn pg (n+1)) (.enm @0) [@(.fz (ws.map .str)),@(.ref 0),none,none] [.set []]=.ok (.enm (.tup (ws.map .str))) [.set []]:=by simp[jv,jw,ko,kq,pJ,pK,pL,pM,pN,pO,pP,kr,ia,iF,pQ,bg,bG,dW,gX,ef,dX,gR,dJ,bC,dg,dY,dM,dN,er,fh,bT,eU,bN,cR,cH,iD,bZ,iE,cz,fj,gu,bg,bG,dW,ef,dX,gR,dJ,bC,dg,dY,dM,dN,er,cu,bT,eU,bN,cR,cH,ji,bZ,jh,cz,aX,aH,g8,g9,aT,srcOf]
 let⟨j,g,u,_⟩:=cW (t:=.tup %[@2,|@3]) (b:=Fl) (n:=ws.length) x (by simp[Src.len])
  (λ i Z m=>m=[.set ((ws.take i).map Sum.inr)]/\∃f o3,Z=[@(.fz (ws.map .str)),@(.ref 0),f,o3]) ⟨rfl,_,_,rfl⟩ (λ i Z m a=>by
   rintro⟨rfl,f,o3,rfl⟩;have k:=hw ws[i] (NF a);refine⟨.tup [.int i,.str ws[i]],[@(.fz (ws.map .str)),@(.ref 0),@(.int i),@(.str ws[i])],[@(.fz (ws.map .str)),@(.ref 0),@(.int i),@(.str ws[i])],[.set ((ws.take (i+1)).map Sum.inr)],?_,by simp[aA,bR],.inl ?_,rfl,_,_,rfl⟩
   .rw[dF (w:=.str ws[i])];rw[aO (~~~a)];simp
   .have v:∀m,aL (D.runN pg (n+1) 1) [.str ws[i]] m=.ok (.bl true) m:=λ m=>cD rfl (Bq k) rfl;have h:j9 (.inr ws[i]) ((ws.take i).map Sum.inr)=false:=vB (kX q a);have l:ws.take (i+1)=ws.take i++[ws[i]]:=by rw[QD,M9 a];rfl
    have e:min i ws.length<4000:=by omega
    have A:bB (Cn pg (n+1)) (.or (.not (.call 1 %[|@3])) (.cmp .In @3 @1)) [@(.fz (ws.map .str)),@(.ref 0),@(.int i),@(.str ws[i])] [.set ((ws.take i).map Sum.inr)]=.ok false [.set ((ws.take i).map Sum.inr)]:=by
     erw[EVs,fF,fG,fH,fJ,fK,fL,fM,fN,cP,cQ,fO,dj,dm,dw,eV,fP,fQ,dz,fR,dB,eW,fY,dZ,bH,bP,eX,lN,lO,lP,lQ,v,D.truthy,aD,pG,wY,h,NU,MY,Np]
    have y:ao (Cn pg (n+1)) (.meth @1 "add" %[|@3]) [@(.fz (ws.map .str)),@(.ref 0),@(.int i),@(.str ws[i])] [.set ((ws.take i).map Sum.inr)]=.ok .non [.set ((ws.take (i+1)).map Sum.inr)]:=by
     have C:oJ "add"=.set:=by decide
     have B:((ws.take i).map Sum.inr:List L2.Key).length<4000:=by rw[M0,Of];exact e
     erw[EWs,kdOf,C,Nf,cy,gH,xj,wY,h,B,MY,Np];rw[l,NZ];rfl
    rw[Fl,aj (Z1:=[@(.fz (ws.map .str)),@(.ref 0),@(.int i),@(.str ws[i])]) (by rw[gT A,ay]),aj (oq y),ay])
  (fun Z m _=>by rw[cJ];exact aG 's')
 refine cD (m1:=g) (by simp[aB,aK,bD]) (bO (d:=⟨1,4,b0⟩) rfl rfl ?_) rfl;show aC _ b0 [@(.fz (ws.map .str)),none,none,none] []=_;rw[b0,aj (Z1:=[@(.fz (ws.map .str)),@(.ref 0),none,none]) (aN (w:=.ref 0) (m1:=[.set []]) (by simp[bg,bG,dW,ef,dX,gR,dJ,bC,dg,dY,dM,dN,er,cu,bT,eU,bN,cR,cH,ji,bZ,jh,cz,aX,aH,g8,g9,aT,new]) rfl),aj u,aU (bz (w:=.non) (m1:=g) (by simp[bg,bG,dW,ef,dX,gR,dJ,bC,dg,dY,dM,dN,er,cu,bT,eU,bN,cR,cH,ji,bZ,jh,cz,aX,aH,g8,g9,aT]))]
theorem lS{w:W}(h:aM m w=some xs)(g:xs.length<=1000):aL (D.runN pg (n+1) 7) [w] m=.ok (.int (2^xs.length:Nat)) m:=by
 have a:∀M,aM M w=some xs->D.runN pg (n+1) 7 [w] M=.ok (.int (2^xs.length:Nat)) M:=λ M h=>by
  refine bO (d:=⟨1,1,b7⟩) rfl rfl ?_;show aC _ b7 [some w] M=_;have f:(0:Int)<=xs.length/\(xs.length:Int)<=1000000/\(1:Int).natAbs<2^64:=⟨by omega,by omega,by decide⟩;rw[b7,aU (bz (w:=.int (2^xs.length:Nat)) (m1:=M) ?_)];erw[EWs,bK h,binop];rw[MW f];simp
 exact vz (a m h) (λ e=>a [] (by rw[vA (m:=m) (by simpa[aB] using e)];exact h)) rfl
theorem jl{a:Type}{q:a->Bool}:∀xs:List a,bools (xs.map λ x=>W.bl (q x))=@(xs.map q)
 | []=>rfl
 |x::r=>by simp[bools,jl r]
section
variable{C:Cx}{t:T}{e it:E}{Z:D.Loc}{m:Mem}{xs:List W}{s:Src}{B:W->D.Loc}{js:List Nat}{q:W->Bool}
theorem CK(u:Cm m)(F:cN C it Z m=.ok s m)(w:∀j (h:j<xs.length),s.get m j=.it xs[j])(A:s.get m xs.length=.fin)(l:s.len m=xs.length)(v:xs.length<=lim)
  (H:∀x∈xs,aA t x (fB js Z)=@(B x)) (G:∀x∈xs,∀y∈xs,aA t y (B x)=@(B y)) (h:∀x∈xs,ao C e (B x) m=.ok (.bl (q x)) m) :
  ao C (.frz (.comp (.gen t js it .nil (.elt e)))) Z m=.ok (.fz (xs.map λ x=>.bl (q x))) m:=by
 let⟨f,a⟩:=jQ (C:=C) (get:=s.get) (t:=t) (ifs:=.nil) (e:=e) (Z:=fB js Z) (m:=m) (xs:=xs) (B:=B) (p:=λ _=>true) (g:=λ x=>.bl (q x)) w A H G (λ x _=>by erw[bX]) (λ x k _=>h x k) v;rw[jO,<-l] at a;exact bw (cY (js:=js) (ifs:=.nil) (g:=.elt e) F a) rfl u (qt (λ _=>rfl) _)
theorem all_gen(f:Cm m)(u:cN C it Z m=.ok s m)(k:∀j (h:j<xs.length),s.get m j=.it xs[j])(l:s.get m xs.length=.fin)(a:s.len m=xs.length)(g:xs.length<=lim)
  (w:∀x∈xs,aA t x (fB js Z)=@(B x)) (v:∀x∈xs,∀y∈xs,aA t y (B x)=@(B y)) (h:∀x∈xs,ao C e (B x) m=.ok (.bl (q x)) m) :
  ao C (.blt .all %[|.frz (.comp (.gen t js it .nil (.elt e)))]) Z m=.ok (.bl (xs.all q)) m:=by
 rw[bT,aH,CK f u k l a g w v h];erw[aT,aX,bA,getL,jl];rw[all_map];rfl
theorem any_gen(f:Cm m)(u:cN C it Z m=.ok s m)(k:∀j (h:j<xs.length),s.get m j=.it xs[j])(l:s.get m xs.length=.fin)(a:s.len m=xs.length)(g:xs.length<=lim)
  (w:∀x∈xs,aA t x (fB js Z)=@(B x)) (v:∀x∈xs,∀y∈xs,aA t y (B x)=@(B y)) (h:∀x∈xs,ao C e (B x) m=.ok (.bl (q x)) m) :
  ao C (.blt .any %[|.frz (.comp (.gen t js it .nil (.elt e)))]) Z m=.ok (.bl (xs.any q)) m:=by
 rw[bT,aH,CK f u k l a g w v h];erw[aT,aX,bA,getL,jl];rw[Qs];rfl
end
structure Rows(m:Mem)(w:W)(rws:List W)(R:List (List Int)):Prop where
 at_:getL m w=some rws
 len:rws.length=R.length
 row:∀(i:Nat) (h:i<rws.length) (h':i<R.length),aM m rws[i]=@(R[i].map .int)
theorem Rows.app{l:Mem}{w:W}{R:List (List Int)}(h:Rows m w rws R):Rows (m++l) w rws R:=by
 refine⟨?_,h.len,λ i e a=>k9 (h.row i e a)⟩;have:=k9 (l:=l) (bJ h.at_);cases w with
 |tup f=>have:=h.at_;cases this
 |_=>exact this
def Goes(r:R F)(m:Mem):Option W->Prop
 |none=>∃Z,r=.ok (.nx Z) m
 |some w=>∃Z,r=.ok (.rz "NoTable" (some ("fault",w)) Z) m
def Br(bound x:Int):Bool:=decide (0<=x)&&decide (x<bound)
def dU(R:List (List Int))(width:Nat)(bound:Int)(s:Nat):Bool:=match R[s]? with
 |none=>true
 |some r=>r.length != width||!r.all (Br bound)
def cG(R:List (List Int))(many width:Nat)(bound:Int):Option Nat:=match nc (dU R width bound) many 0 with
 |some s=>some s
 |none=>if many<R.length then some many else none
abbrev oH(word:Str)(s:Nat):W:=.tup [.str word,.int s]
def vC:W->Int
 |.int i=>i
 |_=>0
theorem all_ints{q:Int->Bool}:((ns.map W.int).all λ w=>q (vC w))=ns.all q:=by rw[all_map];rfl
theorem K1{a b:Int}:uR m (.int a) (.int b)=.ok (decide (a=b)) m:=by
 simp[uR,toD,PyData.eqv]
 by_cases h:a=b<;>simp[h]
theorem LA{a:Nat}:uR m (.int a) (.int b)=.ok (decide (a=b)) m:=by rw[K1,decide_eq_decide.mpr (show (a:Int)=b↔a=b by omega)]
theorem gY{word:Str}{R:List (List Int)}(hm:Cm m)(h:Rows m iS rws R)(hb:many<=1000)(hw:∀r∈R,r.length<=lim) :
  Goes (D.cL pg (n+1) 10 [.str word,iS,.int many,.int width,.int bound] m) m ((cG R many width bound).map (oH word)):=by
 let L (o5 a:Option W):D.Loc:=[@(.str word),some iS,@(.int many),@(.int width),@(.int bound),o5,a]
 have K:=bJ h.at_;have F:∀o5 a,ao (Cn pg n) (.blt .len %[|@1]) (L o5 a) m=.ok (.int R.length) m:=λ o5 a=>by erw[L,EWs,bK K,h.len]
 have k:∀i a,bB (Cn pg n) (.or (.cmp .GtE @5 (.blt .len %[|@1])) (.or (.cmp .NotEq (.blt .len %[|.idx @1 @5]) @3) (.not (.blt .all %[|.frz (.comp (.gen @6 [6] (.idx @1 @5) .nil (.elt (.chain .LtE .Lt @(0) @6 @4))))])))) (L (some (.int (i:Nat))) a) m=.ok (dU R width bound i) m:=λ i a=>by
  unfold dU
  by_cases l:i<R.length
  .have u:i<rws.length:=by rw[h.len];exact l
   have N:=h.row i u l;let⟨s,s1,J,s3⟩:=sd N;have Q:ao (Cn pg n) (.idx @1 @5) (L @(.int i) a) m=.ok rws[i] m:=by erw[L,EWs,cF K u]
   have P:=all_gen (C:=Cn pg n) (m:=m) (t:=.var 6) (e:=.chain .LtE .Lt @(0) @6 @4) (it:=.idx @1 @5) (js:=[6]) (Z:=L @(.int i) a) (xs:=R[i].map .int) (s:=s) (B:=λ x=>L @(.int i) (some x)) (q:=λ w=>Br bound (vC w)) hm (by rw[jw,Q];exact s1) (λ j hj=>by rw[J,aO hj]) (by rw[J];exact aG 'o') s3
    (by rw[M0];exact hw _ (NF l)) (λ x _=>by simp[L,fB,aA]) (λ x _ y _=>by simp[L,aA]) (λ x hx=>by
     let⟨z,hz,rfl⟩:=Nj.mp hx;erw[L,EWs,aD,Br,vC]
     by_cases V:0<=z<;>by_cases U:z<bound<;>simp[V,U])
   rw[all_ints] at P;have t2:ao (Cn pg n) (.blt .len %[|.idx @1 @5]) (L @(.int i) a) m=.ok (.int R[i].length) m:=by rw[bT,aH,Q];erw[aT,aX,bK N,M0]
   have X:ao (Cn pg n) @3 (L @(.int i) a) m=.ok (.int width) m:=rfl;have A:ao (Cn pg n) @5 (L @(.int i) a) m=.ok (.int i) m:=rfl;have I:¬(R.length:Int)<=i:=by omega
   rw[M9 l];erw[fY,bH,dZ,cQ,X,A,aT,F,t2,P,aD,I,LA,Po,MY,Np,D.truthy]
   by_cases z:R[i].length=width
   .simp[z]
   .simp[z]
  .rw[O3 'o'];have I:(R.length:Int)<=i:=by omega
   have A:ao (Cn pg n) @5 (L @(.int i) a) m=.ok (.int i) m:=rfl;erw[fY,bH,A,aT,F,aD,I,OP,Nf]
 have S:∀(e:E) (i:Nat) o5 a,ao (Cn pg n) e (L o5 a) m=.ok (.int i) m->bf (Cn pg n) (.rais "NoTable" (.some "fault") (.tup %[@0,|e])) (L o5 a) m=.ok (.rz "NoTable" (some ("fault",oH word i)) (L o5 a)) m:=λ e i o5 a he=>tU (by
  have v0:ao (Cn pg n) @0 (L o5 a) m=.ok (.str word) m:=rfl;erw[dY,aH,aX,v0,he,aT];rw[MW 'm'])
 have v:=iQ (C:=Cn pg n) (t:=.var 5) (it:=.rng @2) (b:=t8) (Z:=L none none) (m:=m) (m1:=m) (s:=.rng 0 many) (n:=many) (jf (by erw[L,EWs]) 'o') rfl (dU R width bound)
  (λ i Z g=>g=m/\∃o5 a,Z=L o5 a) (λ i f g=>g=m/\∃Z,f=.rz "NoTable" (some ("fault",oH word i)) Z) (λ i f g ⟨_,Z,e⟩=>by rw[e];trivial) ⟨rfl,_,_,rfl⟩ (λ i Z g l=>by
   rintro⟨rfl,o5,a,rfl⟩;refine⟨.int i,L @(.int i) a,by rw[aI l];simp,by simp[L,aA],λ G=>?_,λ G=>?_⟩
   .have c:=k i a;rw[G] at c;refine⟨_,_,?_,rfl,L @(.int i) a,rfl⟩;rw[t8,eF];rw[ou c,eF (S @5 i _ _ rfl)]
   .have c:=k i a;rw[G] at c;refine⟨L @(.int i) a,g,.inl ?_,rfl,_,_,rfl⟩;rw[t8,aj (Z1:=L @(.int i) a) (by rw[gT c,ay]),ay]) (fun Z m _=>aF 'o')
 rw[iP (d:=⟨5,7,Jt⟩) rfl rfl];show Goes (aC _ Jt (L none none) m) m _;rw[Jt];unfold cG;cases e:nc (dU R width bound) many 0 with
 |some i=>
  rw[e] at v;let⟨f,g,H,rfl,Z,rfl⟩:=v;exact⟨Z,eF H⟩
 |none=>
  rw[e] at v;let⟨T,g,H,rfl,o5,a,rfl⟩:=v;rw[aj H];have c:bB (Cn pg n) (.cmp .Gt (.blt .len %[|@1]) @2) (L o5 a) g=.ok (decide (many<R.length)) g:=by
   have Y:ao (Cn pg n) @2 (L o5 a) g=.ok (.int many) g:=rfl;erw[bH,F,Y,aT,aD];simp
  by_cases z:many<R.length
  .rw[NH z] at c;erw[z,Nf];exact⟨_,eF (by rw[ou c,eF (S @2 many _ _ rfl)])⟩
  .rw[Ng z] at c;erw[z,Np];exact⟨_,by rw[aj (Z1:=L o5 a) (by rw[gT c,ay]),ay]⟩
theorem K2{f:Type}{l:List f}{a:Nat}{p q e g:f}(h:a≠b):((((l.set a p).set b q).set a e).set b g)=(l.set a e).set b g:=by
 rw[set_comm q e (Ne.symm h),Pn,Pn]
def oF(R:List (List Int))(s:Nat):Bool:=(List.range (R.getD s []).length).any λ x=>((R.getD ((R.getD s []).getD x 0).toNat []).getD x 0) != (R.getD s []).getD x 0
def Fp(R:List (List Int))(w:Nat):Prop:=∀r∈R,r.length=w/\∀x∈r,0<=x/\x<(R.length:Int)
theorem jy{R:List (List Int)}(h:cG R many width bound=none):R.length=many/\∀r∈R,r.length=width/\∀x∈r,0<=x/\x<bound:=by
 unfold cG at h;split at h
 .cases h
 .ext e;split at h
  .cases h
  .ext k;have g:=qp e;have j:R.length=many:=by
    rcases Pk R.length many with z | z
    .have:=g R.length (N7 _) 'o';unfold dU at this;rw[O3 (MK _)] at this;cases this
    .omega
   refine⟨j,λ r a=>?_⟩;let⟨i,f,rfl⟩:=O7.mp a;have:=g i (N7 _) 'o';unfold dU at this;rw[M9 f] at this;erw[Bool.or_eq_false_iff,bne_eq_false_iff_eq,Bool.not_eq_false',OO,Br,MJ,Nz] at this;exact this
theorem nv{R:List (List Int)}(e:R.length=many)(a:∀r∈R,r.length=width/\∀x∈r,0<=x/\x<bound):cG R many width bound=none:=by
 unfold cG;rw[tT]
 .simp[e]
 .intro j _ h;unfold dU;rw[M9 'o'];let⟨g,f⟩:=a _ (NF (show j<R.length by omega));erw[g,bne_self_eq_false,Qv,Bool.not_eq_false',OO,Br,MJ,Nz];exact f
theorem qE{C:Cx}{a r w:Nat}{R:List (List Int)}{wd:Nat}(hm:Cm m)(h:Rows m iS rws R)(H:Fp R wd)(hl:wd<=lim)(P:i<rws.length)(ha:a<Z.length)(hb:b<Z.length)(F:a≠b)(har:a≠r)(S:a≠w)(MB:b≠r)(Q:b≠w)
  (h1:Z[r]?=@(some rws[i])) (h2:Z[w]?=@(some iS)) :
  ao C (.blt .any %[|.frz (.comp (.gen (.tup %[.var a,|.var b]) [a,b] (.enm (.var r)) .nil (.elt (.cmp .NotEq (.idx (.idx (.var w) (.var b)) (.var a)) (.var b)))))]) Z m=.ok (.bl (oF R i)) m:=by
 have f:i<R.length:=by rw[<-h.len];exact P
 let⟨u,u1,I,u3⟩:=gA (h.row i P f);have A:R[i].length<=lim:=by rw[(H _ (NF f)).1];exact hl
 have e:=any_gen (C:=C) (t:=.tup %[.var a,|.var b]) (e:=.cmp .NotEq (.idx (.idx (.var w) (.var b)) (.var a)) (.var b)) (it:=.enm (.var r)) (js:=[a,b]) (Z:=Z) (m:=m) (s:=.enm u)
  (xs:=(List.range R[i].length).map λ (x:Nat)=>W.tup [.int (x:Int),.int (R[i].getD x 0)]) (B:=λ x=>match x with | .tup [p,q]=>((fB [a,b] Z).set a (some p)).set b (some q) | _=>[])
  (q:=λ x=>match x with | .tup [.int j,.int v]=>((R.getD v.toNat []).getD j.toNat 0) != v | _=>false) hm (by erw[iF,bg,h1,aT,u1])
  (λ j g=>by
   have E:j<R[i].length:=by simpa using g
   rw[dF (w:=.int R[i][j]) (by rw[I,aO (~~~E)];simp)];simp[List.getD,E])
  (by rw[cJ (by rw[I];exact aG 's')]) (by erw[Src.len,u3];simp) (~~~A)
  (λ x l=>by let⟨j,_,rfl⟩:=Nj.mp l;simp[aA,bR])
  (λ x l y hy=>by let⟨j,_,rfl⟩:=Nj.mp l;let⟨j',_,rfl⟩:=Nj.mp hy;erw[aA,bR,K2 F])
  (λ x l=>by
   let⟨j,g,rfl⟩:=Nj.mp l;have g:=NK.mp g;have e0:R[i].getD j 0=R[i][j]:=by simp[List.getD,g]
   let⟨U,T⟩:=(H _ (NF f)).2 R[i][j] (NF g);let⟨k,N⟩:=Int.eq_ofNat_of_zero_le U;rw[e0,N];rw[N] at T;have G:k<R.length:=by omega
   have K:k<rws.length:=by rw[h.len];exact G
   have J:j<R[k].length:=by rw[(H _ (NF G)).1,<-(H _ (NF f)).1];exact g
   have g2:=h.row k K G;have Y:(((fB [a,b] Z).set a @(W.int j)).set b @(W.int k))[a]?=some @(.int j):=by
    rw[M7 (Ne.symm F),Nb (by simp[fB];exact ha)]
   have X:(((fB [a,b] Z).set a @(W.int j)).set b @(W.int k))[b]?=some @(.int k):=by
    rw[Nb (by simp[fB];exact hb)]
   have V:(((fB [a,b] Z).set a @(W.int j)).set b @(W.int k))[w]?=some (some iS):=by
    rw[M7 Q,M7 S];erw[fB];rw[M7 Q,M7 S,h2]
   have e4:=cF (i:=j) g2 (~~~J);erw[dJ,dN,bg,Y,X,V,aT,cF (bJ h.at_) K,e4,aD,OQ,K1];have e5:R.getD (k:Int).toNat []=R[k]:=by simp[List.getD,G]
   have e6:R[k].getD (j:Int).toNat 0=R[k][j]:=by simp[List.getD,J]
   rw[e5,e6]
   by_cases z:R[k][j]=(k:Int)<;>simp[z])
 rw[e,Qs];unfold oF;have e7:R.getD i []=R[i]:=by simp[List.getD,f]
 rw[e7];rfl
theorem jm{w:W}{R:List (List Int)}{wd:Nat}(G:Cm m)(h:Rows m w rws R)(J:Fp R wd)(H:wd<=lim):Goes (D.cL pg (n+1) 11 [w] m) m ((nc (oF R) R.length 0).map (oH "unsettled")):=by
 let⟨s,E,y,B⟩:=gA (bJ h.at_);have k:=iQ (C:=Cn pg n) (t:=.tup %[@1,|@2]) (it:=.enm @0) (b:=t9) (Z:=[some w,none,none,none,none]) (m:=m) (m1:=m) (s:=.enm s) (n:=R.length) (by erw[jv,jw,ko,kq,pJ,pK,pL,pM,pN,pO,pP,kr,ia,iF,pQ,bg,bG,dW,gX,ef,dX,gR,dJ,bC,dg,dY,dM,dN,er,fh,bT,eU,bN,cR,cH,iD,bZ,iE,cz,fj,gu,EWs,E]) (by erw[Src.len,B,h.len]) (oF R)
  (λ i Z g=>g=m/\∃u l,Z=[some w,u,l,none,none]) (λ i f g=>g=m/\∃Z,f=.rz "NoTable" (some ("fault",oH "unsettled" i)) Z) (λ i f g ⟨_,Z,e⟩=>by rw[e];trivial) ⟨rfl,_,_,rfl⟩ (λ i Z g I=>by
   rintro⟨rfl,u,l,rfl⟩;have j:i<rws.length:=by rw[h.len];exact I
   have c:=qE (C:=Cn pg n) (a:=3) (b:=4) (r:=2) (w:=0) (Z:=[some w,@(.int i),some rws[i],none,none]) G h J H j 's' 's' 'd' 'd' 'd' 'd' 'd' rfl rfl;refine⟨.tup [.int i,rws[i]],[some w,@(.int i),some rws[i],none,none],?_,by simp[aA,bR],λ v=>?_,λ v=>?_⟩
   .rw[dF (w:=rws[i])];rw[y,aO j]
   .rw[v] at c;refine⟨_,_,?_,rfl,[some w,@(.int i),some rws[i],none,none],rfl⟩;have F:ao (Cn pg n) (.tup %[.cst (.str "unsettled"),|@1]) [some w,@(.int i),some rws[i],none,none] g=.ok (oH "unsettled" i) g:=by
     erw[EWs];rw[MW 'm']
    rw[t9,eF];rw[ou (jR (cQ _ _) c),eF (tU F)]
   .rw[v] at c;refine⟨[some w,@(.int i),some rws[i],none,none],g,.inl ?_,rfl,_,_,rfl⟩;rw[t9,aj (Z1:=[some w,@(.int i),some rws[i],none,none]) (by rw[gT (jR (cQ _ _) c),ay]),ay])
  (fun Z g q=>by let⟨rfl,_⟩:=q;rw[cJ (by rw[y];exact aG (by have:=h.len;omega))])
 rw[iP (d:=⟨1,5,Ju⟩) rfl rfl];show Goes (aC _ Ju [some w,none,none,none,none] m) m _;rw[Ju];cases e:nc (oF R) R.length 0 with
 |some i=>
  rw[e] at k;let⟨f,g,x,rfl,Z,rfl⟩:=k;exact⟨Z,eF x⟩
 |none=>
  rw[e] at k;let⟨A,g,x,rfl,u,l,rfl⟩:=k;exact⟨_,by rw[aj x,ay]⟩
structure Parts(m:Mem)(k s l r t:W)(ks ss ls:List Str)(rws CJ:List W)(R L:List (List Int)):Prop where
 k:getL m k=@(ks.map .str)
 s:getL m s=@(ss.map .str)
 l:getL m l=@(ls.map .str)
 r:Rows m r rws R
 t:Rows m t CJ L
structure ly(ks ss ls:List Str)(L:List (List Int)):Prop where
 wd:∀z∈ks++ss++ls,Wd z
 nd:(ks++ss++ls).Nodup
 k2:ks.length<=2
 s2:2<=ss.length
 s4:ss.length<=4
 l2:ls.length<=2
 tl:L.length=ss.length
 te:∀ns∈L,ns.length=ls.length/\∀x∈ns,0<=x/\x<(2:Int)
def aP(R:List (List Int))(w n:Nat):Option W:=match cG R n w n with
 |some s=>some (oH "row" s)
 |none=>(nc (oF R) R.length 0).map (oH "unsettled")
theorem gB{l:Mem}{w:W}(h:getL m w=some xs):getL (m++l) w=some xs:=by
 have:=k9 (l:=l) (bJ h);cases w with
 |tup a=>cases h
 |_=>exact this
theorem Parts.app{a:Mem}{k l:W}{R:List (List Int)}(h:Parts m k s l r t ks ss ls rws CJ R L):Parts (m++a) k s l r t ks ss ls rws CJ R L:=
 ⟨gB h.k,gB h.s,gB h.l,h.r.app,h.t.app⟩
theorem lz(h:n<=2):2^n<=4:=by
 rcases (by omega:n=0\/n=1\/n=2) with rfl | rfl | rfl<;>decide
theorem um{x y:W}{ys:List W}(e:getL M x=some xs)(a:getL M y=some ys)(f:xs.length+ys.length<=lim):binop .Add x y M=.ok (.ref M.length) (M++[.lst (xs++ys)]):=by
 have:Ae M x y=.ok (.ref M.length) (M++[.lst (xs++ys)]):=by erw[Ae,e,a];rw[MW f];rfl
 cases x<;>cases y<;>first | exact this | cases e | cases a
theorem K4{k l:W}{R:List (List Int)}(a:Cm M)(p:Parts M k s l r t ks ss ls rws CJ R L)(o:ly ks ss ls L) :
  ao (Cn pg n) (.frz (.bin .Add (.bin .Add @0 @1) @2)) [some k,some s,some l,some r,some t,none] M=.ok (.fz ((ks++ss++ls).map .str)) M:=by
 have g:(ks.map W.str).length+(ss.map W.str).length<=lim:=by have:=o.k2;have:=o.s4;simp[lim];omega
 have f:(ks.map W.str++ss.map W.str).length+(ls.map W.str).length<=lim:=by have:=o.k2;have:=o.s4;have:=o.l2;simp[lim];omega
 have e:ao (Cn pg n) (.bin .Add (.bin .Add @0 @1) @2) [some k,some s,some l,some r,some t,none] M=.ok (.ref (M.length+1)) (M++[.lst (ks.map .str++ss.map .str),.lst (ks.map .str++ss.map .str++ls.map .str)]):=by
  erw[EWs,um p.k p.s g];rw[um (M:=M++[O.lst (ks.map W.str++ss.map W.str)]) (x:=.ref M.length) (xs:=ks.map W.str++ss.map W.str) (by simp[getL]) (gB p.l) f];simp
 have:=tV (C:=Cn pg n) e rfl a 'o' (xs:=ks.map .str++ss.map .str++ls.map .str) 's' (by rw[<-NZ,<-NZ];exact bD _);rw[this,NZ,NZ]
theorem lT{k l:W}{ks ss ls:List W}(f:aM m k=some ks)(a:aM m s=some ss)(e:aM m l=some ls)(x:ks.length<=2)(w:2<=ss.length)(v:ss.length<=4)(u:ls.length<=2):D.cL pg (n+1) 9 [k,s,l] m=.ok (.nx [some k,some s,some l]) m:=by
 rw[iP (d:=⟨3,3,b9⟩) rfl rfl];show aC _ b9 [some k,some s,some l] m=_;have q:¬(2:Int)<ks.length:=by omega
 have j:(2:Int)<=ss.length:=by omega
 have h:(ss.length:Int)<=4:=by omega
 have g:¬(2:Int)<ls.length:=by omega
 erw[b9,kG,eY,gf,sS,i8,mJ,ku,mK,kB,kC,kD,pR,kE,iG,mL,EVs,fF,fG,fH,fJ,fK,fL,fM,fN,cP,cQ,fO,dj,dm,dw,eV,fP,fQ,dz,fR,dB,eW,fY,dZ,bH,bP,eX,lN,lO,lP,lQ,bK f,bK a,bK e,aD,q,j,h,g,OP,Po,Nf,Np,MY,NU]
theorem jS{p:Pg}{es:Es}{ws:List W}{r:Ss}{o o2:Option W}(h:aR (Cn p n) es Z m=.ok ws m)(a:Goes (D.cL p n i ws m) m o)(g:o=none->Goes (aC (Cn p n) r Z m) m o2)(f:∀w,o=some w->o2=some w):Goes (aC (Cn p n) (.cons (.xc .drop none i es) r) Z m) m o2:=by
 cases o with
 |none=>
  let⟨j,e⟩:=a;rw[aj (yJ h e)];exact g rfl
 |some w=>
  let⟨j,e⟩:=a;rw[f w rfl];exact⟨Z,eF (yK h e)⟩
theorem lA{k l:W}{R:List (List Int)}(e:Cm M)(p:Parts M k s l r t ks ss ls rws CJ R L)(o:ly ks ss ls L)(hw:∀r∈R,r.length<=lim):Goes (D.cL pg (n+1+1+1) 8 [k,s,l,r,t] M) M (aP R (2^ks.length) ss.length):=by
 have g:(ks++ss++ls).length<=8:=by have:=o.k2;have:=o.s4;have:=o.l2;simp;omega
 have C:ao (Cn pg (n+1+1)) (.call 0 %[|.frz (.bin .Add (.bin .Add @0 @1) @2)]) [some k,some s,some l,some r,some t,none] M=.ok .non M:=by
  rw[cu,aH,K4 e p o];erw[aT,aX,jk o.wd o.nd 'o']
 have q:=lS (n:=n+1) (bJ p.k) (by have:=o.k2;simp;omega);erw[M0] at q;have G:=lT (n:=n+1) (bJ p.k) (bJ p.s) (bJ p.l) (~~~o.k2) (~~~o.s2) (~~~o.s4) (~~~o.l2);have F:=gY (n:=n+1) (word:="row") (many:=ss.length) (width:=2^ks.length) (bound:=ss.length) e p.r (by have:=o.s4;omega) hw;have j:=gY (n:=n+1) (word:="lights") (many:=ss.length) (width:=ls.length) (bound:=2) e p.t (by have:=o.s4;omega) (λ x u=>by rw[(o.te x u).1];have:=o.l2;simp[lim];omega);rw[nv o.tl o.te] at j;have v:bB (Cn pg (n+1+1)) (.cmp .IsNot @5 (.cst .non)) [some k,some s,some l,some r,some t,some .non] M=.ok false M:=by erw[EVs,fF,fG,fH,fJ,fK,fL,fM,fN,cP,cQ,fO,dj,dm,dw,eV,fP,fQ,dz,fR,dB,eW,fY,dZ,bH,bP,eX,lN,lO,lP,lQ,aD,jt,NU]
 rw[iP (d:=⟨5,6,b8⟩) rfl rfl];show Goes (aC _ b8 [some k,some s,some l,some r,some t,none] M) M _;rw[b8,aj (Z1:=[some k,some s,some l,some r,some t,some .non]) (aN C rfl),aj (Z1:=[some k,some s,some l,some r,some t,some .non]) (by rw[gT v,ay])];refine jS (o:=none) (ws:=[k,s,l]) (by erw[EWs]) ⟨_,G⟩ (λ _=>?_) (λ w h=>by cases h);refine jS (ws:=[.str "row",r,.int ss.length,.int (2^ks.length:Nat),.int ss.length]) (by erw[EWs,bK (bJ p.s),M0,q]) F (λ h=>?_) (λ w h=>?_)
 .refine jS (o:=none) (ws:=[.str "lights",t,.int ss.length,.int ls.length,.int 2]) (by erw[EWs,bK (bJ p.s),bK (bJ p.l),M0]) j (λ _=>?_) (λ w h=>by cases h);have h:cG R ss.length (2^ks.length) ss.length=none:=by simpa using h
  let⟨B,A⟩:=jy h;have E:=jm (n:=n+1) (wd:=2^ks.length) e p.r (λ r y=>by rw[B];exact A r y) (by have:=lz o.k2;simp[lim];omega);refine jS (ws:=[r]) (by erw[EWs]) E (λ f=>?_) (λ w f=>?_)
  .unfold aP;rw[h];erw[f];exact⟨_,ay⟩
  .unfold aP;rw[h];exact f
 .unfold aP;rw[ME] at h;let⟨a,h,rfl⟩:=h;rw[h]
theorem gC{j:List (Str×W)}{w:W}(g:m[p]?=@(.ins c j))(h:getL m w=some xs):getL (m.set p o) w=some xs:=by
 cases w with
 |ref a=>
  erw[getL] at h ⊢;split at h
  .ext k e;have f:p≠a:=by rintro rfl;rw[g] at e;cases e
   rw[M7 f,e];exact h
  .cases h
 |_=>exact h
theorem yX{e:List (Str×W)}{w:W}(a:m[p]?=@(.ins c e))(h:aM m w=some xs):aM (m.set p o) w=some xs:=by
 cases w with
 |tup f=>exact h
 |_=>exact bJ (gC (m:=m) a (by exact h))
theorem Rows.ins{g:List (Str×W)}{w:W}{R:List (List Int)}(a:m[p]?=@(.ins c g))(h:Rows m w rws R):Rows (m.set p o) w rws R:=
 ⟨gC a h.at_,h.len,λ i f e=>yX a (h.row i f e)⟩
theorem Parts.ins{e:List (Str×W)}{k l:W}{R:List (List Int)}(a:m[p]?=@(.ins c e))(h:Parts m k s l r t ks ss ls rws CJ R L):Parts (m.set p o) k s l r t ks ss ls rws CJ R L:=
 ⟨gC a h.k,gC a h.s,gC a h.l,h.r.ins a,h.t.ins a⟩
abbrev tupI(r:List Int):W:=.tup (r.map .int)
abbrev aS(z:List Str):W:=.fz (z.map .str)
abbrev F1(ks:List Str):List (Str×W):=[("key_list",aS ks)]
abbrev F2(ks ss:List Str):List (Str×W):=[("key_list",aS ks),("state_list",aS ss)]
abbrev F3(ks ss ls:List Str):List (Str×W):=[("key_list",aS ks),("state_list",aS ss),("lamp_list",aS ls)]
abbrev F4(ks ss ls:List Str)(R:List (List Int)):List (Str×W):=[("key_list",aS ks),("state_list",aS ss),("lamp_list",aS ls),("row_list",.fz (R.map tupI))]
abbrev F5(ks ss ls:List Str)(R L:List (List Int)):List (Str×W):=[("key_list",aS ks),("state_list",aS ss),("lamp_list",aS ls),("row_list",.fz (R.map tupI)),("light_list",.fz (L.map tupI))]
def tab(ks ss ls:List Str)(R L:List (List Int)):W:=.obj "Table" ["key_list","state_list","lamp_list","row_list","light_list"] [aS ks,aS ss,aS ls,.fz (R.map tupI),.fz (L.map tupI)]
theorem fU(R:List (List Int)):aB (R.map tupI)=true:=qt (λ r=>by simp[aK,iR]) R
theorem yY{R:List (List Int)}:aK (tab ks ss ls R L)=true:=by simp[tab,aK,aB,bD,fU]
theorem oG{a:List (Str×W)}(e:Cm m)(h:aB (a.map (·.2))=true):Cm (m.set p (.ins c a)):=e.set (bM _ h)
theorem dO{C:Cx}{e:E}{w:W}(g:ao C e Z m=.ok w m)(h:getL m w=some xs)(f:Cm m)(a:aB xs=true):ao C (.frz (.blt .list %[|e])) Z m=.ok (.fz xs) m:=by
 refine bw (m0:=m) ?_ rfl f a;rw[bT,aH,g];erw[aT,aX,bA,bJ h,new]
theorem lB{f:Str}{a fs':List (Str×W)}{v:W}(e:m[p]?=@(.ins "Table" a))(j:cs.flds.contains (("Table":Str),f)=true)(g:a.length<1000)(h:D.d7 f v a=fs'):mF cs (.ref p) f v m=.ok () (m.set p (.ins "Table" fs')):=by
 erw[mF,e];rw[MW ⟨j,g⟩,h]
theorem gZ{k l:W}{R:List (List Int)}(h:Cm m)(f:m[p]?=@(.ins "Table" []))(q:Parts m k s l r t ks ss ls rws (L.map tupI) R L)(o:ly ks ss ls L)(hw:∀r∈R,r.length<=lim)(CN:R.length<=lim) :
  match aP R (2^ks.length) ss.length with
   |some w=>∃Z,D.cL pg (n+1+1+1+1) 2 [.ref p,k,s,l,r,t] m=.ok (.rz "NoTable" (some ("fault",w)) Z) m
   |none=>∃Z,D.cL pg (n+1+1+1+1) 2 [.ref p,k,s,l,r,t] m=.ok (.nx Z) (m.set p (.ins "Table" (F5 ks ss ls R L))):=by
 have G:p<m.length:=(MG.mp f).1;have g:∀o:O,(m.set p o)[p]?=some o:=λ o=>by rw[Nb G]
 have A:=lA (n:=n) h q o hw;have K:aR (Cn pg (n+1+1+1)) %[@1,@2,@3,@4,|@5] [@(.ref p),some k,some s,some l,some r,some t,none] m=.ok [k,s,l,r,t] m:=by erw[EWs]
 rw[iP (d:=⟨6,7,b2⟩) rfl rfl];show match aP R (2^ks.length) ss.length with
   |some w=>∃Z,aC _ b2 [@(.ref p),some k,some s,some l,some r,some t,none] m=.ok (.rz "NoTable" (some ("fault",w)) Z) m
   |none=>∃Z,aC _ b2 [@(.ref p),some k,some s,some l,some r,some t,none] m=.ok (.nx Z) (m.set p (.ins "Table" (F5 ks ss ls R L)))
 rw[b2];cases hf:aP R (2^ks.length) ss.length with
 |some w=>
  rw[hf] at A;let⟨Z,e⟩:=A;exact⟨_,eF (yK K e)⟩
 |none=>
  rw[hf] at A;let⟨Z,e⟩:=A;rw[aj (yJ K e)];have U:Parts (m.set p (.ins "Table" (F1 ks))) k s l r t ks ss ls rws (L.map tupI) R L:=q.ins f;have T:Parts (m.set p (.ins "Table" (F2 ks ss))) k s l r t ks ss ls rws (L.map tupI) R L:=q.ins f;have E:Parts (m.set p (.ins "Table" (F3 ks ss ls))) k s l r t ks ss ls rws (L.map tupI) R L:=q.ins f;have S:Parts (m.set p (.ins "Table" (F4 ks ss ls R))) k s l r t ks ss ls rws (L.map tupI) R L:=q.ins f;have m1:Cm (m.set p (.ins "Table" (F1 ks))):=oG h (by simp[aB,aK,bD]);have Y:Cm (m.set p (.ins "Table" (F2 ks ss))):=oG h (by simp[aB,aK,bD]);have X:Cm (m.set p (.ins "Table" (F3 ks ss ls))):=oG h (by simp[aB,aK,bD]);have V:Cm (m.set p (.ins "Table" (F4 ks ss ls R))):=oG h (by simp[aB,aK,bD,fU]);have F:rws.length<=lim:=by rw[q.r.len];exact CN
  have e4:ao (Cn pg (n+1+1+1)) (.frz (.comp (.gen @6 [6] @4 .nil (.elt (.blt .tuple %[|@6]))))) [@(.ref p),some k,some s,some l,some r,some t,none] (m.set p (.ins "Table" (F3 ks ss ls)))=.ok (.fz (R.map tupI)) (m.set p (.ins "Table" (F3 ks ss ls))):=by
   let⟨H,Q,I,P⟩:=sd (bJ E.r.at_);have hI:cN (Cn pg (n+1+1+1)) @4 [@(.ref p),some k,some s,some l,some r,some t,none] (m.set p (.ins "Table" (F3 ks ss ls)))=.ok H (m.set p (.ins "Table" (F3 ks ss ls))):=by rw[jv,bg];exact Q
   let⟨N,J⟩:=jQ (C:=Cn pg (n+1+1+1)) (get:=H.get) (t:=.var 6) (ifs:=.nil) (e:=.blt .tuple %[|@6]) (Z:=fB [6] [@(.ref p),some k,some s,some l,some r,some t,none]) (m:=m.set p (.ins "Table" (F3 ks ss ls))) (xs:=rws) (B:=λ x=>[@(.ref p),some k,some s,some l,some r,some t,some x]) (p:=λ _=>true) (g:=λ w=>match aM (m.set p (.ins "Table" (F3 ks ss ls))) w with | some xs=>.tup xs | none=>.non)
    (λ j u=>by rw[I,aO u]) (by rw[I];exact aG 'o') (λ x _=>by simp[fB,aA]) (λ x _ y _=>by simp[aA]) (λ x _=>by erw[bX]) (λ x hx _=>by
     let⟨j,u,rfl⟩:=O7.mp hx;have a:j<R.length:=by rw[<-q.r.len];exact u
     erw[EWs,bA,E.r.row j u a]) F
   have he:rws.map (λ w=>match aM (m.set p (.ins "Table" (F3 ks ss ls))) w with | some xs=>W.tup xs | none=>.non)=R.map tupI:=by
    apply PM
    .simp[q.r.len]
    .intro j h1 h2;have u:j<rws.length:=by simpa using h1
     have a:j<R.length:=by simpa using h2
     simp[E.r.row j u a]
   rw[jO,he,<-P] at J;exact bw (cY (js:=[6]) (ifs:=.nil) (g:=.elt (.blt .tuple %[|@6])) hI J) rfl X (fU R)
  have v:∀M,ao (Cn pg (n+1+1+1)) @0 [@(.ref p),some k,some s,some l,some r,some t,none] M=.ok (.ref p) M:=λ M=>by erw[EWs]
  refine⟨[@(.ref p),some k,some s,some l,some r,some t,none],?_⟩;rw[aj (kY (dO (w:=k) (by erw[EWs]) q.k h (bD _)) (v _) (lB (fs':=F1 ks) f rfl 'd' rfl))];rw[aj (kY (dO (w:=s) (by erw[EWs]) U.s m1 (bD _)) (v _) (lB (fs':=F2 ks ss) (g _) rfl 's' rfl)),Pn];rw[aj (kY (dO (w:=l) (by erw[EWs]) T.l Y (bD _)) (v _) (lB (fs':=F3 ks ss ls) (g _) rfl 's' rfl)),Pn];rw[aj (kY e4 (v _) (lB (fs':=F4 ks ss ls R) (g _) rfl 's' rfl)),Pn];rw[aj (kY (dO (w:=t) (by erw[EWs]) S.t.at_ V (fU L)) (v _) (lB (fs':=F5 ks ss ls R L) (g _) rfl 's' rfl)),Pn,ay]
theorem outcome{k l:W}{R:List (List Int)}(B:Cm M)(S:M[tp]?=@(.lst [k,s,l,r,t]))(q:Parts M k s l r t ks ss ls rws (L.map tupI) R L)(o:ly ks ss ls L)(hw:∀r∈R,r.length<=lim)(Y:R.length<=lim)(U:∀w,aP R (2^ks.length) ss.length=some w->aK w=true) :
  ∃A,aL (D.runN pg (n+1+1+1+1+1) 22) [.ref tp] M=.ok ((aP R (2^ks.length) ss.length).getD .non) (M++A)/\Cm (M++A):=by
 let a:D.Loc:=[@(.ref tp),some .non,none,none,none]
 have E:Cm (M++[O.ins "Table" []]):=B.push (o:=.ins "Table" []) rfl;have u:(M++[O.ins "Table" []])[M.length]?=some (.ins "Table" []):=by simp
 have d:=gZ (n:=n) E u q.app o hw Y;have g:∀(i:Nat) (v:i<5),bh (.ref tp) (.int i) M=.ok ([k,s,l,r,t][i]'(~~~v)) M:=λ i v=>cF (by erw[aM,getL,S]) (~~~v);have Q:bh (.ref tp) (.int 0) M=.ok k M:=g 0 'd';have P:bh (.ref tp) (.int 1) M=.ok s M:=g 1 'd';have N:bh (.ref tp) (.int 2) M=.ok l M:=g 2 'd';have K:bh (.ref tp) (.int 3) M=.ok r M:=g 3 'd';have J:bh (.ref tp) (.int 4) M=.ok t M:=g 4 'd';have C:aR (Cn pg (n+1+1+1+1)) %[.idx @0 @(0),.idx @0 @(1),.idx @0 @(2),.idx @0 @(3),|.idx @0 @(4)] a M=.ok [k,s,l,r,t] M:=by erw[a,EWs,Q,P,N,K,J]
 rw[bE rfl];cases hf:aP R (2^ks.length) ss.length with
 |none=>
  rw[hf] at d;let⟨Z,e⟩:=d;have V:(M++[O.ins "Table" []]).set M.length (.ins "Table" (F5 ks ss ls R L))=M++[.ins "Table" (F5 ks ss ls R L)]:=by simp
  rw[V] at e;refine⟨[.ins "Table" (F5 ks ss ls R L)],?_,B.push (o:=.ins "Table" (F5 ks ss ls R L)) (bM _ (by simp[aB,aK,bD,fU]))⟩;refine bO (d:=⟨1,5,Fo⟩) rfl rfl ?_;show aC _ Fo [@(.ref tp),none,none,none,none] M=_;have x:=Fc (hw:=.drop) C e;rw[Fo,aj (Z1:=a) (aN (w:=.non) (m1:=M) (by erw[EVs]) rfl)];rw[aj (Z1:=a) (m1:=M++[.ins "Table" (F5 ks ss ls R L)]) (IF (by rw[aj x,ay]) (λ _ _ _ h=>by cases h))];rw[aU (bz (w:=.non) (m1:=M++[.ins "Table" (F5 ks ss ls R L)]) (by erw[a,EWs]))];rfl
 |some w=>
  rw[hf] at d;let⟨Z,e⟩:=d;have I:=U w hf
  let f:=M++[O.ins "Table" []]
  let M2:=f++[O.exc "NoTable" "fault" [w]]
  have X:Cm M2:=E.push (o:=.exc "NoTable" "fault" [w]) (bM _ (by simp[aB,I]));refine⟨[.ins "Table" [],.exc "NoTable" "fault" [w]],?_,by simpa[f,M2] using X⟩;refine bO (d:=⟨1,5,Fo⟩) rfl rfl ?_;show aC _ Fo [@(.ref tp),none,none,none,none] M=_;have x:=Fd (hw:=.drop) C e;have j:M2[f.length]?=some (.exc "NoTable" "fault" [w]):=by simp[M2]
  have y:dI (.isx [("NoTable",false),("RelayError",false)]) (.ref f.length) M2=.ok (.bl false) M2:=by erw[dI,mD,j];rfl
  have H:dI (.isx [("NoTable",true),("RelayError",false)]) (.ref f.length) M2=.ok (.bl true) M2:=by erw[dI,mD,j];rfl
  have G:dI (.isx [("NoTable",true),("RelayError",true)]) (.ref f.length) M2=.ok (.bl true) M2:=by erw[dI,mD,j];rfl
  have F:dI (.xfl "fault" ["NoTable"]) (.ref f.length) M2=.ok w M2:=by erw[dI,w5,j];rfl
  rw[Fo,aj (Z1:=a) (aN (w:=.non) (m1:=M) (by erw[EVs]) rfl)];have T:bf (Cn pg (n+1+1+1+1)) (.tr %[|.xc .drop (.some "Table") 2 %[.idx @0 @(0),.idx @0 @(1),.idx @0 @(2),.idx @0 @(3),|.idx @0 @(4)]] ["NoTable","RelayError"] (.some 2) %[.asg (.pt @1) (.cst (.str "another")),.asg (.pt @3) (.fus (.isx [("NoTable",false),("RelayError",false)]) @2),.asg (.pt @4) (.fus (.isx [("NoTable",false),("RelayError",false)]) @2),|.ife (.and (.fus (.isx [("NoTable",true),("RelayError",false)]) @2) (.and (.fus (.isx [("NoTable",true),("RelayError",true)]) @2) (.and (.not @3) (.not @4)))) %[|.asg (.pt @1) (.fus (.xfl "fault" ["NoTable"]) @2)] .nil]) a M=.ok (.nx [@(.ref tp),some w,none,@(.bl false),@(.bl false)]) M2:=by
   rw[IG (m1:=f) (m2:=M2) (fl:=.nx [@(.ref tp),some w,@(.ref f.length),@(.bl false),@(.bl false)]) (eF x) rfl ?_]
   .rfl
   .show aC _ _ [@(.ref tp),some .non,@(.ref f.length),none,none] M2=_;rw[aj (Z1:=[@(.ref tp),@(.str "another"),@(.ref f.length),none,none]) (aN (m1:=M2) (by erw[EVs]) rfl)];rw[aj (Z1:=[@(.ref tp),@(.str "another"),@(.ref f.length),@(.bl false),none]) (aN (w:=.bl false) (m1:=M2) (by erw[EWs,y]) rfl)];rw[aj (Z1:=[@(.ref tp),@(.str "another"),@(.ref f.length),@(.bl false),@(.bl false)]) (aN (w:=.bl false) (m1:=M2) (by erw[EWs,y]) rfl)];rw[aj (Z1:=[@(.ref tp),some w,@(.ref f.length),@(.bl false),@(.bl false)]) (m1:=M2) (by
     rw[ou (m1:=M2) (by erw[EVs,fF,fG,fH,fJ,fK,fL,fM,fN,cP,cQ,fO,dj,dm,dw,eV,fP,fQ,dz,fR,dB,eW,fY,dZ,bH,bP,eX,lN,lO,lP,lQ,H,G,D.truthy,Qp,Nf]),aj (aN (w:=w) (m1:=M2) (by erw[EWs,F]) rfl),ay];rfl),ay]
  rw[aj T];rw[aU (bz (w:=w) (m1:=M2) (by erw[EWs]))];simp[f,M2]
theorem IU:∀d:Fin 26,(Builtin.Str.occurrences "abcdefghijklmnopqrstuvwxyz" ⟨#[97+d.val]⟩ 0 26 1).head?=some d.val:=by decide +kernel
abbrev ab:W:=.str "abcdefghijklmnopqrstuvwxyz"
theorem K5{c:Nat}(h:97<=c/\c<=122)(m:Mem):aD .In (.str ⟨#[c]⟩) ab m=.ok true m:=by
 have:=IU ⟨c - 97,by omega⟩;have e:97+(c - 97)=c:=by omega
 rw[e] at this;erw[aD,pG];rw[show ("abcdefghijklmnopqrstuvwxyz":Str).length=26 from by decide +kernel];cases z:Builtin.Str.occurrences "abcdefghijklmnopqrstuvwxyz" ⟨#[c]⟩ 0 26 1 with
 |nil=>rw[z] at this;cases this
 |cons a b=>rfl
theorem qF(h:Wd z):aL (D.runN pg (n+1) 19) [.str z] M=.ok (.bl true) M:=by
 refine cD (m1:=[]) rfl (bO (d:=⟨1,2,JB⟩) rfl rfl ?_) rfl;show aC _ JB [@(.str z),none] []=_;have v:cN (Cn pg n) @0 [@(.str z),none] []=.ok (.tup (signs z)) []:=by simp[jv,jw,ko,kq,pJ,pK,pL,pM,pN,pO,pP,kr,ia,iF,pQ,bg,bG,dW,gX,ef,dX,gR,dJ,bC,dg,dY,dM,dN,er,fh,bT,eU,bN,cR,cH,iD,bZ,iE,cz,fj,gu,R.bind,mG,xq,h.asc]
 have a:=all_gen (C:=Cn pg n) (t:=.var 1) (e:=.cmp .In @1 (.cst ab)) (it:=.var 0) (js:=[1]) (Z:=[@(.str z),none]) (m:=[]) (xs:=signs z) (s:=.tup (signs z)) (B:=λ x=>[@(.str z),some x]) (q:=λ _=>true) Cm.nil v (λ j l=>aO l) (aG 'o') rfl (by have:=h.hi;simp[signs,lim];omega)
  (λ x _=>by simp[fB,aA]) (λ x _ y _=>by simp[aA]) (λ x g=>by
   let⟨c,u,rfl⟩:=Nj.mp g;erw[EWs,K5 (h.az c u)])
 have k:(signs z).all (λ _=>true)=true:=by simp
 rw[k] at a;rw[JB,aU (bz (w:=.bl true) (m1:=[]) ?_)];have F:(1:Int)<=z.length:=by have:=h.lo;rw[lR];omega
 have E:(z.length:Int)<=8:=by have:=h.hi;rw[lR];omega
 have A:z.length<=lim:=by have:=h.hi;rw[lR];simp[lim];omega
 have f:bA .len [.str z] []=.ok (.int z.length) []:=by erw[bA];rw[MW A]
 erw[dX,bC,bG,bg,lN,lO,lP,lQ,aT,bT .len,aH,aX,f,aD,F,E,OP,Nf,a]
def optN:Option Nat->W
 |some s=>.int s
 |none=>.non
theorem misfit{R:List (List Int)}(hm:Cm m)(h:Rows m iS rws R)(hb:many<=1000)(hw:∀r∈R,r.length<=lim) :
  D.runN pg (n+1) 20 [.int many,iS,.int width,.int bound] m=.ok (optN (cG R many width bound)) m:=by
 let L (o5 a:Option W):D.Loc:=[@(.int many),some iS,@(.int width),@(.int bound),o5,a]
 have J:=bJ h.at_;have E:∀o5 a,ao (Cn pg n) (.blt .len %[|@1]) (L o5 a) m=.ok (.int R.length) m:=λ o5 a=>by erw[L,EWs,bK J,h.len]
 have k:∀i a,bB (Cn pg n) (.or (.cmp .GtE @4 (.blt .len %[|@1])) (.or (.cmp .NotEq (.blt .len %[|.idx @1 @4]) @2) (.blt .any %[|.frz (.comp (.gen @5 [5] (.idx @1 @4) .nil (.elt (.not (.chain .LtE .Lt @(0) @5 @3)))))]))) (L (some (.int (i:Nat))) a) m=.ok (dU R width bound i) m:=λ i a=>by
  unfold dU
  by_cases l:i<R.length
  .have u:i<rws.length:=by rw[h.len];exact l
   have K:=h.row i u l;let⟨s,s1,I,Y⟩:=sd K;have P:ao (Cn pg n) (.idx @1 @4) (L @(.int i) a) m=.ok rws[i] m:=by erw[L,EWs,cF J u]
   have N:=any_gen (C:=Cn pg n) (m:=m) (t:=.var 5) (e:=.not (.chain .LtE .Lt @(0) @5 @3)) (it:=.idx @1 @4) (js:=[5]) (Z:=L @(.int i) a) (xs:=R[i].map .int) (s:=s) (B:=λ x=>L @(.int i) (some x)) (q:=λ w=>!Br bound (vC w)) hm (by rw[jw,P];exact s1) (λ j hj=>by rw[I,aO hj]) (by rw[I];exact aG 'o') Y
    (by rw[M0];exact hw _ (NF l)) (λ x _=>by simp[L,fB,aA]) (λ x _ y _=>by simp[L,aA]) (λ x hx=>by
     let⟨z,hz,rfl⟩:=Nj.mp hx;erw[L,EWs,aD,Br,vC]
     by_cases T:0<=z<;>by_cases S:z<bound<;>simp[T,S,aT])
   have e3:((R[i].map W.int).any λ w=>!Br bound (vC w))=!R[i].all (Br bound):=by rw[Qs,not_all_eq_any_not];rfl
   rw[e3] at N;have X:ao (Cn pg n) (.blt .len %[|.idx @1 @4]) (L @(.int i) a) m=.ok (.int R[i].length) m:=by rw[bT,aH,P];erw[aT,aX,bK K,M0]
   have U:ao (Cn pg n) @2 (L @(.int i) a) m=.ok (.int width) m:=rfl;have A:ao (Cn pg n) @4 (L @(.int i) a) m=.ok (.int i) m:=rfl;have H:¬(R.length:Int)<=i:=by omega
   rw[M9 l];erw[fY,bH,cQ,U,A,aT,E,X,N,aD,H,LA,Po,MY,Np,D.truthy]
   by_cases z:R[i].length=width
   .simp[z]
   .simp[z]
  .rw[O3 'o'];have H:(R.length:Int)<=i:=by omega
   have A:ao (Cn pg n) @4 (L @(.int i) a) m=.ok (.int i) m:=rfl;erw[fY,bH,A,aT,E,aD,H,OP,Nf]
 have v:=iQ (C:=Cn pg n) (t:=.var 4) (it:=.rng @0) (b:=uc) (Z:=L none none) (m:=m) (m1:=m) (s:=.rng 0 many) (n:=many) (jf (by erw[L,EWs]) 'o') rfl (dU R width bound)
  (λ i Z g=>g=m/\∃o5 a,Z=L o5 a) (λ i f g=>g=m/\f=.rt (.int i)) (λ i f g ⟨_,e⟩=>by rw[e];trivial) ⟨rfl,_,_,rfl⟩ (λ i Z g l=>by
   rintro⟨rfl,o5,a,rfl⟩;refine⟨.int i,L @(.int i) a,by rw[aI l];simp,by simp[L,aA],λ F=>?_,λ F=>?_⟩
   .have c:=k i a;rw[F] at c;refine⟨_,_,?_,rfl,rfl⟩;rw[uc,aU];rw[ou c,aU (bz (w:=.int i) (m1:=g) (by erw[L,EWs]))]
   .have c:=k i a;rw[F] at c;refine⟨L @(.int i) a,g,.inl ?_,rfl,_,_,rfl⟩;rw[uc,aj (Z1:=L @(.int i) a) (by rw[gT c,ay]),ay]) (fun Z m _=>aF 'o')
 refine bO (d:=⟨4,6,JC⟩) rfl rfl ?_;show aC _ JC (L none none) m=_;rw[JC];unfold cG;cases e:nc (dU R width bound) many 0 with
 |some i=>
  rw[e] at v;let⟨f,g,G,rfl,rfl⟩:=v;rw[aU G];rfl
 |none=>
  rw[e] at v;let⟨Q,g,G,rfl,o5,a,rfl⟩:=v;rw[aj G];have c:bB (Cn pg n) (.cmp .Gt (.blt .len %[|@1]) @0) (L o5 a) g=.ok (decide (many<R.length)) g:=by
   have V:ao (Cn pg n) @0 (L o5 a) g=.ok (.int many) g:=rfl;erw[bH,E,V,aT,aD];simp
  rw[aU (bz (w:=if many<R.length then .int many else .non) (m1:=g) (by
   rw[dg,c]
   by_cases z:many<R.length
   .erw[z,OP,aT,Nf];rfl
   .erw[z,Po,aT,Np,MY];rfl))]
  by_cases z:many<R.length<;>simp[z,optN]
theorem Wd.small(h:Wd z):z.cps.all (· < 0x110000)=true:=by
 rw[Array.all_eq_true];intro i a;have:=h.az z.cps[i] 's';simp;omega
structure Told(M:Mem)(tp ra:Nat)(ks ss ls:List Str)(rws:List W)(R L:List (List Int)):Prop where
 at_:M[tp]?=@(.lst [aS ks,aS ss,aS ls,.ref ra,.fz (L.map tupI)])
 r:Rows M (.ref ra) rws R
theorem yZ:Rows M (.fz (L.map tupI)) (L.map tupI) L:=⟨rfl,by simp,λ i h a=>by simp[aM]⟩
theorem Told.parts{ra:Nat}{R:List (List Int)}(h:Told M tp ra ks ss ls rws R L):Parts M (aS ks) (aS ss) (aS ls) (.ref ra) (.fz (L.map tupI)) ks ss ls rws (L.map tupI) R L:=⟨rfl,rfl,rfl,h.r,yZ⟩
theorem Told.app{l:Mem}{ra:Nat}{R:List (List Int)}(h:Told M tp ra ks ss ls rws R L):Told (M++l) tp ra ks ss ls rws R L:=
 ⟨by rw[ML (MG.mp h.at_).1];exact h.at_,h.r.app⟩
section
variable{M:Mem}{tp ra:Nat}{ks ss ls:List Str}{rws:List W}{R L:List (List Int)}
abbrev LF(tp ra:Nat)(ks ss ls:List Str)(L:List (List Int))(o7 o8 o9 gU f e a h g:Option W):D.Loc:=
 [@(.ref tp),@(aS ks),@(aS ss),@(aS ls),@(.ref ra),@(.fz (L.map tupI)),@(aS (ks++ss++ls)),o7,o8,o9,gU,f,e,a,h,g,none,none]
theorem qG(l:Cm M)(o:ly ks ss ls L):∃o7 o8,bf (Cn pg (n+1)) (.for_ (.tup %[@7,|@8]) (.enm @6) ud) (LF tp ra ks ss ls L none none none none none none none none none) M=.ok (.nx (LF tp ra ks ss ls L o7 o8 none none none none none none none)) M:=by
 let ws:=ks++ss++ls
 have f:ws.length<=8:=by have:=o.k2;have:=o.s4;have:=o.l2;simp[ws];omega
 let⟨h,B,y,rfl,o7,o8,rfl⟩:=cW (C:=Cn pg (n+1)) (t:=.tup %[@7,|@8]) (it:=.enm @6) (b:=ud) (Z:=LF tp ra ks ss ls L none none none none none none none none none) (m:=M) (m1:=M) (s:=.enm (.tup (ws.map .str))) (n:=ws.length) (by simp[jv,jw,ko,kq,pJ,pK,pL,pM,pN,pO,pP,kr,ia,iF,pQ,bg,bG,dW,gX,ef,dX,gR,dJ,bC,dg,dY,dM,dN,er,fh,bT,eU,bN,cR,cH,iD,bZ,iE,cz,fj,gu,bg,bG,dW,ef,dX,gR,dJ,bC,dg,dY,dM,dN,er,cu,bT,eU,bN,cR,cH,ji,bZ,jh,cz,aX,aH,g8,g9,aT,srcOf,ws]) (by simp[Src.len])
  (λ i Z m=>m=M/\∃o7 o8,Z=LF tp ra ks ss ls L o7 o8 none none none none none none none) ⟨rfl,_,_,rfl⟩ (λ i Z m e=>by
   rintro⟨rfl,o7,o8,rfl⟩;have a:=o.wd ws[i] (NF e);refine⟨.tup [.int i,.str ws[i]],LF tp ra ks ss ls L @(.int i) @(.str ws[i]) none none none none none none none,LF tp ra ks ss ls L @(.int i) @(.str ws[i]) none none none none none none none,m,?_,by simp[LF,aA,bR],.inl ?_,rfl,_,_,rfl⟩
   .rw[dF (w:=.str ws[i])];rw[aO (~~~e)];simp
   .have k:ao (Cn pg (n+1)) (.frz (.slc @6 .none (.some @7))) (LF tp ra ks ss ls L @(.int i) @(.str ws[i]) none none none none none none none) m=.ok (aS (ws.take i)) m:=by
     refine bw (m0:=m) ?_ rfl l (bD _);have v:ju (aS ws) none (some (i:Int)) m=.ok (.ref m.length) (m++[.lst ((ws.take i).map .str)]):=by
      have u:i<=(ws.map W.str).length:=by simp;omega
      erw[ju,getL,new,Af,HT.fy];have A:HT.fy (ws.map W.str).length 0 none=0:=rfl;have g:HT.fy (ws.map W.str).length (ws.map W.str).length (some (i:Int))=i:=by
       erw[HT.fy];split<;>simp<;>omega
      erw[HT.fy] at A g;rw[g];simp[map_take]
     erw[EWs,LF];exact v
    have q:aD .In (.str ws[i]) (aS (ws.take i)) m=.ok false m:=by
     have:=qB (m:=m) (z:=ws[i]) (ws:=ws.take i) a.small λ z a=>(o.wd z (mem_of_mem_take a)).small;erw[aD,pG];rw[this,Ng (kX o.nd e)]
    have x:bB (Cn pg (n+1)) (.or (.not (.call 19 %[|@8])) (.cmp .In @8 (.frz (.slc @6 .none (.some @7))))) (LF tp ra ks ss ls L @(.int i) @(.str ws[i]) none none none none none none none) m=.ok false m:=by
     have j:ao (Cn pg (n+1)) @8 (LF tp ra ks ss ls L @(.int i) @(.str ws[i]) none none none none none none none) m=.ok (.str ws[i]) m:=rfl;erw[fY,dZ,cP,cu,aH,aX,j,aT,qF a,D.truthy,NU,MY,Np,bH,k,q]
    rw[ud,aj (Z1:=LF tp ra ks ss ls L @(.int i) @(.str ws[i]) none none none none none none none) (m1:=m) (by rw[gT x,ay]),ay])
  (fun Z m _=>by rw[cJ];exact aG 's')
 exact⟨o7,o8,y⟩
end
section
variable{M:Mem}{tp ra:Nat}{ks ss ls:List Str}{rws:List W}{R L:List (List Int)}
abbrev K3:List W:=[.tup [.int 0,.int 0,.int 2],.tup [.int 1,.int 2,.int 4],.tup [.int 2,.int 0,.int 2]]
theorem sy{o7 o8:Option W}(w:Cm M)(h:Told M tp ra ks ss ls rws R L)(o:ly ks ss ls L):∃f o9 gU,bf (Cn pg n) (.for_ (.tup %[@7,@9,|@10]) (.frz (.lst %[.tup %[@(0),@(0),|@(2)],.tup %[@(1),@(2),|@(4)],|.tup %[@(2),@(0),|@(2)]])) qD) (LF tp ra ks ss ls L o7 o8 none none none none none none none) M=.ok (.nx (LF tp ra ks ss ls L f o8 o9 gU none none none none none)) M:=by
 have B:cN (Cn pg n) (.frz (.lst %[.tup %[@(0),@(0),|@(2)],.tup %[@(1),@(2),|@(4)],|.tup %[@(2),@(0),|@(2)]])) (LF tp ra ks ss ls L o7 o8 none none none none none none none) M=.ok (.tup K3) M:=by
  rw[kq,bw (m0:=M) (xs:=K3) ?_ rfl w rfl]
  .rfl
  .have u:∀a b c:W,([a,b,c]:List W).length<=lim:=λ _ _ _=>by simp[lim]
   erw[EVs,u,Nf,new]
 let⟨q,K,E,rfl,f,o9,gU,rfl⟩:=cW (C:=Cn pg n) (t:=.tup %[@7,@9,|@10]) (b:=qD) (m1:=M) (s:=.tup K3) (n:=3) B rfl
  (λ i Z m=>m=M/\∃o7 o9 gU,Z=LF tp ra ks ss ls L o7 o8 o9 gU none none none none none) ⟨rfl,_,_,_,rfl⟩ (λ i Z m Q=>by
   rintro⟨rfl,o7,o9,gU,rfl⟩;have l:∀(a:Nat) (x y:Int) (e:List Str),bh (.ref tp) (.int a) m=.ok (aS e) m->x<=e.length->(e.length:Int)<=y->
     aC (Cn pg n) qD (LF tp ra ks ss ls L @(.int a) o8 @(.int x) @(.int y) none none none none none) m=.ok (.nx (LF tp ra ks ss ls L @(.int a) o8 @(.int x) @(.int y) none none none none none)) m:=λ a x y e H G F=>by
    have v:bA .len [aS e] m=.ok (.int e.length) m:=by rw[bK (xs:=e.map .str) rfl,M0]
    have A:bB (Cn pg n) (.not (.chain .LtE .LtE @9 (.blt .len %[|.idx @0 @7]) @10)) (LF tp ra ks ss ls L @(.int a) o8 @(.int x) @(.int y) none none none none none) m=.ok false m:=by
     erw[LF,EVs,fF,fG,fH,fJ,fK,fL,fM,fN,cP,cQ,fO,dj,dm,dw,eV,fP,fQ,dz,fR,dB,eW,fY,dZ,bH,bP,eX,lN,lO,lP,lQ,H,v,aD,G,F,OP,Nf,NU]
    rw[qD,aj (Z1:=LF tp ra ks ss ls L @(.int a) o8 @(.int x) @(.int y) none none none none none) (m1:=m) (by rw[gT A,ay]),ay]
   have g:∀(j:Nat) (k:j<5),bh (.ref tp) (.int j) m=.ok ([aS ks,aS ss,aS ls,.ref ra,.fz (L.map tupI)][j]'(~~~k)) m:=λ j k=>cF (by erw[aM,getL,h.at_]) (~~~k);have P:=o.k2;have J:=o.s2;have I:=o.s4;have N:=o.l2;rcases (by omega:i=0\/i=1\/i=2) with rfl | rfl | rfl
   .exact⟨_,_,_,m,rfl,rfl,.inl (l 0 0 2 ks (g 0 'd') 'o' 'o'),rfl,_,_,_,rfl⟩
   .exact⟨_,_,_,m,rfl,rfl,.inl (l 1 2 4 ss (g 1 'd') 'o' 'o'),rfl,_,_,_,rfl⟩
   .exact⟨_,_,_,m,rfl,rfl,.inl (l 2 0 2 ls (g 2 'd') 'o' 'o'),rfl,_,_,_,rfl⟩)
  (fun Z m _=>rfl)
 exact⟨_,_,_,E⟩
abbrev P2(ra:Nat)(ks ss ls:List Str)(L:List (List Int)):List W:=[.tup [.str "row",.ref ra,.int (2^ks.length:Nat),.int ss.length],.tup [.str "lights",.fz (L.map tupI),.int ls.length,.int 2]]
theorem qH{o7 o8 o9 gU:Option W}(v:Cm M)(h:Told M tp ra ks ss ls rws R L)(o:ly ks ss ls L)(hw:∀r∈R,r.length<=lim) :
  match cG R ss.length (2^ks.length) ss.length with
   |some s=>bf (Cn pg (n+1)) (.for_ (.tup %[@8,@11,@12,|@13]) (.frz (.lst %[.tup %[.cst (.str "row"),@4,.bin .LShift @(1) (.blt .len %[|@1]),|.blt .len %[|@2]],|.tup %[.cst (.str "lights"),@5,.blt .len %[|@3],|@(2)]])) nu) (LF tp ra ks ss ls L o7 o8 o9 gU none none none none none) M=.ok (.rt (oH "row" s)) M
   |none=>∃j G F E CO,bf (Cn pg (n+1)) (.for_ (.tup %[@8,@11,@12,|@13]) (.frz (.lst %[.tup %[.cst (.str "row"),@4,.bin .LShift @(1) (.blt .len %[|@1]),|.blt .len %[|@2]],|.tup %[.cst (.str "lights"),@5,.blt .len %[|@3],|@(2)]])) nu) (LF tp ra ks ss ls L o7 o8 o9 gU none none none none none) M=.ok (.nx (LF tp ra ks ss ls L o7 j o9 gU G F E CO none)) M:=by
 have q:∀f,bA .len [aS f] M=.ok (.int f.length) M:=λ f=>by rw[bK (xs:=f.map .str) rfl,M0]
 have U:ra<M.length:=by
  have:=h.r.at_;erw[getL] at this;split at this
  .ext e;exact(MG.mp e).1
  .cases this
 have k2:=o.k2;have s4:=o.s4;have Q:(0:Int)<=ks.length/\(ks.length:Int)<=1000000/\(1:Int).natAbs<2^64:=⟨by omega,by omega,by decide⟩;have P:(1:Int)*2^((ks.length:Int)).toNat=((2^ks.length:Nat):Int):=by simp
 have A:cN (Cn pg (n+1)) (.frz (.lst %[.tup %[.cst (.str "row"),@4,.bin .LShift @(1) (.blt .len %[|@1]),|.blt .len %[|@2]],|.tup %[.cst (.str "lights"),@5,.blt .len %[|@3],|@(2)]])) (LF tp ra ks ss ls L o7 o8 o9 gU none none none none none) M=.ok (.tup (P2 ra ks ss ls L)) M:=by
  rw[kq,jg (m0:=M) (l:=[.lst (P2 ra ks ss ls L)]) (w:=.ref M.length) (w1:=.fz (P2 ra ks ss ls L)) ?_ rfl v ?_]
  .rfl
  .have H:∀a b c d:W,([a,b,c,d]:List W).length<=lim:=λ _ _ _ _=>by simp[lim]
   have I:∀a b:W,([a,b]:List W).length<=lim:=λ _ _=>by simp[lim]
   erw[LF,EWs,q,binop,Q,and_self,P,H,I,Nf,new]
  .have u:(M++[O.lst (P2 ra ks ss ls L)])[M.length]?=some (.lst (P2 ra ks ss ls L)):=by simp
   have J:d9 (jK (M++[O.lst (P2 ra ks ss ls L)]) M.length 7) (L.map tupI)=some (L.map tupI):=cK _ (fU L);have K:jK (M++[O.lst (P2 ra ks ss ls L)]) M.length 7 ra=some (.ref ra):=by rw[jK,MW U]
   have N:jK (M++[O.lst (P2 ra ks ss ls L)]) M.length (7+1) M.length=(d9 (jK (M++[O.lst (P2 ra ks ss ls L)]) M.length 7) (P2 ra ks ss ls L)).map .fz:=by
    rw[jK,M8 'o',u]
   show jK (M++[O.lst (P2 ra ks ss ls L)]) M.length (7+1) M.length=_;rw[N];erw[P2,d9,jB,K,J,Oj]
 have V:=misfit (n:=n) (many:=ss.length) (width:=2^ks.length) (bound:=ss.length) v h.r 'o' hw;have T:∀r∈L,r.length<=lim:=λ x u=>by rw[(o.te x u).1];have:=o.l2;simp[lim];omega
 have Y:aL (D.runN pg (n+1) 20) [.int ss.length,.fz (L.map tupI),.int ls.length,.int 2] M=.ok .non M:=by
  refine cD (m1:=[]) (by simp[aB,aK,fU]) ?_ rfl;rw[misfit (n:=n) Cm.nil yZ 'o' T,nv o.tl o.te];rfl
 have X:aL (D.runN pg (n+1) 20) [.int ss.length,.ref ra,.int (2^ks.length:Nat),.int ss.length] M=.ok (optN (cG R ss.length (2^ks.length) ss.length)) M:=by rw[bE rfl,V]
 have C:aA (.tup %[@8,@11,@12,|@13]) (.tup [.str "row",.ref ra,.int (2^ks.length:Nat),.int ss.length]) (LF tp ra ks ss ls L o7 o8 o9 gU none none none none none)=some (LF tp ra ks ss ls L o7 @(.str "row") o9 gU @(.ref ra) @(.int (2^ks.length:Nat)) @(.int ss.length) none none):=by simp[LF,aA,bR]
 have B:∀w,optN (cG R ss.length (2^ks.length) ss.length)=w->bf (Cn pg (n+1)) (.asg (.pt @14) (.call 20 %[.blt .len %[|@2],@11,@12,|@13])) (LF tp ra ks ss ls L o7 (some (.str "row")) o9 gU (some (.ref ra)) (some (.int (2^ks.length:Nat))) (some (.int ss.length)) none none) M=.ok (.nx (LF tp ra ks ss ls L o7 (some (.str "row")) o9 gU (some (.ref ra)) (some (.int (2^ks.length:Nat))) (some (.int ss.length)) (some w) none)) M:=λ w hw=>by
  refine aN (w:=w) (m1:=M) ?_ rfl;erw[LF,EWs,q,X,hw]
 cases y:cG R ss.length (2^ks.length) ss.length with
 |some s=>
  refine kZ A (Bf (x:=.tup [.str "row",.ref ra,.int (2^ks.length:Nat),.int ss.length]) (k:=1) rfl C ?_);have g:bB (Cn pg (n+1)) (.cmp .IsNot @14 (.cst .non)) (LF tp ra ks ss ls L o7 @(.str "row") o9 gU @(.ref ra) @(.int (2^ks.length:Nat)) @(.int ss.length) @(.int s) none) M=.ok true M:=by erw[LF,EVs,fF,fG,fH,fJ,fK,fL,fM,fN,cP,cQ,fO,dj,dm,dw,eV,fP,fQ,dz,fR,dB,eW,fY,dZ,bH,bP,eX,lN,lO,lP,lQ,aD,jt,Qp]
  rw[nu,aj (B (.int s) (by rw[y];rfl)),aU];rw[ou g,aU (bz (w:=oH "row" s) (m1:=M) ?_)];erw[LF,EWs];rw[MW 'm']
 |none=>
  refine⟨some (.str "lights"),@(.fz (L.map tupI)),@(.int ls.length),@(.int 2),some .non,kZ A ?_⟩;have g:∀a b c d,bB (Cn pg (n+1)) (.cmp .IsNot @14 (.cst .non)) (LF tp ra ks ss ls L o7 a o9 gU b c d (some .non) none) M=.ok false M:=λ a b c d=>by erw[LF,EVs,fF,fG,fH,fJ,fK,fL,fM,fN,cP,cQ,fO,dj,dm,dw,eV,fP,fQ,dz,fR,dB,eW,fY,dZ,bH,bP,eX,lN,lO,lP,lQ,aD,jt,NU]
  have S:aA (.tup %[@8,@11,@12,|@13]) (.tup [.str "lights",.fz (L.map tupI),.int ls.length,.int 2]) (LF tp ra ks ss ls L o7 @(.str "row") o9 gU @(.ref ra) @(.int (2^ks.length:Nat)) @(.int ss.length) (some .non) none)=some (LF tp ra ks ss ls L o7 @(.str "lights") o9 gU @(.fz (L.map tupI)) @(.int ls.length) @(.int 2) (some .non) none):=by simp[LF,aA,bR]
  show dR (Src.tup (P2 ra ks ss ls L)).get _ _ 2 0 _ M=_;rw[jN (x:=.tup [.str "row",.ref ra,.int (2^ks.length:Nat),.int ss.length]) (Z2:=LF tp ra ks ss ls L o7 @(.str "row") o9 gU @(.ref ra) @(.int (2^ks.length:Nat)) @(.int ss.length) (some .non) none) (m2:=M) rfl C (by
   rw[nu,aj (B .non (by rw[y];rfl)),aj (m1:=M) (by rw[gT (g _ _ _ _),ay]),ay])]
  rw[jN (x:=.tup [.str "lights",.fz (L.map tupI),.int ls.length,.int 2]) (Z2:=LF tp ra ks ss ls L o7 @(.str "lights") o9 gU @(.fz (L.map tupI)) @(.int ls.length) @(.int 2) (some .non) none) (m2:=M) rfl S (by
   rw[nu,aj (m1:=M) (aN (w:=.non) (m1:=M) (by erw[LF,EWs,q,Y]) rfl),aj (m1:=M) (by
    show bf _ _ (LF tp ra ks ss ls L o7 @(.str "lights") o9 gU @(.fz (L.map tupI)) @(.int ls.length) @(.int 2) (some .non) none) M=_;rw[gT (g _ _ _ _),ay]),ay])]
  exact kU rfl
end
section
variable{M:Mem}{tp ra:Nat}{ks ss ls:List Str}{rws:List W}{R L:List (List Int)}
theorem vD(y:Cm M)(h:Told M tp ra ks ss ls rws R L)(o:ly ks ss ls L)(hw:∀r∈R,r.length<=lim):aL (D.runN pg (n+1+1) 21) [.ref tp] M=.ok ((aP R (2^ks.length) ss.length).getD .non) M:=by
 rw[bE rfl];refine bO (d:=⟨1,18,JD⟩) rfl rfl ?_;show aC _ JD [@(.ref tp),none,none,none,none,none,none,none,none,none,none,none,none,none,none,none,none,none] M=_;have a1:bf (Cn pg (n+1)) (.asg (.tup %[.pt @1,.pt @2,.pt @3,.pt @4,|.pt @5]) @0) [@(.ref tp),none,none,none,none,none,none,none,none,none,none,none,none,none,none,none,none,none] M=.ok (.nx [@(.ref tp),@(aS ks),@(aS ss),@(aS ls),@(.ref ra),@(.fz (L.map tupI)),none,none,none,none,none,none,none,none,none,none,none,none]) M:=by
  erw[gf,bg,lN,lO,lP,lQ,aT,fC,aM,getL,h.at_,eT,aA]
 have V:=o.k2;have s4:=o.s4;have l2:=o.l2;have c1:(ks.map W.str).length+(ss.map W.str).length<=lim:=by simp[lim];omega
 have c2:((ks++ss).map W.str).length+(ls.map W.str).length<=lim:=by simp[lim];omega
 let E:D.Loc:=[@(.ref tp),@(aS ks),@(aS ss),@(aS ls),@(.ref ra),@(.fz (L.map tupI)),none,none,none,none,none,none,none,none,none,none,none,none]
 have f1:ao (Cn pg (n+1)) (.frz (.bin .Add @1 @2)) E M=.ok (aS (ks++ss)) M:=by
  refine bw (m0:=M) ?_ rfl y (bD _);erw[E,EWs];rw[um (xs:=ks.map .str) (ys:=ss.map .str) rfl rfl c1,NZ]
 have f2:ao (Cn pg (n+1)) (.frz (.bin .Add (.frz (.bin .Add @1 @2)) @3)) E M=.ok (aS (ks++ss++ls)) M:=by
  refine bw (m0:=M) ?_ rfl y (bD _);have S:ao (Cn pg (n+1)) @3 E M=.ok (aS ls) M:=rfl;rw[dW,f1];erw[aT,S];rw[um (xs:=(ks++ss).map .str) (ys:=ls.map .str) rfl rfl c2,NZ (l₁:=ks++ss)]
 let⟨o7,o8,Q⟩:=qG (n:=n) (tp:=tp) (ra:=ra) y o;let⟨g,o9,gU,P⟩:=sy (n:=n+1) (o7:=o7) (o8:=o8) y h o;have x:=qH (n:=n) (o7:=g) (o8:=o8) (o9:=o9) (gU:=gU) y h o hw;rw[JD,aj a1,aj (Z1:=LF tp ra ks ss ls L none none none none none none none none none) (aN f2 rfl),aj Q,aj P];unfold aP;cases G:cG R ss.length (2^ks.length) ss.length with
 |some s=>
  rw[G] at x;rw[aU x];rfl
 |none=>
  rw[G] at x;let⟨j,v,u,l,F,x⟩:=x;rw[aj x];let⟨g1,g2⟩:=jy G;have hR:Fp R (2^ks.length):=λ r Y=>by rw[g1];exact g2 r Y
  let⟨s,U,J,T⟩:=gA (bJ h.r.at_);have B:=iQ (C:=Cn pg (n+1)) (t:=.tup %[@14,|@15]) (it:=.enm @4) (b:=ue) (Z:=LF tp ra ks ss ls L g j o9 gU v u l F none) (m:=M) (m1:=M) (s:=.enm s) (n:=R.length) (by erw[iF,bg,LF,lN,lO,lP,lQ,aT,U]) (by erw[Src.len,T,h.r.len]) (oF R)
   (λ i Z k=>k=M/\∃F K,Z=LF tp ra ks ss ls L g j o9 gU v u l F K) (λ i f k=>k=M/\f=.rt (oH "unsettled" i)) (λ i f k ⟨_,e⟩=>by rw[e];trivial) ⟨rfl,_,_,rfl⟩ (λ i Z k hi=>by
    rintro⟨rfl,F,K,rfl⟩;have A:i<rws.length:=by rw[h.r.len];exact hi
    have c:=qE (C:=Cn pg (n+1)) (a:=16) (b:=17) (r:=15) (w:=4) (Z:=LF tp ra ks ss ls L g j o9 gU v u l @(.int i) (some rws[i])) y h.r hR (by have:=lz V;simp[lim];omega) A 's' 's' 'd' 'd' 'd' 'd' 'd' rfl rfl;refine⟨.tup [.int i,rws[i]],LF tp ra ks ss ls L g j o9 gU v u l @(.int i) (some rws[i]),?_,by simp[LF,aA,bR],λ H=>?_,λ H=>?_⟩
    .rw[dF (w:=rws[i])];rw[J,aO A]
    .rw[H] at c;refine⟨_,_,?_,rfl,rfl⟩;have X:ao (Cn pg (n+1)) (.tup %[.cst (.str "unsettled"),|@14]) (LF tp ra ks ss ls L g j o9 gU v u l @(.int i) (some rws[i])) k=.ok (oH "unsettled" i) k:=by
      erw[LF,EWs];rw[MW 'm']
     rw[ue,aU];rw[ou (jR (cQ _ _) c),aU (bz X)]
    .rw[H] at c;refine⟨LF tp ra ks ss ls L g j o9 gU v u l @(.int i) (some rws[i]),k,.inl ?_,rfl,_,_,rfl⟩;rw[ue,aj (Z1:=LF tp ra ks ss ls L g j o9 gU v u l @(.int i) (some rws[i])) (m1:=k) (by rw[gT (jR (cQ _ _) c),ay]),ay])
   (fun Z k q=>by let⟨rfl,_⟩:=q;rw[cJ (by rw[J];exact aG (by have:=h.r.len;omega))])
  cases e:nc (oF R) R.length 0 with
  |some i=>
   rw[e] at B;let⟨f,k,I,rfl,rfl⟩:=B;rw[aU I];rfl
  |none=>
   rw[e] at B;let⟨N,k,I,rfl,_⟩:=B;rw[aj I,aU (bz (w:=.non) (m1:=k) (by erw[EVs]))];rfl
theorem qI{w:W}{a:Nat}(h:aP R a b=some w):aK w=true:=by
 unfold aP at h;split at h
 .cases h;rfl
 .let⟨i,_,rfl⟩:=ME.mp h;rfl
theorem zc{a:Nat}:∃d,toD 60 m ((aP R a b).getD .non)=some d:=by
 have e:∀(z:Str) (i:Nat),z.cps.all (· < 0x110000)=true->∃d,toD 60 m (oH z i)=some d:=λ z i f=>by
  refine⟨.tuple [.str z,.int i],?_⟩;show toD (58+1+1) m _=_;rw[Bo];erw[dH,oE f];rfl
 unfold aP;split
 .exact e _ _ 'k'
 .cases nc (oF R) R.length 0 with
  |none=>exact⟨.none,rfl⟩
  |some i=>exact e _ _ 'k'
theorem sA{es:Es}(q:aR (Cn pg (n+1+1+1+1)) es Z M=.ok [aS ks,aS ss,aS ls,.ref ra,.fz (L.map tupI)] M)(e:Cm M)(h:Told M tp ra ks ss ls rws R L)(o:ly ks ss ls L)(hw:∀r∈R,r.length<=lim)(v:R.length<=lim)(k:aP R (2^ks.length) ss.length=none) :
  ao (Cn pg (n+1+1+1+1)) (.frz (.make "Table" es)) Z M=.ok (tab ks ss ls R L) M:=by
 have g:(M++[O.ins "Table" []])[M.length]?=some (.ins "Table" []):=by simp
 have a:=gZ (n:=n) (e.push (o:=.ins "Table" []) rfl) g h.parts.app o hw v;rw[k] at a;let⟨x,a⟩:=a;have u:(M++[O.ins "Table" []]).set M.length (.ins "Table" (F5 ks ss ls R L))=M++[.ins "Table" (F5 ks ss ls R L)]:=by simp
 rw[u] at a;have j:cs.ini.lookup ("Table":Str)=some 2:=rfl;refine jg (l:=[.ins "Table" (F5 ks ss ls R L)]) (w:=.ref M.length) ?_ rfl e ?_
 .rw[bZ,q];erw[aT,nR,Cn,pg,j];have:aL (D.runN pg (n+1+1+1+1) 2) [.ref M.length,aS ks,aS ss,aS ls,.ref ra,.fz (L.map tupI)] (M++[O.ins "Table" []])=.ok .non (M++[.ins "Table" (F5 ks ss ls R L)]):=by rw[bE rfl,E9 a];rfl
  erw[pg] at this;rw[this];rfl
 .have f:(M++[O.ins "Table" (F5 ks ss ls R L)])[M.length]?=some (.ins "Table" (F5 ks ss ls R L)):=by simp
  erw[jB,jK,f];rw[M8 'o'];erw[Ni,Qq];rw[cK _ (by simp[aB,aK,bD,fU])];rfl
theorem Bs:pH pg.cs (tab ks ss ls R L) "row_list" m=.ok (.fz (R.map tupI)) m:=rfl
theorem zd:pI pg.cs (tab ks ss ls R L) "goes" m=some 5:=rfl
theorem goes{s x:Nat}(e:s<R.length)(a:x<R[s].length):aL (D.runN pg (n+1) 5) [tab ks ss ls R L,.int s,.int x] m=.ok (.int R[s][x]) m:=by
 refine cD (m1:=[]) (by erw[aB,yY];rfl) (bO (d:=⟨3,3,b5⟩) rfl rfl ?_) rfl;show aC _ b5 [@(tab ks ss ls R L),@(.int s),@(.int x)] []=_;rw[b5,aU (bz (w:=.int R[s][x]) (m1:=[]) ?_)];have g:=cF (m:=[]) (w:=.fz (R.map tupI)) (xs:=R.map tupI) (i:=s) rfl (~~~e);have f:=cF (m:=[]) (w:=tupI R[s]) (xs:=R[s].map .int) (i:=x) rfl (~~~a);erw[EWs,Bs,g,OQ,f]
theorem Bt(G:Cm M)(h:Told M tp ra ks ss ls rws R L)(A:∀(i:Nat) (h:i<rws.length) (h':i<R.length),getL M rws[i]=@(R[i].map .int))(o:ly ks ss ls L)(hw:∀r∈R,r.length<=1000)(CN:R.length<=lim)(Y:aP R (2^ks.length) ss.length=none) :
  aL (D.runN pg (n+1+1+1+1+1) 23) [.ref tp] M=.ok (.bl true) M:=by
 rw[bE rfl];refine bO (d:=⟨1,5,JE⟩) rfl rfl ?_;show aC _ JE [@(.ref tp),none,none,none,none] M=_;have v:∀(j:Nat) (l:j<5),bh (.ref tp) (.int j) M=.ok ([aS ks,aS ss,aS ls,.ref ra,.fz (L.map tupI)][j]'(~~~l)) M:=λ j l=>cF (by erw[aM,getL,h.at_]) (~~~l);have U:bh (.ref tp) (.int 0) M=.ok (aS ks) M:=v 0 'd';have T:bh (.ref tp) (.int 1) M=.ok (aS ss) M:=v 1 'd';have S:bh (.ref tp) (.int 2) M=.ok (aS ls) M:=v 2 'd';have F:bh (.ref tp) (.int 3) M=.ok (.ref ra) M:=v 3 'd';have Q:bh (.ref tp) (.int 4) M=.ok (.fz (L.map tupI)) M:=v 4 'd';have e1:=sA (n:=n) (Z:=[@(.ref tp),none,none,none,none]) (es:=.cons (.idx @0 @(0)) %[.idx @0 @(1),.idx @0 @(2),.idx @0 @(3),|.idx @0 @(4)]) (by erw[EWs,U,T,S,F,Q]) G h o (λ r B=>by have:=hw r B;simp[lim];omega) CN Y;let⟨s,N,E,K⟩:=gA (bJ h.r.at_)
 let f (u o3:Option W):D.Loc:=[@(.ref tp),@(tab ks ss ls R L),u,o3,none]
 let⟨I,a,h1,rfl,u,o3,rfl⟩:=cW (C:=Cn pg (n+1+1+1+1)) (t:=.tup %[@2,|@3]) (it:=.enm (.idx @0 @(3))) (b:=yV) (Z:=f none none) (m:=M) (m1:=M) (s:=.enm s) (n:=R.length) (by erw[f,iF,EWs,F,N]) (by erw[Src.len,K,h.r.len])
  (λ i Z a=>a=M/\∃u o3,Z=f u o3) ⟨rfl,_,_,rfl⟩ (λ i Z a y=>by
   rintro⟨rfl,u,o3,rfl⟩;have k:i<rws.length:=by rw[h.r.len];exact y
   refine⟨.tup [.int i,rws[i]],f @(.int i) (some rws[i]),f @(.int i) (some rws[i]),a,?_,by simp[f,aA,bR],.inl ?_,rfl,_,_,rfl⟩
   .rw[dF (w:=rws[i])];rw[E,aO k]
   .have hl:=hw _ (NF y);have hI:cN (Cn pg (n+1+1+1+1)) (.rng (.blt .len %[|@3])) (f (some (.int i)) (some rws[i])) a=.ok (.rng 0 R[i].length) a:=jf (by erw[f,EWs,bK (h.r.row i k y),M0]) 'o';let⟨Z1,H⟩:=yN (C:=Cn pg (n+1+1+1+1)) (i:=4) (n:=R[i].length) (e:=.mth @1 "goes" %[@2,|@4]) (Z:=fB [4] (f @(.int i) (some rws[i]))) (m:=a) (g:=λ x=>.int (R[i].getD x 0)) (λ j l=>by
     have:=goes (n:=n+1+1+1) (ks:=ks) (ss:=ss) (ls:=ls) (L:=L) (m:=a) (s:=i) (x:=j) y l;erw[f,fB,EWs,zd,this];simp[List.getD,l]) 'l'
    have B:(List.range R[i].length).map (λ x=>W.int (R[i].getD x 0))=R[i].map .int:=by
     apply PM
     .simp
     .intro j P j2;have:j<R[i].length:=by simpa using P
      simp[List.getD,this]
    rw[B] at H;have X:=bw (C:=Cn pg (n+1+1+1+1)) (m0:=a) (cY (js:=[4]) (ifs:=.nil) (g:=.elt (.mth @1 "goes" %[@2,|@4])) hI H) rfl G (iR _);have V:uR a (.fz (R[i].map .int)) rws[i]=.ok true a:=by
     refine t7 (d:=.list (R[i].map .int)) ?_ ?_
     .show toD (58+1+1) a _=_;rw[yS,jj];rfl
     .show toD (58+1+1) a _=_;rw[yT (A i k y),jj];rfl
    have hT:bB (Cn pg (n+1+1+1+1)) (.cmp .NotEq (.frz (.comp (.gen @4 [4] (.rng (.blt .len %[|@3])) .nil (.elt (.mth @1 "goes" %[@2,|@4]))))) @3) (f @(.int i) (some rws[i])) a=.ok false a:=by
     have J:ao (Cn pg (n+1+1+1+1)) @3 (f @(.int i) (some rws[i])) a=.ok rws[i] a:=rfl;erw[bH,X,J,aT,aD,V,NU]
    rw[yV,aj (Z1:=f @(.int i) (some rws[i])) (m1:=a) (by rw[gT hT,ay]),ay])
  (fun Z a q=>by let⟨rfl,_⟩:=q;rw[cJ (by rw[E];exact aG (by have:=h.r.len;omega))])
 rw[JE,aj (Z1:=f none none) (aN e1 rfl),aj h1,aU (bz (w:=.bl true) (m1:=a) (by erw[EVs]))]
end
theorem IX:Draws (D.runN pg (n+1) 13):=by
 intro m p many e a h;let⟨A,B,f⟩:=e;have e:p<m.length:=(MG.mp f).1;have j:∀o:O,(m.set p o)[p]?=some o:=λ o=>by simp[e]
 by_cases g:0<A
 .refine⟨A%many,m.set p (eK (A / many) B),?_,⟨_,_,rfl⟩,Qk _ 'o',PJ _ a⟩;simp[D.runN_succ,pg,KZ,fk,kG,eY,gf,sS,i8,mJ,ku,mK,kB,kC,kD,pR,kE,iG,mL,fF,fG,fH,fJ,fK,fL,fM,fN,cP,cQ,fO,dj,dm,dw,eV,fP,fQ,dz,fR,dB,eW,fY,dZ,bH,bP,eX,bg,bG,dW,gX,ef,dX,gR,dJ,bC,dg,dY,dM,dN,er,fh,bT,eU,bN,cR,cH,iD,bZ,iE,cz,fj,gu,eB,fC,eT,aA,R.bind,aD,bh,aM,getL,f,L2.sM,L2.vJ,bA,kc,outF,g,a,h]
 .refine⟨_,m.set p (eK A ((B*48271+3571)%2147483647)),?_,⟨_,_,rfl⟩,Qk (((B*48271+3571)%2147483647)*((B*48271+3571)%2147483647)%2147483629 / 13) (by omega:many≠0),PJ _ a⟩;have u:0<=(B*48271+3571)%2147483647:=Qk _ 'd';have q:(B*48271+3571)%2147483647<2147483647:=PJ _ 'd';have l:jr B 48271=true:=by simp[jr]
  have k:jr ((B*48271+3571)%2147483647) ((B*48271+3571)%2147483647)=true:=by simp[jr];omega
  simp[D.runN_succ,pg,KZ,fk,kG,eY,gf,sS,i8,mJ,ku,mK,kB,kC,kD,pR,kE,iG,mL,fF,fG,fH,fJ,fK,fL,fM,fN,cP,cQ,fO,dj,dm,dw,eV,fP,fQ,dz,fR,dB,eW,fY,dZ,bH,bP,eX,bg,bG,dW,gX,ef,dX,gR,dJ,bC,dg,dY,dM,dN,er,fh,bT,eU,bN,cR,cH,iD,bZ,iE,cz,fj,gu,eB,fC,eT,aA,R.bind,aD,bh,aM,getL,f,j,L2.sM,L2.vJ,bA,kc,outF,g,a,h,binop,l,k]
theorem draw{many:Int}(e:iU m p)(g:0<many)(f:many<1073741824):∃d a,aL (D.runN pg (n+1) 13) [.ref p,.int many] m=.ok (.int d) a/\PS p m a/\0<=d/\d<many:=by
 rw[bE rfl];exact IX e g f
def dP(d:Nat)(t:List Nat):Str:=⟨((97+d)::t).toArray⟩
theorem Bu{d':Nat}{t:List Nat}(h:dP d t=dP d' t):d=d':=by
 have:=OE (λ z:Str=>z.cps.toList) h;simp[dP] at this;exact this
theorem ze{t:List Nat}(h:d<26)(f:t.length<=7)(e:∀c∈t,97<=c/\c<=122):Wd (dP d t):=by
 refine⟨by simp[dP],by simp[dP];omega,λ c a=>?_⟩;simp[dP] at a;rcases a with rfl | a
 .omega
 .exact e c a
theorem IY:("abcdefghijklmnopqrstuvwxyz":Str).cps.toList=(List.range 26).map (97+·):=by decide +kernel
theorem IZ(h:d<26)(m:Mem):bh (.str "abcdefghijklmnopqrstuvwxyz") (.int d) m=.ok (.str ⟨#[97+d]⟩) m:=by
 have a:("abcdefghijklmnopqrstuvwxyz":Str).length<=lim:=by decide +kernel
 erw[bh];rw[MW a,IY,ow (i:=d) (~~~h)];simp
theorem K7(d:Nat)(t:List Nat)(h:t.length<=7)(m:Mem):bh (.str (dP d t)) (.int 0) m=.ok (.str ⟨#[97+d]⟩) m:=by
 have a:(dP d t).length<=lim:=by simp[lR,dP,lim];omega
 erw[bh];rw[MW a];have:=ow (xs:=(dP d t).cps.toList) (i:=0) (by simp[dP]);erw[dP,Int.natCast_zero] at this ⊢;simp[this,dP] at *
theorem vE{t:List Nat}{e a:Option W}(h:d<26)(f:t.length<=7) :
  ao (Cn pg n) (.bin .Add (.idx @2 (.bin .Mod (.bin .Add (.meth @2 "index" %[|.idx @3 @(0)]) @(1)) @(26))) (.slc @3 (.some @(1)) .none)) [e,a,some ab,@(.str (dP d t)),o4,o5] m=.ok (.str (dP ((d+1)%26) t)) m:=by
 have y:oJ "index"=.str:=by decide
 have x:cy ab "index" [.str ⟨#[97+d]⟩] m=.ok (.int d) m:=by
  have j:gq "abcdefghijklmnopqrstuvwxyz" [.str ⟨#[97+d]⟩] m=.ok (.int d) m:=by
   have:=IU ⟨d,h⟩;erw[gq];rw[show ("abcdefghijklmnopqrstuvwxyz":Str).length=26 from by decide +kernel,this]
  simpa[cy,mE] using j
 have w:((d:Int)+1)%26=(((d+1)%26:Nat):Int):=by omega
 have v:=IZ (d:=(d+1)%26) (Nat.mod_lt _ 'd') m;have u:ju (.str (dP d t)) (some 1) none m=.ok (.str ⟨t.toArray⟩) m:=by
  have g:(dP d t).length<=lim:=by simp[lR,dP,lim];omega
  erw[ju];rw[MW g,su _ (by simp[dP])];simp[dP]
 have q:(⟨#[97+(d+1)%26]⟩:Str).length+(⟨t.toArray⟩:Str).length<=lim:=by simp[lR,lim];omega
 have l:(⟨#[97+(d+1)%26]⟩:Str)++(⟨t.toArray⟩:Str)=dP ((d+1)%26) t:=by
  show Str.mk (#[97+(d+1)%26]++t.toArray)=_;simp[dP]
 have k:(0:Int)<26:=by decide
 erw[EWs,kdOf,y,Nf,K7 d t f,x,binop,w,k,v,u];rw[MW q,l]
theorem vF{q:Nat}{d0:Nat}{t:List Nat}(I:m[q]?=@(.lst (ws.map .str)))(hw:∀z∈ws,Wd z)(S:ws.length<=20)(N:d0<26)(A:t.length<=7)(y:∀c∈t,97<=c/\c<=122) :
  ∃d f,d<26/\dP d t∉ws/\bf (Cn pg n) (.for_ @4 (.rng @(26)) qC) [@(.ref p),@(.ref q),some ab,@(.str (dP d0 t)),o4,o5] m=.ok (.nx [@(.ref p),@(.ref q),some ab,@(.str (dP d t)),f,o5]) m:=by
 let⟨F,R,K,rfl,d,f,rfl,l,g⟩:=cW (C:=Cn pg n) (t:=.var 4) (it:=.rng @(26)) (b:=qC) (Z:=[@(.ref p),@(.ref q),some ab,@(.str (dP d0 t)),o4,o5]) (m:=m) (m1:=m) (s:=.rng 0 26) (n:=26) (jf (n:=26) (by erw[EVs];rfl) 'd') rfl
  (λ i Z m1=>m1=m/\∃d f,Z=[@(.ref p),@(.ref q),some ab,@(.str (dP d t)),f,o5]/\d<26/\(dP d t∉ws\/(d=(d0+i)%26/\∀j<i,dP ((d0+j)%26) t∈ws)))
  ⟨rfl,d0,o4,rfl,N,.inr ⟨by omega,by omega⟩⟩ (λ i Z m1 E=>by
   rintro⟨rfl,d,f,rfl,l,g⟩;have w:aD .In (.str (dP d t)) (.ref q) m1=.ok (decide (dP d t∈ws)) m1:=by
    erw[aD,pG,I];exact qB (ze l A y).small λ z G=>(hw z G).small
   have v:bB (Cn pg n) (.cmp .In @3 @1) [@(.ref p),@(.ref q),some ab,@(.str (dP d t)),@(.int (0+i)),o5] m1=.ok (decide (dP d t∈ws)) m1:=by erw[EVs,fF,fG,fH,fJ,fK,fL,fM,fN,cP,cQ,fO,dj,dm,dw,eV,fP,fQ,dz,fR,dB,eW,fY,dZ,bH,bP,eX,lN,lO,lP,lQ,w]
   by_cases u:dP d t∈ws
   .rw[NH u] at v;refine⟨.int (0+i),[@(.ref p),@(.ref q),some ab,@(.str (dP d t)),@(.int (0+i)),o5],[@(.ref p),@(.ref q),some ab,@(.str (dP ((d+1)%26) t)),@(.int (0+i)),o5],m1,aI E,by simp[aA],.inl ?_,rfl,(d+1)%26,_,rfl,Nat.mod_lt _ 'd',.inr ?_⟩
    .rw[qC,aj (Z1:=[@(.ref p),@(.ref q),some ab,@(.str (dP ((d+1)%26) t)),@(.int (0+i)),o5]) (by rw[ou v,aj (aN (vE l A) rfl),ay];rfl),ay]
    .rcases g with g | ⟨rfl,hall⟩
     .exact absurd u g
     .refine⟨by omega,λ j B=>?_⟩;rcases Pk j i with h | h
      .exact hall j h
      .have:j=i:=by omega
       subst this;exact u
   .rw[Ng u] at v;refine⟨.int (0+i),[@(.ref p),@(.ref q),some ab,@(.str (dP d t)),@(.int (0+i)),o5],[@(.ref p),@(.ref q),some ab,@(.str (dP d t)),@(.int (0+i)),o5],m1,aI E,by simp[aA],.inl ?_,rfl,d,_,rfl,l,.inl u⟩;rw[qC,aj (Z1:=[@(.ref p),@(.ref q),some ab,@(.str (dP d t)),@(.int (0+i)),o5]) (by rw[gT v,ay]),ay])
  (fun Z m _=>aF 'o')
 refine⟨d,f,l,?_,K⟩;rcases g with h | ⟨_,h⟩
 .exact h
 .exfalso;have J:((List.range 26).map λ j=>dP ((d0+j)%26) t).Nodup:=by
   rw[nodup_iff_pairwise_ne,pairwise_map];refine List.Pairwise.imp_of_mem (λ {a b} y P Q=>?_) (List.nodup_iff_pairwise_ne.mp nodup_range);intro e;have:=Bu e;have:=NK.mp y;have:=NK.mp P;omega
  have:=nk (k:=ws) J λ x H=>by
   let⟨j,B,rfl⟩:=Nj.mp H;exact h j (NK.mp B)
  simp at this;omega
theorem toNat_eq{d:Int}(h:0<=d):((d.toNat:Nat):Int)=d:=by omega
theorem ny:∀ns:List Str,gb (ns.map W.str)=some ns
 | []=>rfl
 |n::r=>by simp[gb,ny r]
theorem sC{q:Nat}(J:iU m p)(Y:Cm m) :
  ∃d t Q,d<26/\t.length<=7/\(∀c∈t,97<=c/\c<=122)/\PS p m Q/\ao (Cn pg (n+1)) (.meth (.cst (.str "")) "join" %[|.frz (.comp (.gen @5 [5] (.rng (.bin .Add @(1) (.call 13 %[@0,|@(8)]))) .nil (.elt (.idx @2 (.call 13 %[@0,|@(26)])))))]) [@(.ref p),@(.ref q),some ab,none,none,o5] m=.ok (.str (dP d t)) Q:=by
 let⟨B,U,h1,E,z1,z2⟩:=draw (n:=n) (many:=8) J 'd' 'd';have hc:(1:Int)+B=((B.toNat+1:Nat):Int):=by omega
 have hI:cN (Cn pg (n+1)) (.rng (.bin .Add @(1) (.call 13 %[@0,|@(8)]))) [some (.ref p),some (.ref q),some ab,none,none,o5] m=.ok (.rng 0 (B.toNat+1)) U:=jf (by erw[EWs,h1,binop,hc]) 'o';let⟨ws,R,H,K,I,v,A⟩:=lq (C:=Cn pg (n+1)) (f:=0) (get:=Src.get (.rng 0 (B.toNat+1))) (i:=5) (e:=.idx @2 (.call 13 %[@0,|@(26)])) (Z:=fB [5] [@(.ref p),@(.ref q),some ab,none,none,o5]) (n:=B.toNat+1) (P:=λ w=>∃c:Nat,w=.str ⟨#[c]⟩/\97<=c/\c<=122) (E.eK J) (λ m j hj=>⟨_,aI hj⟩) (λ m=>aF 'o') 'l'
  (λ x m3 h3=>by
   let⟨d,N,h4,T,S,y2⟩:=draw (n:=n) (many:=26) (h3.eK (E.eK J)) 'd' 'd';refine⟨.str ⟨#[97+d.toNat]⟩,N,?_,T,_,rfl,by omega,by omega⟩;have:=IZ (d:=d.toNat) 'o' N;rw[toNat_eq S] at this;erw[fB,EWs,h4,this])
 obtain⟨k,h,u⟩:∃k:List Nat,ws=k.map (λ c=>W.str ⟨#[c]⟩)/\∀c∈k,97<=c/\c<=122:=by
  clear K v
  induction ws with
  |nil=>exact⟨[],rfl,by simp⟩
  |cons w r F=>
   let⟨c,rfl,c1,c2⟩:=A w Nk;let⟨l,rfl,V⟩:=F λ w X=>A w (M3 _ X);refine⟨c::l,rfl,λ x G=>?_⟩;rcases MX.mp G with rfl | G
   .exact⟨c1,c2⟩
   .exact V x G
 have g:k.length=B.toNat+1:=by rw[<-v,h,M0]
 have hf:=bw (C:=Cn pg (n+1)) (m0:=H) (cY (js:=[5]) (ifs:=.nil) hI (by simpa only[Src.len] using K)) (by rw[I.len,E.len]) (I.cm (E.cm Y)) (by rw[h];exact qt (λ _=>rfl) _)
 match k,h,g,u with
 | [],_,g,_=>simp at g
 |c::t,h,g,u=>
  have hc0:=u c Nk;refine⟨c - 97,t,H,by omega,by simp at g;omega,λ x G=>u x (M3 _ G),E.trans I,?_⟩;have e1:oJ "join"=.str:=by decide
  have e2:kj "" [.fz ws] H=.ok (.str (dP (c - 97) t)) H:=by
   have g1:gb ws=some ((c::t).map λ c=>(⟨#[c]⟩:Str)):=by rw[h,show ((c::t).map λ c=>W.str ⟨#[c]⟩)=((c::t).map λ c=>(⟨#[c]⟩:Str)).map W.str from by rw[map_map];rfl];exact ny _
   have g2:((((c::t).map λ c=>(⟨#[c]⟩:Str)).map (·.length)).sum+((c::t).map λ c=>(⟨#[c]⟩:Str)).length*("":Str).length<=16777216):=by
    have:∀l:List Nat,((l.map λ c=>(⟨#[c]⟩:Str)).map (·.length)).sum=l.length:=λ l=>by
     induction l with
     |nil=>rfl
     |cons a r F=>simp[lR] at F ⊢;omega
    rw[this];have h0:("":Str).length=0:=rfl;rw[h0];simp at g ⊢;omega
   have g3:Txt.join "" ((c::t).map λ c=>(⟨#[c]⟩:Str))=dP (c - 97) t:=by
    have:=L2.wX ((c::t).map λ c=>(⟨#[c]⟩:Str));have h2:(((c::t).map λ c=>(⟨#[c]⟩:Str)).map λ y=>y.cps.toList).flatten=c::t:=by
     have:∀l:List Nat,((l.map λ c=>(⟨#[c]⟩:Str)).map λ y=>y.cps.toList).flatten=l:=λ l=>by
      induction l with
      |nil=>rfl
      |cons a r F=>erw[Ni,flatten_cons,F];rfl
     exact this _
    rw[h2] at this;show Txt.join ⟨#[]⟩ _=_;generalize Txt.join ⟨#[]⟩ ((c::t).map λ c=>(⟨#[c]⟩:Str))=z at this;let⟨a⟩:=z;simp only at this;have:a=(c::t).toArray:=by rw[<-this]
    rw[this,dP,show 97+(c - 97)=c by omega]
   erw[kj,getL,g1];rw[MW g2,g3]
  rw[bN];erw[bG,aT,kdOf,e1,Nf,aH,hf,aX];simpa[cy,mE] using e2
theorem word{q:Nat}(x:iU m p)(y:Cm m)(f:p≠q)(v:m[q]?=@(.lst (ws.map .str)))(hw:∀z∈ws,Wd z)(A:ws.length<=20) :
  ∃w k,D.runN pg (n+1+1) 14 [.ref p,.ref q] m=.ok (.str w) (k.set q (.lst ((ws++[w]).map .str)))/\PS p m k/\Wd w/\w∉ws:=by
 let⟨H,t,m1,g,l,u,j,C⟩:=sC (n:=n) (q:=q) (o5:=none) x y;have a:m1[q]?=some (.lst (ws.map .str)):=by rw[j.ne f];exact v
 let⟨d,o4,E,e,B⟩:=vF (n:=n+1) (p:=p) (o4:=none) (o5:=none) a hw A g l u;refine⟨dP d t,m1,?_,j,ze E l u,e⟩;refine bO (d:=⟨2,6,Jw⟩) rfl rfl ?_;show aC _ Jw [@(.ref p),@(.ref q),none,none,none,none] m=_;have h:ao (Cn pg (n+1)) (.meth @1 "append" %[|@3]) [@(.ref p),@(.ref q),some ab,@(.str (dP d t)),o4,none] m1=.ok .non (m1.set q (.lst ((ws++[dP d t]).map .str))):=by
  have G:oJ "append"=.lst:=by decide
  have F:(ws.map W.str).length<lim:=by simp[lim];omega
  erw[EWs,kdOf,a,G,Nf,cy,ki,iC,F,NZ,Ni,Qq]
 rw[Jw,aj (Z1:=[@(.ref p),@(.ref q),some ab,none,none,none]) (aN (w:=ab) (m1:=m) (by erw[bG]) rfl),aj (Z1:=[@(.ref p),@(.ref q),some ab,@(.str (dP H t)),none,none]) (aN C rfl),aj B,aj (oq h),aU (bz (w:=.str (dP d t)) (m1:=m1.set q (.lst ((ws++[dP d t]).map .str))) (by erw[EWs]))]
def PQ(p q:Nat)(ws:List Str)(m e:Mem):Prop:=∃a,PS p m a/\e=a.set q (.lst (ws.map .str))
theorem words{q:Nat}(J:iU m p)(K:Cm m)(k:p≠q)(I:m[q]?=@(.lst (ws.map .str)))(hw:∀z∈ws,Wd z)(R:ws.Nodup)(hl:ws.length+many<=20) :
  ∃vs x,D.runN pg (n+1+1+1) 15 [.ref p,.int many,.ref q] m=.ok (aS vs) x/\PQ p q (ws++vs) m x/\vs.length=many/\(∀z∈ws++vs,Wd z)/\(ws++vs).Nodup:=by
 have Mr:q<m.length:=(MG.mp I).1;have X:cN (Cn pg (n+1+1)) (.rng @1) [@(.ref p),@(.int many),@(.ref q),none] m=.ok (.rng 0 many) m:=jf (by erw[EWs]) 'o';let⟨f,P,x,U,⟨o,ho⟩,vs,h1,h2,h3,h4,Y⟩:=bY (get:=Src.get (.rng 0 many)) (t:=.var 3) (test:=fun Z m=>aZ (Cn pg (n+1+1)) .nil Z m) (body:=fun Z m f=>gr (Cn pg (n+1+1)) (.elt (.call 14 %[@0,|@2])) Z m f) (n:=many)
  (λ i Z H f=>(∃o,Z=[@(.ref p),@(.int many),@(.ref q),o])/\∃vs:List Str,f=vs.map .str/\vs.length=i/\PQ p q (ws++vs) m H/\(∀z∈ws++vs,Wd z)/\(ws++vs).Nodup) (λ i Z H f S=>by
   rintro⟨⟨o,rfl⟩,vs,rfl,y,⟨g,h,rfl⟩,u,G⟩;have E:(g.set q (O.lst ((ws++vs).map .str)))[q]?=some (.lst ((ws++vs).map .str)):=Nb (by rw[h.len];exact Mr);have F:iU (g.set q (O.lst ((ws++vs).map .str))) p:=by let⟨A,B,e⟩:=h.eK J;exact⟨A,B,by rw[M7 k.symm];exact e⟩
   let⟨w,m3,Q,⟨A,B,rfl⟩,l,v⟩:=word (n:=n) F ((h.cm K).set (o:=.lst ((ws++vs).map .str)) (bM _ (bD _))) k E u (by simp;omega);refine⟨.int (0+i),[@(.ref p),@(.int many),@(.ref q),@(.int (0+i))],aI S,by simp[aA],.inl ⟨g.set q (.lst ((ws++vs).map .str)),(vs++[w]).map .str,[@(.ref p),@(.int many),@(.ref q),@(.int (0+i))],(g.set p (eK A B)).set q (.lst ((ws++(vs++[w])).map .str)),by erw[bX],?_,⟨_,rfl⟩,vs++[w],rfl,by simp[y],⟨_,h.trans ⟨A,B,rfl⟩,rfl⟩,?_,?_⟩⟩
   .have e1:(vs.map W.str).length<lim:=by simp[lim];omega
    have e2:aL (D.runN pg (n+1+1) 14) [.ref p,.ref q] (g.set q (O.lst ((ws++vs).map .str)))=.ok (.str w) ((g.set p (eK A B)).set q (.lst ((ws++(vs++[w])).map .str))):=by
     rw[bE rfl,Q,set_comm _ _ k.symm,Pn,OC]
    erw[gv,EWs,e2];rw[MW e1];simp
   .intro z j;rw[<-OC] at j;rcases Nc.mp j with j | j
    .exact u z j
    .rw[Nu] at j;subst j;exact l
   .rw[<-OC];rw[Pj];exact⟨G,by simp,λ a V b N=>by rw[Nu] at N;subst N;rintro rfl;exact v V⟩)
  (fun Z m f _=>aF 'o') many 0 [@(.ref p),@(.int many),@(.ref q),none] m [] 'o' ⟨⟨_,rfl⟩,[],rfl,rfl,⟨m,J.refl,by rw[NL,set_same I]⟩,~~~hw,~~~R⟩
 subst h1;let⟨g,h,rfl⟩:=h3;refine⟨vs,_,?_,⟨g,h,rfl⟩,h2,h4,Y⟩;refine bO (d:=⟨3,4,Jx⟩) rfl rfl ?_;show aC _ Jx [@(.ref p),@(.int many),@(.ref q),none] m=_;have T:=bw (C:=Cn pg (n+1+1)) (m0:=g.set q (.lst ((ws++vs).map .str))) (cY (js:=[3]) (ifs:=.nil) X U) (by rw[Oh,h.len]) ((h.cm K).set (o:=.lst ((ws++vs).map .str)) (bM _ (bD _))) (bD vs);rw[Jx,aU (bz T)]
abbrev iT(many:Nat)(f:Nat->List Int):Mem:=(List.range many).map λ s=>O.lst ((f s).map .int)
abbrev gD(b many:Nat):List W:=(List.range many).map λ i=>W.ref (b+i)
def MM(many:Nat)(m:Mem)(f:Nat->List Int):Mem:=m++(iT many f++[.lst (gD m.length many)])
section
variable{many:Nat}{m m' m2:Mem}{f:Nat->List Int}{p:Nat}
theorem MM.eK(h:iU m p):iU (MM many m f) p:=h.app
theorem MM.ps(a:p<m.length)(h:PS p (MM many m f) m2):∃m',PS p m m'/\m2=MM many m' f:=by
 let⟨A,B,rfl⟩:=h;refine⟨m.set p (D.eK A B),⟨A,B,rfl⟩,?_⟩;unfold MM;rw[Pc _ _ a,Oh]
theorem MM.row{s:Nat}(h:s<many):(MM many m f)[m.length+s]?=some (.lst ((f s).map .int)):=by
 unfold MM;rw[MU 'o',ML (by simp;omega)];simp[h]
theorem MM.refs:(MM many m f)[m.length+many]?=some (.lst (gD m.length many)):=by
 unfold MM;rw[MU 'o',MU 's'];simp
theorem MM.set{s:Nat}{v:List Int}(h:s<many):(MM many m f).set (m.length+s) (.lst (v.map .int))=MM many m (λ j=>if j=s then v else f j):=by
 unfold MM;rw[set_append_right _ _ 'o',Pc _ _ (by simp;omega)];congr 2;apply PM
 .simp
 .intro j k l;erw[Oh,M0,length_range] at k;rw[getElem_set]
  by_cases a:s=j
  .subst a;simp
  .have:¬j=s:=λ e=>a e.symm;have g:¬m.length+s - m.length=j:=by omega
   simp[a,this,g]
theorem MM.cm(h:Cm m):Cm (MM many m f):=by
 refine h.app λ o e=>?_;rcases Nc.mp e with e | e
 .let⟨s,_,rfl⟩:=Nj.mp e;exact bM _ (iR _)
 .rw[Nu] at e;subst e;show bF _ _=true;have:∀l:List Nat,(∀i∈l,i<many)->bF (m.length+(iT many f++[O.lst (gD m.length many)]).length) (l.map λ i=>W.ref (m.length+i))=true:=λ l=>by
   induction l with
   |nil=>intro _;rfl
   |cons a r j=>
    intro h;have k:=h a Nk;erw[Ni,bF,gQ,j λ i g=>h i (M3 _ g),Bool.and_true,Nz];simp;omega
  exact this _ λ i g=>NK.mp g
end
theorem zf{s:Nat}{st:List Nat}:jA m (.int s) (st.map λ t:Nat=>W.int (t:Int))=.ok (decide (s∈st)) m:=by
 have g:∀l:List Nat,dH (toD 60 m) (l.map λ t:Nat=>W.int (t:Int))=some (l.map λ t:Nat=>PyData.int (t:Int)):=λ l=>by
  induction l with
  |nil=>rfl
  |cons a r e=>erw[Ni,dH,e];rfl
 erw[jA,g];have f:toD 60 m (.int (s:Int))=some (.int s):=rfl;rw[f];dsimp only;congr 1;rw[Qs]
 induction st with
 |nil=>simp
 |cons a r e=>
  erw[OG,e,OH,Function.comp]
  by_cases h:s=a
  .subst h;simp[PyData.eqv]
  .have:¬((a:Int)=(s:Int)):=by omega
   simp[PyData.eqv,h,this]
theorem stays{o6:Option W}{lt:W}(w:iU m p)(A:Cm m)(N:many<=4) :
  ∃(st:List Nat) (e:Mem),(∀s∈st,s<many)/\st.length<=4/\PS p m e/\ao (Cn pg (n+1)) (.frz (.comp (.gen @3 [3] (.rng @1) %[|.cmp .Eq (.call 13 %[@0,|@(2)]) @(1)] (.elt @3)))) [some (.ref p),some (.int many),some lt,o3,o4,o5,o6] m=.ok (.fz (st.map λ t:Nat=>W.int (t:Int))) e:=by
 have F:cN (Cn pg (n+1)) (.rng @1) [@(.ref p),@(.int many),some lt,o3,o4,o5,o6] m=.ok (.rng 0 many) m:=jf (by erw[EWs]) 'o';let⟨a,x,e,E,⟨o,P⟩,st,H,G,Q,u⟩:=bY (get:=Src.get (.rng 0 many)) (t:=.var 3) (test:=fun Z m=>aZ (Cn pg (n+1)) %[|.cmp .Eq (.call 13 %[@0,|@(2)]) @(1)] Z m) (body:=fun Z m a=>gr (Cn pg (n+1)) (.elt @3) Z m a) (n:=many)
  (λ i Z q a=>(∃o,Z=[@(.ref p),@(.int many),some lt,o,o4,o5,o6])/\∃st:List Nat,a=st.map (λ t:Nat=>W.int (t:Int))/\(∀s∈st,s<many)/\st.length<=i/\PS p m q) (λ i Z q a B=>by
   rintro⟨⟨o,rfl⟩,st,rfl,f,y,l⟩;let⟨d,j,I,v,K,J⟩:=draw (n:=n) (many:=2) (l.eK w) 'd' 'd';refine⟨.int i,[@(.ref p),@(.int many),some lt,@(.int i),o4,o5,o6],by rw[aI B];simp,by simp[aA],?_⟩;have k:aZ (Cn pg (n+1)) %[|.cmp .Eq (.call 13 %[@0,|@(2)]) @(1)] [@(.ref p),@(.int many),some lt,@(.int i),o4,o5,o6] q=.ok (decide (d=1)) j:=by
    erw[bX,bH,EWs,I,aD,K1]
    by_cases h:d=1<;>simp[h,bX]
   by_cases h:d=1
   .rw[NH h] at k;refine .inl ⟨j,(st++[i]).map (λ t:Nat=>W.int (t:Int)),[@(.ref p),@(.int many),some lt,@(.int i),o4,o5,o6],j,k,?_,⟨_,rfl⟩,st++[i],rfl,λ s g=>?_,by simp;omega,l.trans v⟩
    .have:(st.map λ t:Nat=>W.int (t:Int)).length<lim:=by simp[lim];omega
     erw[gv,EWs];rw[MW this];simp
    .rcases Nc.mp g with g | g
     .exact f s g
     .rw[Nu] at g;omega
   .rw[Ng h] at k;exact .inr ⟨j,k,⟨_,rfl⟩,st,rfl,f,by omega,l.trans v⟩)
  (fun Z m a _=>aF 'o') many 0 [@(.ref p),@(.int many),some lt,none,o4,o5,o6] m [] 'o' ⟨⟨_,rfl⟩,[],rfl,by simp,by simp,w.refl⟩
 subst H;exact⟨st,e,G,by omega,u,bw (C:=Cn pg (n+1)) (m0:=e) (cY (js:=[3]) F E) u.len (u.cm A) (qt (λ _=>rfl) _)⟩
theorem Fq{o6:Option W}{lt:W}(y:iU m p)(w:Cm m)(A:2<=many)(C:many<=4) :
  ∃(st:List Nat) (x:Mem),(∀s∈st,s<many)/\st≠[]/\st.length<=4/\PS p m x/\∀r,aC (Cn pg (n+1)) (.cons (.asg (.pt @6) (.frz (.comp (.gen @3 [3] (.rng @1) %[|.cmp .Eq (.call 13 %[@0,|@(2)]) @(1)] (.elt @3))))) (.cons (.ife (.cmp .Eq @6 (.frz (.lst .nil))) %[|.asg (.pt @6) (.frz (.lst %[|.call 13 %[@0,|@1]]))] .nil) r)) [@(.ref p),@(.int many),some lt,o3,o4,o5,o6] m
   = aC (Cn pg (n+1)) r [@(.ref p),@(.int many),some lt,o3,o4,o5,@(.fz (st.map λ t:Nat=>W.int (t:Int)))] x:=by
 let⟨st,m1,q,g,e,j⟩:=stays (n:=n) (o3:=o3) (o4:=o4) (o5:=o5) (o6:=o6) (lt:=lt) y w C;have J:∀Z,ao (Cn pg (n+1)) (.frz (.lst .nil)) Z m1=.ok (.fz []) m1:=fun Z=>bw (m0:=m1) (by erw[EVs,Ox,new];rw[MW (N7 _)]) rfl (e.cm w) rfl;have k:bB (Cn pg (n+1)) (.cmp .Eq @6 (.frz (.lst .nil))) [@(.ref p),@(.int many),some lt,o3,o4,o5,@(.fz (st.map λ t:Nat=>W.int (t:Int)))] m1=.ok (decide (st=[])) m1:=by
  erw[bH,bg,lN,lO,lP,lQ,aT,J,aD];have q:∀l:List Nat,dH (toD 59 m1) (l.map λ t:Nat=>W.int (t:Int))=some (l.map λ t:Nat=>PyData.int (t:Int)):=λ l=>by
   induction l with
   |nil=>rfl
   |cons a r E=>erw[Ni,dH,E];rfl
  have A:toD 60 m1 (.fz (st.map λ t:Nat=>W.int (t:Int)))=some (.list (st.map λ t:Nat=>PyData.int (t:Int))):=by
   show (dH (toD 59 m1) _).map _=_;rw[q];rfl
  have H:toD 60 m1 (.fz [])=some (.list []):=rfl;erw[uR,A,H];cases st with
  |nil=>rfl
  |cons a r=>rfl
 cases f:st with
 |nil=>
  rw[f] at k j;let⟨d,h,I,u,B,K⟩:=draw (n:=n) (many:=many) (e.eK y) 'o' 'o';refine⟨[d.toNat],h,λ s F=>by rw[Nu] at F;omega,by simp,by simp,e.trans u,λ r=>?_⟩;have G:ao (Cn pg (n+1)) (.frz (.lst %[|.call 13 %[@0,|@1]])) [@(.ref p),@(.int many),some lt,o3,o4,o5,@(.fz [])] m1=.ok (.fz [.int d]) h:=by
   refine bw (m0:=h) ?_ u.len (u.cm (e.cm w)) rfl;erw[EWs,I,new,Nh,Ox];rw[MW 'd']
  rw[aj (Z1:=[@(.ref p),@(.int many),some lt,o3,o4,o5,@(.fz [])]) (aN j rfl),aj (Z1:=[@(.ref p),@(.int many),some lt,o3,o4,o5,@(.fz [.int d])]) (m1:=h) (by rw[ou (m1:=m1) (~~~k),aj (aN G rfl),ay];rfl)];simp[toNat_eq B]
 |cons a v=>
  rw[f] at k j q g;refine⟨a::v,m1,q,by simp,g,e,λ r=>?_⟩;rw[aj (Z1:=[@(.ref p),@(.int many),some lt,o3,o4,o5,@(.fz ((a::v).map λ t:Nat=>W.int (t:Int)))]) (aN j rfl),aj (Z1:=[@(.ref p),@(.int many),some lt,o3,o4,o5,@(.fz ((a::v).map λ t:Nat=>W.int (t:Int)))]) (m1:=m1) (by rw[gT (m1:=m1) (~~~k),ay])]
abbrev vN(st:List Nat):W:=.fz (st.map λ t:Nat=>W.int (t:Int))
theorem zg(h:m[n]?=@(.lst xs)):aM m (.ref n)=some xs:=by erw[aM,getL,h]
theorem column{f:Nat->List Int}{st:List Nat}{lt:W}(B:iU m p)(nB:many<=4)(hst:∀s∈st,s<many)(H:st≠[])(hsl:st.length<=4)(I:∀s,s<many->(f s).length<=100) :
  ∃e a q,PS p m e/\bf (Cn pg (n+1)) (.for_ @3 (.rng @1) ua) [@(.ref p),@(.int many),some lt,o3,@(.ref (m.length+many)),o5,@(vN st)] (MM many m f)=.ok (.nx [@(.ref p),@(.int many),some lt,q,@(.ref (m.length+many)),o5,@(vN st)]) (MM many e a)/\
   ∀s,s<many->∃k∈st,a s=f s++[(k:Int)]/\(s∈st->k=s):=by
 let⟨T,M',hf,e,a,u,rfl,⟨q,rfl⟩,J,G⟩:=cW (C:=Cn pg (n+1)) (t:=.var 3) (it:=.rng @1) (b:=ua) (Z:=[@(.ref p),@(.int many),some lt,o3,@(.ref (m.length+many)),o5,@(vN st)]) (m:=MM many m f) (m1:=MM many m f) (s:=.rng 0 many) (n:=many) (jf (by erw[EWs]) 'o') rfl
  (λ i Z M=>∃e a,PS p m e/\M=MM many e a/\(∃o3,Z=[@(.ref p),@(.int many),some lt,o3,@(.ref (m.length+many)),o5,@(vN st)])/\(∀s,s<i->∃k∈st,a s=f s++[(k:Int)]/\(s∈st->k=s))/\∀s,i<=s->a s=f s)
  ⟨m,f,B.refl,rfl,⟨_,rfl⟩,by omega,λ _ _=>rfl⟩ (λ i Z M x=>by
   rintro⟨e,a,u,rfl,⟨o3,rfl⟩,J,G⟩;have F:e.length=m.length:=u.len;have e1:ao (Cn pg (n+1)) (.idx @4 @3) [@(.ref p),@(.int many),some lt,@(.int i),@(.ref (m.length+many)),o5,@(vN st)] (MM many e a)=.ok (.ref (m.length+i)) (MM many e a):=by
    have:=MM.refs (many:=many) (m:=e) (f:=a);rw[F] at this;have:=cF (i:=i) (zg this) (~~~x);erw[EWs,this];simp
   have l:bB (Cn pg (n+1)) (.cmp .In @3 @6) [@(.ref p),@(.int many),some lt,@(.int i),@(.ref (m.length+many)),o5,@(vN st)] (MM many e a)=.ok (decide (i∈st)) (MM many e a):=by
    erw[bH,bg,lN,lO,lP,lQ,aT,aD,pG,zf]
   have hv:∃k g,k∈st/\(i∈st->k=i)/\PS p e g/\ao (Cn pg (n+1)) (.ife (.cmp .In @3 @6) @3 (.idx @6 (.call 13 %[@0,|.blt .len %[|@6]]))) [@(.ref p),@(.int many),some lt,@(.int i),@(.ref (m.length+many)),o5,@(vN st)] (MM many e a)=.ok (.int (k:Int)) (MM many g a):=by
    by_cases E:i∈st
    .refine⟨i,e,E,λ _=>rfl,(u.eK B).refl,?_⟩;rw[NH E] at l;rw[dg,l];erw[aT,Nf,bg,lN,lO,lP,lQ]
    .have P:0<st.length:=List.length_pos_iff.mpr H;let⟨d,M2,d1,d2,U,y2⟩:=draw (n:=n) (many:=(st.length:Int)) (MM.eK (many:=many) (f:=a) (u.eK B)) 'o' 'o';let⟨g,A,rfl⟩:=MM.ps (by rw[F];exact B.lt) d2;have Q:d.toNat<st.length:=by omega
     refine⟨st[d.toNat],g,NF Q,λ h=>absurd h E,A,?_⟩;rw[Ng E] at l;have R:=cF (m:=MM many g a) (w:=vN st) (xs:=st.map λ t:Nat=>W.int (t:Int)) (i:=d.toNat) rfl (~~~Q);rw[toNat_eq U] at R;have e4:bA .len [vN st] (MM many e a)=.ok (.int st.length) (MM many e a):=by rw[bK (xs:=st.map λ t:Nat=>W.int (t:Int)) rfl,M0]
     rw[dg,l];erw[aT,MY,Np,EWs,e4,d1,R];simp
   let⟨k,g,X,V,A,ev⟩:=hv;have y:g.length=m.length:=by rw[A.len,F]
   have K:=MM.row (many:=many) (m:=g) (f:=a) x;have S:=MM.row (many:=many) (m:=e) (f:=a) x;rw[y] at K;rw[F] at S;have N:=MM.set (many:=many) (m:=g) (f:=a) (v:=a i++[(k:Int)]) x;rw[y] at N;refine⟨.int i,[@(.ref p),@(.int many),some lt,@(.int i),@(.ref (m.length+many)),o5,@(vN st)],[@(.ref p),@(.int many),some lt,@(.int i),@(.ref (m.length+many)),o5,@(vN st)],MM many g (λ j=>if j=i then a i++[(k:Int)] else a j),by rw[aI x];simp,by simp[aA],.inl ?_,g,_,u.trans A,rfl,⟨_,rfl⟩,λ s hs=>?_,λ s hs=>?_⟩
   .have e5:oJ "append"=.lst:=by decide
    have e6:((a i).map W.int).length<lim:=by rw[M0,G i (MK _)];have:=I i x;simp[lim];omega
    rw[ua,aj (oq (w:=.non) (m1:=MM many g (λ j=>if j=i then a i++[(k:Int)] else a j)) ?_),ay];rw[bN,e1];erw[aT,kdOf,S,e5,Nf,aH,ev,aX,cy,K,ki,iC,e6];rw[<-N,NZ];rfl
   .rcases Pk s i with h | h
    .let⟨Y,a1,a2,a3⟩:=J s h;exact⟨Y,a1,by erw[M8 (show ¬s=i by omega)];exact a2,a3⟩
    .have:s=i:=by omega
     subst this;exact⟨k,X,by erw[Nf,G s (MK _)],V⟩
   .erw[M8 (show ¬s=i by omega)];exact G s 'o')
  (fun Z m _=>aF 'o')
 exact⟨e,a,q,u,hf,J⟩
theorem rows{lt:Nat}(F:iU m p)(hm:Cm m)(h2:2<=many)(Q:many<=4)(hlt:lt<=4) :
  ∃l f,PS p m l/\D.runN pg (n+1+1) 16 [.ref p,.int many,.int lt] m=.ok (.ref (m.length+many)) (MM many l f)/\(∀s,s<many->(f s).length=lt)/\
   ∀j s,j<lt->s<many->∃k,k<many/\(f s)[j]?=some (k:Int)/\(f k)[j]?=some (k:Int):=by
 have hI:cN (Cn pg (n+1)) (.rng @1) [@(.ref p),@(.int many),@(.int lt),none,none,none,none] m=.ok (.rng 0 many) m:=jf (by erw[EWs]) 'o';let⟨a,Z1,m1,hc,⟨o,ho⟩,h1,rfl⟩:=bY (get:=Src.get (.rng 0 many)) (t:=.var 3) (test:=fun Z m=>aZ (Cn pg (n+1)) .nil Z m) (body:=fun Z m a=>gr (Cn pg (n+1)) (.elt (.lst .nil)) Z m a) (n:=many)
  (λ i Z m1 a=>(∃o,Z=[@(.ref p),@(.int many),@(.int lt),o,none,none,none])/\m1=m++iT i (λ _=>[])/\a=gD m.length i) (λ i Z m1 a J=>by
   rintro⟨⟨o,rfl⟩,rfl,rfl⟩;refine⟨.int i,[@(.ref p),@(.int many),@(.int lt),@(.int i),none,none,none],by rw[aI J];simp,by simp[aA],.inl ⟨m++iT i (λ _=>[]),gD m.length (i+1),[@(.ref p),@(.int many),@(.int lt),@(.int i),none,none,none],m++iT (i+1) (λ _=>[]),by erw[bX],?_,⟨_,rfl⟩,rfl,rfl⟩⟩;have B:(gD m.length i).length<lim:=by simp[lim];omega
   erw[gv,EVs,Ox,new];rw[MW (N7 _)];erw[aT,B,Nf];have r1:gD m.length (i+1)=gD m.length i++[W.ref (m.length+i)]:=by unfold gD;rw[range_succ,NZ];rfl
   have Y:iT (i+1) (λ _=>[])=iT i (λ _=>[])++[O.lst []]:=by unfold iT;rw[range_succ,NZ];rfl
   rw[r1,Y,OC];simp)
  (fun Z m a _=>aF 'o') many 0 [@(.ref p),@(.int many),@(.int lt),none,none,none,none] m [] 'o' ⟨⟨_,rfl⟩,by simp,rfl⟩
 have I:=cY (js:=[3]) (ifs:=.nil) hI hc;have I:ao (Cn pg (n+1)) (.comp (.gen @3 [3] (.rng @1) .nil (.elt (.lst .nil)))) [@(.ref p),@(.int many),@(.int lt),none,none,none,none] m=.ok (.ref (m.length+many)) (MM many m (λ _=>[])):=by
  rw[I];subst h1;simp[MM]
 let⟨U,M',hf,l,f,v,rfl,⟨o3,o5,o6,rfl⟩,q,N⟩:=cW (C:=Cn pg (n+1)) (t:=.var 5) (it:=.rng @2) (b:=yU) (Z:=[@(.ref p),@(.int many),@(.int lt),none,@(.ref (m.length+many)),none,none]) (m:=MM many m (λ _=>[])) (m1:=MM many m (λ _=>[])) (s:=.rng 0 lt) (n:=lt) (jf (by erw[EWs]) 'o') rfl
  (λ i Z M=>∃l f,PS p m l/\M=MM many l f/\(∃o3 o5 o6,Z=[@(.ref p),@(.int many),@(.int lt),o3,@(.ref (m.length+many)),o5,o6])/\(∀s,s<many->(f s).length=i)/\∀j s,j<i->s<many->∃k,k<many/\(f s)[j]?=some (k:Int)/\(f k)[j]?=some (k:Int))
  ⟨m,_,F.refl,rfl,⟨_,_,_,rfl⟩,λ _ _=>rfl,λ j s h=>by omega⟩ (λ i Z M J=>by
   rintro⟨l,f,v,rfl,⟨o3,o5,o6,rfl⟩,q,N⟩;have S:l.length=m.length:=v.len;let⟨V,M1,E,a2,a5,a3,a4⟩:=Fq (n:=n) (o3:=o3) (o4:=@(.ref (m.length+many))) (o5:=@(.int i)) (o6:=o6) (lt:=.int lt) (MM.eK (many:=many) (f:=f) (v.eK F)) (MM.cm (v.cm hm)) h2 Q;let⟨m2,G,rfl⟩:=MM.ps (by rw[S];exact F.lt) a3;have K:m2.length=m.length:=by rw[G.len,S]
   let⟨R,T,H,X,y,A⟩:=column (n:=n) (f:=f) (o3:=o3) (o5:=@(.int i)) (lt:=.int lt) (G.eK (v.eK F)) Q E a2 a5 (λ s g=>by rw[q s g];omega);rw[K] at y;refine⟨.int i,[@(.ref p),@(.int many),@(.int lt),o3,@(.ref (m.length+many)),@(.int i),o6],[@(.ref p),@(.int many),@(.int lt),H,@(.ref (m.length+many)),@(.int i),@(vN V)],MM many R T,by rw[aI J];simp,by simp[aA],.inl ?_,R,T,(v.trans G).trans X,rfl,⟨_,_,_,rfl⟩,λ s g=>?_,λ j s hj g=>?_⟩
   .rw[yU,a4,aj y,ay]
   .let⟨k,_,e,_⟩:=A s g;rw[e,N9,q s g];rfl
   .rcases Pk j i with h | h
    .let⟨k,u,k2,k3⟩:=N j s h g;let⟨_,_,B,_⟩:=A s g;let⟨_,_,P,_⟩:=A k u;exact⟨k,u,by rw[B,ML (by rw[q s g];exact h)];exact k2,by rw[P,ML (by rw[q k u];exact h)];exact k3⟩
    .have:j=i:=by omega
     subst this;let⟨k,u,B,_⟩:=A s g;let⟨x,k1',P,e3⟩:=A k (E k u);have:=e3 u;subst this;exact⟨x,E x u,by rw[B,MU (by rw[q s g];omega),q s g];simp,by rw[P,MU (by rw[q x (E x u)];omega),q x (E x u)];simp⟩)
  (fun Z m _=>aF 'o')
 refine⟨l,f,v,?_,q,N⟩;refine bO (d:=⟨3,7,Jy⟩) rfl rfl ?_;show aC _ Jy [@(.ref p),@(.int many),@(.int lt),none,none,none,none] m=_;rw[Jy,aj (Z1:=[@(.ref p),@(.int many),@(.int lt),none,@(.ref (m.length+many)),none,none]) (aN I rfl),aj hf,aU (bz (w:=.ref (m.length+many)) (m1:=MM many l f) (by erw[EWs]))]
def Bv(R:List (List Int)):Prop:=∀(i:Nat) (g:i<R.length) (x:Nat) (e:x<R[i].length),∃(k:Nat) (f:k<R.length) (a:x<R[k].length),R[i][x]=k/\R[k][x]=k
structure TabOk(ks ss ls:List Str)(R L:List (List Int)):Prop where
 wd:∀z∈ks++ss++ls,Wd z
 nd:(ks++ss++ls).Nodup
 k2:ks.length<=2
 s2:2<=ss.length
 s4:ss.length<=4
 l2:ls.length<=2
 rl:R.length=ss.length
 tl:L.length=ss.length
 re:∀ns∈R,ns.length=2^ks.length/\∀x∈ns,0<=x/\x<(ss.length:Int)
 te:∀ns∈L,ns.length=ls.length/\∀x∈ns,0<=x/\x<(2:Int)
 st:Bv R
abbrev lD(r:List Int):W:=.fz (r.map .int)
def told(ks ss ls:List Str)(R L:List (List Int)):W:=.fz [aS ks,aS ss,aS ls,.fz (R.map lD),.fz (L.map tupI)]
theorem CQ(R:List (List Int)):aB (R.map lD)=true:=qt (λ r=>by simp[aK,iR]) R
theorem jn{R:List (List Int)}:aK (told ks ss ls R L)=true:=by simp[told,aK,aB,bD,fU,CQ]
abbrev TK(m:Mem)(ws:List Str):Mem:=m++[.lst (ws.map .str)]
section
variable{m m' M:Mem}{ws xK:List Str}{p:Nat}
theorem TK.eK(h:iU m p):iU (TK m ws) p:=h.app
theorem TK.cm(h:Cm m):Cm (TK m ws):=h.push (bM _ (bD _))
theorem TK.q:(TK m ws)[m.length]?=some (.lst (ws.map .str)):=by simp
theorem TK.ps(a:p<m.length)(h:PS p (TK m ws) M):∃m',PS p m m'/\M=TK m' ws:=by
 let⟨A,B,rfl⟩:=h;exact⟨m.set p (D.eK A B),⟨A,B,rfl⟩,by rw[Pc _ _ a]⟩
theorem TK.pq(f:p<m.length)(h:PQ p m.length xK (TK m ws) M):∃m',PS p m m'/\M=TK m' xK:=by
 let⟨g,e,rfl⟩:=h;let⟨m',a,rfl⟩:=TK.ps f e;exact⟨m',a,by rw[<-a.len];simp⟩
end
theorem iu{e:E}{lo:Nat}(g:iU m p)(y:Cm m)(hw:∀z∈ws,Wd z)(J:ws.Nodup)(U:ws.length+lo+2<=20)(P:Z[0]?=@(some (.ref p)))(N:Z[1]?=@(some (.ref m.length)))
  (h:∀d m1,aL (D.runN pg (n+1+1+1) 13) [.ref p,.int 3] (TK m ws)=.ok (.int d) m1->ao (Cn pg (n+1+1+1)) e Z (TK m ws)=.ok (.int (lo+d)) m1) :
  ∃vs x,PS p m x/\ao (Cn pg (n+1+1+1)) (.frz (.call 15 %[@0,e,|@1])) Z (TK m ws)=.ok (aS vs) (TK x (ws++vs))/\lo<=vs.length/\vs.length<=lo+2/\(∀z∈ws++vs,Wd z)/\(ws++vs).Nodup:=by
 let⟨d,X,Q,C,S,R⟩:=draw (n:=n+1+1) (many:=3) (TK.eK (ws:=ws) g) 'd' 'd';let⟨m1,f,rfl⟩:=TK.ps g.lt C;have j:m1.length=m.length:=f.len;have K:(lo:Int)+d=((lo+d.toNat:Nat):Int):=by omega
 have I:(TK m1 ws)[m.length]?=some (.lst (ws.map .str)):=by rw[<-j];exact TK.q
 have u:p≠m.length:=by have:=g.lt;omega
 let⟨vs,V,H,w,T,G,F⟩:=words (n:=n) (many:=lo+d.toNat) (TK.eK (ws:=ws) (f.eK g)) (TK.cm (f.cm y)) u I hw J 'o';rw[<-j] at w;let⟨l,k,rfl⟩:=TK.pq (by rw[j];exact g.lt) w;have v:l.length=m.length:=by rw[k.len,j]
 refine⟨vs,l,f.trans k,?_,by omega,by omega,G,F⟩;have a:aL (D.runN pg (n+1+1+1) 15) [.ref p,.int ((lo+d.toNat:Nat):Int),.ref m.length] (TK m1 ws)=.ok (aS vs) (TK l (ws++vs)):=by rw[bE rfl];exact H
 refine Bh ?_ (by simp[v]) (TK.cm (k.cm (f.cm y))) (by simp[aK,bD]);have h:=h d _ Q;rw[K] at h;have B:ao (Cn pg (n+1+1+1)) @0 Z (TK m ws)=.ok (.ref p) (TK m ws):=by rw[bg,P]
 have A:ao (Cn pg (n+1+1+1)) @1 Z (TK m1 ws)=.ok (.ref m.length) (TK m1 ws):=by rw[bg,N]
 erw[cu,aH,B,aT,h,A,aX,a]
theorem zh{f:Nat->List Int}:jB (jK (MM many m f) m.length 8) (.ref (m.length+many))=some (.fz (((List.range many).map f).map lD)):=by
 have q:∀d s,s<many->jK (MM many m f) m.length (d+1) (m.length+s)=some (lD (f s)):=λ d s e=>by
  erw[jK,MM.row e];rw[M8 'o',cK _ (iR _)];rfl
 have k:∀l:List Nat,(∀s∈l,s<many)->d9 (jK (MM many m f) m.length 7) (l.map λ i=>W.ref (m.length+i))=some (l.map λ s=>lD (f s)):=λ l=>by
  induction l with
  |nil=>intro _;rfl
  |cons a r g=>
   intro h;erw[Ni,d9,jB,q 6 a (h a Nk),g λ s e=>h s (M3 _ e)]
 have j:jK (MM many m f) m.length (7+1) (m.length+many)=(d9 (jK (MM many m f) m.length 7) (gD m.length many)).map .fz:=by
  rw[jK,M8 'o',MM.refs]
 show jK (MM many m f) m.length (7+1) (m.length+many)=_;rw[j,k _ λ s e=>NK.mp e];simp[map_map,OY]
theorem Bw{js:List Nat}{it:E}(v:iU m p)(N:Cm m)(S:cN (Cn pg (n+1)) it Z m=.ok (.tup xs) m)(hl:xs.length<=100)(U:∀x,((fB js Z).set i (some x))[0]?=@(some (.ref p))) :
  ∃ns:List Int,∃h,PS p m h/\ns.length=xs.length/\(∀x∈ns,0<=x/\x<(2:Int))/\ao (Cn pg (n+1)) (.blt .tuple %[|.frz (.comp (.gen (.var i) js it .nil (.elt (.call 13 %[@0,|@(2)]))))]) Z m=.ok (tupI ns) h:=by
 let⟨ws,A,h,y,k,a,g⟩:=lq (C:=Cn pg (n+1)) (f:=0) (get:=Src.get (.tup xs)) (i:=i) (e:=.call 13 %[@0,|@(2)]) (Z:=fB js Z) (n:=xs.length) (P:=λ w=>∃d:Int,w=.int d/\0<=d/\d<2) v (λ m j Q=>⟨_,aO Q⟩) (λ m=>aG 'o') 'l'
  (λ x m1 T=>by
   let⟨d,H,V,G,F,B⟩:=draw (n:=n) (many:=2) (T.eK v) 'd' 'd';refine⟨.int d,H,?_,G,d,rfl,F,B⟩;erw[cu,aH,bg,U,aT,bG,aX,V])
 obtain⟨ns,rfl,u⟩:∃ns:List Int,ws=ns.map W.int/\∀x∈ns,0<=x/\x<(2:Int):=by
  clear y a
  induction ws with
  |nil=>exact⟨[],rfl,by simp⟩
  |cons w r J=>
   let⟨d,rfl,Y,X⟩:=g w Nk;let⟨l,rfl,I⟩:=J λ w K=>g w (M3 _ K);refine⟨d::l,rfl,λ x q=>?_⟩;rcases MX.mp q with rfl | q
   .exact⟨Y,X⟩
   .exact I x q
 refine⟨ns,h,k,~~~a,u,?_⟩;have R:=bw (C:=Cn pg (n+1)) (m0:=h) (cY (js:=js) (ifs:=.nil) S (by simpa only[Src.len] using y)) k.len (k.cm N) (iR ns);rw[bT,aH,R];erw[aT,aX,bA,aM,getL]
theorem table(P:iU m p)(Q:Cm m) :
  ∃ks ss ls R L m' ws,TabOk ks ss ls R L/\PS p m m'/\D.runN pg (n+1+1+1+1) 17 [.ref p] m=.ok (told ks ss ls R L) (TK m' ws):=by
 let⟨ks,m1,v,e1,_,G,kw,kn⟩:=iu (n:=n) (m:=m) (ws:=[]) (Z:=[@(.ref p),@(.ref m.length),none,none,none,none,none,none]) (e:=.call 13 %[@0,|@(3)]) (lo:=0) P Q 's' 's' 's' rfl rfl (λ d m1 h=>by erw[EWs,h];simp);rw[nil_append] at e1 kw kn;have LI:=v.len;let⟨ss,m2,E,e2,x2,x4,sw,sn⟩:=iu (n:=n) (m:=m1) (ws:=ks) (Z:=[@(.ref p),@(.ref m.length),@(aS ks),none,none,none,none,none]) (e:=.bin .Add @(2) (.call 13 %[@0,|@(3)])) (lo:=2) (v.eK P) (v.cm Q) kw kn 'o' rfl (by rw[LI];rfl) (λ d m1 h=>by erw[EWs,h,binop];rfl);have hB2:=E.len;let⟨ls,m3,S,e3,_,l2,lw,ln⟩:=iu (n:=n) (m:=m2) (ws:=ks++ss) (Z:=[@(.ref p),@(.ref m.length),@(aS ks),@(aS ss),none,none,none,none]) (e:=.call 13 %[@0,|@(3)]) (lo:=0) (E.eK (v.eK P)) (E.cm (v.cm Q)) sw sn (by simp;omega) rfl (by rw[hB2,LI];rfl) (λ d m1 h=>by erw[EWs,h];simp);have T:=S.eK (E.eK (v.eK P));have c3:=S.cm (E.cm (v.cm Q));have K9:2^ks.length<=4:=lz 'o';let⟨M4,f,t4,e4,J,f2⟩:=rows (n:=n+1) (many:=ss.length) (lt:=2^ks.length) (TK.eK (ws:=ks++ss++ls) T) (TK.cm c3) x2 'o' K9;have Ms:=t4.len;let⟨q,K,rfl⟩:=TK.ps T.lt t4;have N:=K.eK T;have c4:=K.cm c3;have e5:ao (Cn pg (n+1+1+1)) (.frz (.call 16 %[@0,.blt .len %[|@3],|.bin .LShift @(1) (.blt .len %[|@2])])) [@(.ref p),@(.ref m.length),@(aS ks),@(aS ss),@(aS ls),none,none,none] (TK m3 (ks++ss++ls))=.ok (.fz (((List.range ss.length).map f).map lD)) (TK q (ks++ss++ls)):=by
  refine jg (m0:=TK q (ks++ss++ls)) (l:=iT ss.length f++[.lst (gD (TK q (ks++ss++ls)).length ss.length)]) (w:=.ref ((TK q (ks++ss++ls)).length+ss.length)) ?_ (by simp[K.len]) (TK.cm c4) (zh (m:=TK q (ks++ss++ls)));have l1:∀M z,bA .len [aS z] M=.ok (.int z.length) M:=λ M z=>by rw[bK (xs:=z.map .str) rfl,M0]
  have g1:(0:Int)<=ks.length/\(ks.length:Int)<=1000000/\(1:Int).natAbs<2^64:=⟨by omega,by omega,by decide⟩;have g2:(1:Int)*2^((ks.length:Int)).toNat=((2^ks.length:Nat):Int):=by simp
  have B:aL (D.runN pg (n+1+1+1) 16) [.ref p,.int ss.length,.int ((2^ks.length:Nat):Int)] (TK m3 (ks++ss++ls))=.ok (.ref ((TK q (ks++ss++ls)).length+ss.length)) (MM ss.length (TK q (ks++ss++ls)) f):=by
   rw[bE rfl,e4,Ms]
  erw[EWs,l1,binop,g1,and_self,Nf,g2,B];rfl
 let⟨g,ρ',M5,hc,⟨U,F,ho⟩,y,L,h1,h2,h3,u,rfl⟩:=bY (get:=Src.get (.tup (ss.map .str))) (t:=.var 6) (test:=fun Z m=>aZ (Cn pg (n+1+1+1)) .nil Z m) (body:=fun Z m g=>gr (Cn pg (n+1+1+1)) (.elt (.blt .tuple %[|.frz (.comp (.gen @7 [7] @4 .nil (.elt (.call 13 %[@0,|@(2)]))))])) Z m g) (n:=ss.length)
  (λ i Z M g=>(∃U F,Z=[@(.ref p),@(.ref m.length),@(aS ks),@(aS ss),@(aS ls),@(.fz (((List.range ss.length).map f).map lD)),U,F])/\∃(y:Mem) (L:List (List Int)),g=L.map tupI/\L.length=i/\(∀ns∈L,ns.length=ls.length/\∀x∈ns,0<=x/\x<(2:Int))/\PS p q y/\M=TK y (ks++ss++ls)) (λ i Z M g A=>by
   rintro⟨⟨U,F,rfl⟩,y,L,rfl,h2,h3,u,rfl⟩;have hi':i<(ss.map W.str).length:=by simpa using A
   let⟨ns,M6,t6,n1,n2,n3⟩:=Bw (n:=n+1+1) (i:=7) (Z:=[@(.ref p),@(.ref m.length),@(aS ks),@(aS ss),@(aS ls),@(.fz (((List.range ss.length).map f).map lD)),@(.str ss[i]),F]) (xs:=ls.map .str) (js:=[7]) (it:=.var 4) (TK.eK (ws:=ks++ss++ls) (u.eK N)) (TK.cm (u.cm c4)) (by erw[jv,bg,lN,lO,lP,lQ,aT];rfl) (by simp;omega) (λ x=>rfl);let⟨m6,s6,rfl⟩:=TK.ps (by rw[u.len];exact N.lt) t6;refine⟨.str ss[i],[@(.ref p),@(.ref m.length),@(aS ks),@(aS ss),@(aS ls),@(.fz (((List.range ss.length).map f).map lD)),@(.str ss[i]),F],by rw[aO hi'];simp,by simp[aA],.inl ⟨TK y (ks++ss++ls),(L++[ns]).map tupI,[@(.ref p),@(.ref m.length),@(aS ks),@(aS ss),@(aS ls),@(.fz (((List.range ss.length).map f).map lD)),@(.str ss[i]),F],TK m6 (ks++ss++ls),by erw[bX],?_,⟨_,_,rfl⟩,m6,L++[ns],rfl,by simp[h2],λ x a=>?_,u.trans s6,rfl⟩⟩
   .have:(L.map tupI).length<lim:=by simp[lim];omega
    erw[gv,n3,aT];rw[MW this];simp
   .rcases Nc.mp a with a | a
    .exact h3 x a
    .rw[Nu] at a;subst a;exact⟨~~~n1,n2⟩)
  (fun Z m g _=>aG 's') ss.length 0 [@(.ref p),@(.ref m.length),@(aS ks),@(aS ss),@(aS ls),@(.fz (((List.range ss.length).map f).map lD)),none,none] (TK q (ks++ss++ls)) [] 'o' ⟨⟨_,_,rfl⟩,q,[],rfl,rfl,by simp,N.refl,rfl⟩
 subst h1;have p5:=u.eK N;have c5:=u.cm c4;have Mt:cN (Cn pg (n+1+1+1)) @3 [@(.ref p),@(.ref m.length),@(aS ks),@(aS ss),@(aS ls),@(.fz (((List.range ss.length).map f).map lD)),none,none] (TK q (ks++ss++ls))=.ok (.tup (ss.map .str)) (TK q (ks++ss++ls)):=by erw[jv,bg,lN,lO,lP,lQ,aT];rfl
 have e6:=bw (C:=Cn pg (n+1+1+1)) (m0:=TK y (ks++ss++ls)) (cY (js:=[6]) (ifs:=.nil) Mt (by erw[Src.len,M0];exact hc)) (by simp[u.len]) (TK.cm c5) (fU L);refine⟨ks,ss,ls,(List.range ss.length).map f,L,y,ks++ss++ls,⟨lw,ln,by omega,x2,by omega,by omega,by simp,h2,?_,h3,?_⟩,(((v.trans E).trans S).trans K).trans u,?_⟩
 .intro ns X;let⟨s,I,rfl⟩:=Nj.mp X;have I:=NK.mp I;refine⟨J s I,λ x a=>?_⟩;let⟨j,Y,rfl⟩:=O7.mp a;let⟨k,V,G,_⟩:=f2 j s (by rw[J s I] at Y;exact Y) I;rw[M9 Y] at G;have:=Nd G;omega
 .intro i A x a;have A:i<ss.length:=by simpa using A
  erw[OQ,Qw] at a ⊢;let⟨k,V,G,k3⟩:=f2 x i (by rw[J i A] at a;exact a) A;have H:x<(f k).length:=by rw[J k V,<-J i A];exact a
  rw[M9 a] at G;rw[M9 H] at k3;exact⟨k,~~~V,~~~H,Nd G,Nd k3⟩
 .refine bO (d:=⟨1,8,Jz⟩) rfl rfl ?_;show aC _ Jz [@(.ref p),none,none,none,none,none,none,none] m=_;rw[Jz,aj (Z1:=[@(.ref p),@(.ref m.length),none,none,none,none,none,none]) (m1:=TK m []) (aN (w:=.ref m.length) (by erw[EVs,Ox,new];rw[MW (N7 _)];rfl) rfl)];rw[aj (Z1:=[@(.ref p),@(.ref m.length),@(aS ks),none,none,none,none,none]) (aN e1 rfl)];rw[aj (Z1:=[@(.ref p),@(.ref m.length),@(aS ks),@(aS ss),none,none,none,none]) (aN e2 rfl)];rw[aj (Z1:=[@(.ref p),@(.ref m.length),@(aS ks),@(aS ss),@(aS ls),none,none,none]) (aN e3 rfl)];rw[aj (Z1:=[@(.ref p),@(.ref m.length),@(aS ks),@(aS ss),@(aS ls),@(.fz (((List.range ss.length).map f).map lD)),none,none]) (aN e5 rfl)];refine aU (bz (bw (m0:=TK y (ks++ss++ls)) ?_ (by simp[u.len]) (TK.cm c5) (by erw[aB,aK,bD,fU,CQ,Bool.and_self])));erw[dM,aH,bg,lN,lO,lP,lQ,aT,e6,aX,Nh,Ox,new];rw[MW 'd']
mutual
theorem I0:∀w:W,vM 0 w=w
 |.tup xs=>by rw[vM,nE]
 |.fz xs=>by rw[vM,nE]
 |.obj c ks vs=>by rw[vM,nE]
 |.ref n=>by rw[vM,Nat.zero_add]
 |.non=>rfl
 |.bl _=>rfl
 |.int _=>rfl
 |.str _=>rfl
theorem nE:∀ws:List W,lM 0 ws=ws
 | []=>rfl
 |x::r=>by rw[lM,I0,nE]
end
abbrev gE(R:List (List Int)):Mem:=R.map λ r=>O.lst (r.map .int)
abbrev eL(n:Nat):List W:=(List.range n).map λ i=>W.ref i
def CM(ks ss ls:List Str)(R L:List (List Int)):Mem:=gE R++[.lst (eL R.length),.lst [aS ks,aS ss,aS ls,.ref R.length,.fz (L.map tupI)]]
section
variable{ks ss ls:List Str}{R L:List (List Int)}
theorem zj:Cm (gE R):=by
 refine k7.mpr λ o a=>?_;let⟨r,_,rfl⟩:=Nj.mp a;exact bM _ (iR _)
theorem zk{k:Nat}(h:n<=k):bF k (eL n)=true:=by
 have:∀l:List Nat,(∀i∈l,i<k)->bF k (l.map λ i=>W.ref i)=true:=λ l=>by
  induction l with
  |nil=>intro _;rfl
  |cons a r f=>
   intro g;have j:=g a Nk;erw[Ni,bF,gQ,f λ i e=>g i (M3 _ e),Bool.and_true,Nz];exact j
 exact this _ λ i e=>by have:=NK.mp e;omega
theorem qJ:Cm (gE R++[.lst (eL R.length)]):=zj.app λ o a=>by
 rw[Nu] at a;subst a;exact zk 's'
theorem I8:Cm (CM ks ss ls R L):=by
 have h:CM ks ss ls R L=(gE R++[.lst (eL R.length)])++[.lst [aS ks,aS ss,aS ls,.ref R.length,.fz (L.map tupI)]]:=by simp[CM]
 rw[h];refine qJ.push ?_;have e:∀k (z:List Str),bF k (z.map W.str)=true:=λ k z=>bM k (bD z);have a:∀k,bF k (L.map tupI)=true:=λ k=>bM k (fU L);simp[gj,bF,e,a,gQ]
theorem uo:Told (CM ks ss ls R L) (R.length+1) R.length ks ss ls (eL R.length) R L:=by
 refine⟨?_,?_,by simp,λ i h a=>?_⟩
 .unfold CM;rw[MU 's'];simp
 .erw[getL,CM];rw[MU 's'];simp
 .erw[OQ,Qw,aM,getL,CM];rw[ML (~~~a)];simp[a]
theorem Ft(i:Nat)(h:i<(eL R.length).length)(h':i<R.length):getL (CM ks ss ls R L) (eL R.length)[i]=some (R[i].map .int):=by
 erw[OQ,Qw,getL,CM];rw[ML (~~~h')];simp[h']
theorem Fv{s:Nat}{v:List Int}(h:s<R.length):(CM ks ss ls R L).set s (.lst (v.map .int))=CM ks ss ls (R.set s v) L:=by
 unfold CM;rw[Pc _ _ (~~~h),Oh];congr 1;apply PM
 .simp
 .intro j e a;erw[getElem_set,OQ];split<;>rfl
theorem copy(U:R.length<=1000)(hw:∀r∈R,r.length<=1000):aL (D.runN pg (n+1) 18) [told ks ss ls R L] []=.ok (.ref (R.length+1)) (CM ks ss ls R L):=by
 have I:D.runN pg (n+1) 18 [told ks ss ls R L] []=.ok (.ref (R.length+1)) (CM ks ss ls R L):=by
  refine bO (d:=⟨1,2,JA⟩) rfl rfl ?_;show aC _ JA [@(told ks ss ls R L),none] []=_
  let Z:D.Loc:=[@(told ks ss ls R L),none]
  have x:∀m,ao (Cn pg n) @0 Z m=.ok (told ks ss ls R L) m:=λ m=>rfl;have k:∀(j:Nat) (l:j<5) m,ao (Cn pg n) (.idx @0 (.cst (.int j))) Z m=.ok ([aS ks,aS ss,aS ls,.fz (R.map lD),.fz (L.map tupI)][j]'(~~~l)) m:=λ j l m=>by
   rw[dN,x];erw[aT,bG];exact cF (xs:=[aS ks,aS ss,aS ls,.fz (R.map lD),.fz (L.map tupI)]) rfl (~~~l)
  have G:=dO (C:=Cn pg n) (Z:=Z) (m:=[]) (e:=.idx @0 @(0)) (k 0 'd' []) rfl Cm.nil (bD ks);have F:=dO (C:=Cn pg n) (Z:=Z) (m:=[]) (e:=.idx @0 @(1)) (k 1 'd' []) rfl Cm.nil (bD ss);have E:=dO (C:=Cn pg n) (Z:=Z) (m:=[]) (e:=.idx @0 @(2)) (k 2 'd' []) rfl Cm.nil (bD ls);have P:cN (Cn pg n) (.idx @0 @(3)) Z []=.ok (.tup (R.map lD)) []:=by
   have Q:ao (Cn pg n) (.idx @0 @(3)) Z []=.ok (.fz (R.map lD)) []:=k 3 'd' [];rw[jw,Q];rfl
  let⟨f,w,T,J,⟨o,h⟩,u,S⟩:=bY (get:=Src.get (.tup (R.map lD))) (t:=.var 1) (test:=fun Z m=>aZ (Cn pg n) .nil Z m) (body:=fun Z m f=>gr (Cn pg n) (.elt (.blt .list %[|@1])) Z m f) (n:=R.length)
   (λ i v m f=>(∃o,v=[@(told ks ss ls R L),o])/\m=gE (R.take i)/\f=eL i) (λ i v m f q=>by
    rintro⟨⟨o,rfl⟩,rfl,rfl⟩;have H:R.take (i+1)=R.take i++[R[i]]:=by rw[QD,M9 q];rfl
    refine⟨lD R[i],[@(told ks ss ls R L),@(lD R[i])],by rw[aO (~~~q)];simp,by simp[aA],.inl ⟨gE (R.take i),eL (i+1),[@(told ks ss ls R L),@(lD R[i])],gE (R.take (i+1)),by erw[bX],?_,⟨_,rfl⟩,rfl,rfl⟩⟩;have e:bA .list [lD R[i]] (gE (R.take i))=.ok (.ref i) (gE (R.take (i+1))):=by
     erw[bA,aM,getL,new,H];erw[M0,Of,Nat.min_eq_left (OR q),NZ,Ni,Qq]
    erw[gv,EWs,e];rw[MW 'l'];simp[eL,range_succ])
   (fun Z m f _=>aG 's') R.length 0 (fB [1] Z) [] [] 'o' ⟨⟨_,rfl⟩,rfl,rfl⟩
  rw[take_length] at u;subst u S;have B:ao (Cn pg n) (.comp (.gen @1 [1] (.idx @0 @(3)) .nil (.elt (.blt .list %[|@1])))) Z []=.ok (.ref R.length) (gE R++[.lst (eL R.length)]):=by
   have:=cY (C:=Cn pg n) (js:=[1]) (ifs:=.nil) (g:=.elt (.blt .list %[|@1])) P (by simpa only[Src.len,M0] using J);rw[this];simp
  have A:=dO (C:=Cn pg n) (Z:=Z) (m:=gE R++[.lst (eL R.length)]) (e:=.idx @0 @(4)) (k 4 'd' _) rfl qJ (fU L);have y:∀a b c d e:W,([a,b,c,d,e]:List W).length<=lim:=λ _ _ _ _ _=>by simp[lim]
  have K:ao (Cn pg n) (.lst %[.frz (.blt .list %[|.idx @0 @(0)]),.frz (.blt .list %[|.idx @0 @(1)]),.frz (.blt .list %[|.idx @0 @(2)]),.comp (.gen @1 [1] (.idx @0 @(3)) .nil (.elt (.blt .list %[|@1]))),|.frz (.blt .list %[|.idx @0 @(4)])]) Z []=.ok (.ref (R.length+1)) (CM ks ss ls R L):=by
   erw[dM,aH,aX,G,F,E,B,A,aT];rw[MW (y _ _ _ _ _)];simp[new,CM]
  rw[JA,aU (bz K)]
 rw[nj (by erw[aB,jn];rfl) I rfl];have N:(CM ks ss ls R L).map (CB 0)=CM ks ss ls R L:=by
  have:∀o∈CM ks ss ls R L,CB 0 o=o:=λ o h=>by
   unfold CM at h;rcases Nc.mp h with h | h
   .let⟨r,_,rfl⟩:=Nj.mp h;rw[CB,nE]
   .erw[OH,Og,O6] at h;rcases h with rfl | rfl<;>rw[CB,nE]
  exact(map_congr_left this).trans (map_id _)
 show D.R.ok (vM 0 _) ([]++(CM ks ss ls R L).map (CB 0))=_;rw[N,I0];rfl
end
section
variable{ks ss ls:List Str}{R L:List (List Int)}
theorem TabOk.w(o:TabOk ks ss ls R L):ly ks ss ls L:=⟨o.wd,o.nd,o.k2,o.s2,o.s4,o.l2,o.tl,o.te⟩
theorem changed{s x:Nat}{g:Int}(o:TabOk ks ss ls R L)(u:s<R.length)(hx:x<R[s].length):aL (D.runN pg (n+1+1+1+1+1+1) 24) [told ks ss ls R L,.int s,.int x,.int g] M=.ok (.bl true) M:=by
 have V:=o.k2;have T:=o.s4;have Mu:=lz V;have CN:R.length<=4:=by rw[o.rl];exact T
 have k:∀r∈R,r.length<=1000:=λ r y=>by rw[(o.re r y).1];omega
 let v:List Int:=R[s].set x g
 let e:=R.set s v
 have B:e.length=R.length:=by simp[e]
 have J:∀r∈e,r.length<=1000:=λ r y=>by
  rcases mem_or_eq_of_mem_set y with h | rfl
  .exact k r h
  .erw[v,Oh];exact k _ (NF u)
 have q:∀r∈e,r.length<=lim:=λ r y=>by have:=J r y;simp[lim];omega
 let tp:=R.length+1
 let j:=CM ks ss ls R L
 let M2:=CM ks ss ls e L
 have N:Told j tp R.length ks ss ls (eL R.length) R L:=uo;have A:Told M2 tp R.length ks ss ls (eL e.length) e L:=by
  have:=uo (ks:=ks) (ss:=ss) (ls:=ls) (R:=e) (L:=L);rw[B] at this;rw[B];exact this
 have P:Cm M2:=I8
 let Z (o4 o5 U:Option W):D.Loc:=[@(told ks ss ls R L),@(.int s),@(.int x),@(.int g),o4,o5,U]
 have e1:ao (Cn pg (n+1+1+1+1+1)) (.call 18 %[|@0]) (Z none none none) []=.ok (.ref tp) j:=by
  have:=copy (n:=n+1+1+1+1) (ks:=ks) (ss:=ss) (ls:=ls) (R:=R) (L:=L) 'o' k;erw[Z,EWs,this];rfl
 have Y:bh (.ref tp) (.int 3) j=.ok (.ref R.length) j:=cF (i:=3) (xs:=[aS ks,aS ss,aS ls,.ref R.length,.fz (L.map tupI)]) (by erw[aM,getL,N.at_]) 's';have G:s<(eL R.length).length:=by simpa using u
 have X:bh (.ref R.length) (.int s) j=.ok (.ref s) j:=by
  rw[cF (bJ N.r.at_) G];simp
 have e2:ao (Cn pg (n+1+1+1+1+1)) (.idx (.idx @4 @(3)) @1) (Z @(.ref tp) none none) j=.ok (.ref s) j:=by erw[Z,EWs,Y,X]
 have Q:j[s]?=some (.lst (R[s].map .int)):=by
  erw[j,CM];rw[ML (~~~u)];simp[u]
 have e3:bf (Cn pg (n+1+1+1+1+1)) (.asg (.sub @5 @2) @3) (Z @(.ref tp) @(.ref s) none) j=.ok (.nx (Z @(.ref tp) @(.ref s) none)) M2:=by
  have H:L2.vJ (R[s].map W.int).length (x:Int)=some x:=by
   unfold L2.vJ;rw[MW 'o',MW (~~~hx)];simp
  have F:kc (.ref s) (.int x) (.int g) j=.ok () M2:=by
   erw[kc,Q,H];have:(R[s].map W.int).set x (.int g)=v.map .int:=by simp[v,map_set]
   rw[this,Fv u]
  erw[gf,bg,Z,lN,lO,lP,lQ,aT,fC,F]
 have e4:=vD (n:=n+1+1+1) P A o.w q;let⟨f,e5,I⟩:=outcome (n:=n) P A.at_ A.parts o.w q (by rw[B];simp[lim];omega) (λ w h=>qI h);have T3:=A.app (l:=f);refine cD (m1:=M2++f) (by erw[aB,jn];rfl) (bO (d:=⟨4,7,JF⟩) rfl rfl ?_) rfl;show aC _ JF (Z none none none) []=_;have Mv:ao (Cn pg (n+1+1+1+1+1)) (.call 21 %[|@4]) (Z @(.ref tp) @(.ref s) none) M2=.ok ((aP e (2^ks.length) ss.length).getD .non) M2:=by erw[Z,EWs,e4]
 have S:bB (Cn pg (n+1+1+1+1+1)) (.cmp .NotEq (.call 22 %[|@4]) @6) (Z @(.ref tp) @(.ref s) @((aP e (2^ks.length) ss.length).getD .non)) M2=.ok false (M2++f):=by
  let⟨d,K⟩:=zc (R:=e) (a:=2^ks.length) (b:=ss.length) (m:=M2++f);have C:ao (Cn pg (n+1+1+1+1+1)) @6 (Z @(.ref tp) @(.ref s) @((aP e (2^ks.length) ss.length).getD .non)) (M2++f)=.ok ((aP e (2^ks.length) ss.length).getD .non) (M2++f):=rfl;have E:ao (Cn pg (n+1+1+1+1+1)) @4 (Z @(.ref tp) @(.ref s) @((aP e (2^ks.length) ss.length).getD .non)) M2=.ok (.ref tp) M2:=rfl;erw[bH,cu,aH,aX,E,C,aT,e5,aD,t7 K K,NU]
 rw[JF,aj (Z1:=Z @(.ref tp) none none) (aN e1 rfl),aj (Z1:=Z @(.ref tp) @(.ref s) none) (aN e2 rfl),aj e3,aj (Z1:=Z @(.ref tp) @(.ref s) @((aP e (2^ks.length) ss.length).getD .non)) (aN Mv rfl),
  aj (Z1:=Z @(.ref tp) @(.ref s) @((aP e (2^ks.length) ss.length).getD .non)) (m1:=M2++f) (by rw[gT S,ay])]
 rw[aU (bz (w:=.bl true) (m1:=M2++f) ?_)];rw[gR,dJ];have C:ao (Cn pg (n+1+1+1+1+1)) @6 (Z @(.ref tp) @(.ref s) @((aP e (2^ks.length) ss.length).getD .non)) (M2++f)=.ok ((aP e (2^ks.length) ss.length).getD .non) (M2++f):=rfl;erw[C,aT,bG,aD];cases hf:aP e (2^ks.length) ss.length with
 |some w=>
  have hn:jt w=false:=by
   unfold aP at hf;split at hf
   .cases hf;rfl
   .let⟨i,_,rfl⟩:=ME.mp hf;rfl
  erw[PY,hn,Qp,D.truthy,aT,Nf]
 |none=>
  have e6:=Bt (n:=n) I T3 (λ i h h'=>gB (Ft i h h')) o.w J (by rw[B];simp[lim];omega) hf;erw[PU,jt,NU,D.truthy,aT,MY,Np];rw[cu,aH];have E:ao (Cn pg (n+1+1+1+1+1)) @4 (Z @(.ref tp) @(.ref s) (some .non)) (M2++f)=.ok (.ref tp) (M2++f):=rfl;erw[E,aT,aX,e6]
end
theorem La{k:Nat}(l:k<100):∃A B,D.runN pg (n+1) 12 [.fz (ns.map .int),.int k] []=.ok (.ref 0) [eK A B]:=by
 have a:∃c:Int,ao (Cn pg n) (.ife (.cmp .Lt @1 (.blt .len %[|@0])) (.idx @0 @1) @(0)) [@(.fz (ns.map .int)),@(.int k),none] []=.ok (.int c) []:=by
  have f:bA .len [.fz (ns.map .int)] []=.ok (.int ns.length) []:=by rw[bK (xs:=ns.map .int) rfl,M0]
  by_cases h:k<ns.length
  .refine⟨ns[k],?_⟩;have e:(k:Int)<ns.length:=by omega
   have j:=cF (m:=[]) (w:=.fz (ns.map .int)) (xs:=ns.map .int) (i:=k) rfl (~~~h);erw[EVs,fF,fG,fH,fJ,fK,fL,fM,fN,cP,cQ,fO,dj,dm,dw,eV,fP,fQ,dz,fR,dB,eW,fY,dZ,bH,bP,eX,lN,lO,lP,lQ,f,aD,e,OP,Nf,j,OQ]
  .refine⟨0,?_⟩;have e:¬(k:Int)<ns.length:=by omega
   erw[EVs,fF,fG,fH,fJ,fK,fL,fM,fN,cP,cQ,fO,dj,dm,dw,eV,fP,fQ,dz,fR,dB,eW,fY,dZ,bH,bP,eX,lN,lO,lP,lQ,f,aD,e,Po,MY,Np]
 let⟨c,a⟩:=a;have g:jr 31 k=true:=by simp[jr]
 refine⟨if (if c<0 then -c else c) - 10^18>0 then (if c<0 then -c else c) - 10^18 else 0,(if c<0 then -c else c)%2147483587+31*k+5,?_⟩;refine bO (d:=⟨2,3,Jv⟩) rfl rfl ?_;show aC _ Jv [@(.fz (ns.map .int)),@(.int k),none] []=_;rw[Jv,aj (Z1:=[@(.fz (ns.map .int)),@(.int k),@(.int c)]) (aN a rfl),aU (bz (w:=.ref 0) (m1:=_) ?_)];simp[bg,bG,dW,ef,dX,gR,dJ,bC,dg,dY,dM,dN,er,cu,bT,eU,bN,cR,cH,ji,bZ,jh,cz,aX,aH,g8,g9,aT,bA,binop,g,new,lim]
theorem I9{C:D.Cx}{a b:E}{i j:Int}(f:ao C a Z m=.ok (.int i) m)(e:ao C b Z m=.ok (.int j) m)(h:-1000<i/\i<1000)(g:-1000<j/\j<1000):cN C (.rng2 a b) Z m=.ok (.rng i (j - i).toNat) m:=by
 rw[ia,f];erw[aT,e];rw[MW 'o']
theorem turn{k:Nat}{o2:Option W}(hk:k<100):∃G h f a,aC (Cn pg (n+1+1+1+1+1+1)) uh [@(.fz (ns.map .int)),@(.int k),o2,o3,o4,o5] []=.ok (.nx [@(.fz (ns.map .int)),@(.int k),G,h,f,a]) []:=by
 let⟨A,B,v⟩:=La (n:=n+1+1+1+1+1) (ns:=ns) hk;have Mw:aL (D.runN pg (n+1+1+1+1+1+1) 12) [.fz (ns.map .int),.int k] []=.ok (.ref 0) [eK A B]:=by
  rw[nj (by simp[aB,aK,iR]) v rfl];rfl
 have hp:iU [eK A B] 0:=⟨A,B,rfl⟩;let⟨ks,ss,ls,R,L,m1,ws,u,X,e1⟩:=table (n:=n+1+1) hp (Cm.nil.push (o:=eK A B) rfl);let⟨S,Q,J⟩:=X;have K:m1=[eK S Q]:=by rw[J];rfl
 subst K
 let Z (o3 o4 o5:Option W):D.Loc:=[@(.fz (ns.map .int)),@(.int k),@(told ks ss ls R L),o3,o4,o5]
 have N:ao (Cn pg (n+1+1+1+1+1+1)) (.frz (.call 17 %[|.call 12 %[@0,|@1]])) [@(.fz (ns.map .int)),@(.int k),o2,o3,o4,o5] []=.ok (told ks ss ls R L) []:=by
  refine jg (m0:=[]) (l:=[eK S Q,.lst (ws.map .str)]) (w:=told ks ss ls R L) ?_ rfl Cm.nil (k6 _ jn);have:aL (D.runN pg (n+1+1+1+1+1+1) 17) [.ref 0] [eK A B]=.ok (told ks ss ls R L) [eK S Q,.lst (ws.map .str)]:=by
   rw[bE rfl,e1];rfl
  erw[EWs,Mw,this];rfl
 have H:∀E M,bA .len [aS E] M=.ok (.int E.length) M:=λ E M=>by rw[bK (xs:=E.map .str) rfl,M0]
 have Y:=u.k2;have s4:=u.s4;have Mu:=lz Y;have g1:(0:Int)<=ks.length/\(ks.length:Int)<=1000000/\(1:Int).natAbs<2^64:=⟨by omega,by omega,by decide⟩;have g2:(1:Int)*2^((ks.length:Int)).toNat=((2^ks.length:Nat):Int):=by simp
 have i0:∀M,bh (told ks ss ls R L) (.int 0) M=.ok (aS ks) M:=λ M=>rfl;have U:∀M,bh (told ks ss ls R L) (.int 1) M=.ok (aS ss) M:=λ M=>rfl;have Mx:∀s x o5,s<R.length->x<2^ks.length->∃a,bf (Cn pg (n+1+1+1+1+1+1)) (.for_ @5 (.rng2 (.neg @(1)) (.bin .Add (.blt .len %[|.idx @2 @(1)]) @(1))) uf) (Z (some (.int (s:Nat))) (some (.int (x:Nat))) o5) []=.ok (.nx (Z (some (.int s)) (some (.int x)) a)) []:=λ s x o5 F hx=>by
  have q:cN (Cn pg (n+1+1+1+1+1+1)) (.rng2 (.neg @(1)) (.bin .Add (.blt .len %[|.idx @2 @(1)]) @(1))) (Z @(.int s) @(.int x) o5) []=.ok (.rng (-1) (((ss.length:Int)+1) - (-1)).toNat) []:=
   I9 (by erw[gX,bG,aT]) (by erw[Z,EWs,U,H,binop]) 'o' 'o'
  have hn:(((ss.length:Int)+1) - (-1)).toNat=ss.length+2:=by omega
  rw[hn] at q;let⟨e,T,y,rfl,a,rfl⟩:=cW (C:=Cn pg (n+1+1+1+1+1+1)) (t:=.var 5) (b:=uf) (n:=ss.length+2) q rfl (λ i e m=>m=[]/\∃o5,e=Z @(.int s) @(.int x) o5) ⟨rfl,_,rfl⟩ (λ i e m j=>by
   rintro⟨rfl,o5,rfl⟩;refine⟨.int (-1+i),Z @(.int s) @(.int x) @(.int (-1+i)),Z @(.int s) @(.int x) @(.int (-1+i)),[],aI j,by simp[Z,aA],.inl ?_,rfl,_,rfl⟩;have V:x<R[s].length:=by rw[(u.re _ (NF F)).1];exact hx
   have hc:=changed (n:=n) (g:=-1+i) (M:=[]) u F V;have N:bB (Cn pg (n+1+1+1+1+1+1)) (.not (.call 24 %[@2,@3,@4,|@5])) (Z @(.int s) @(.int x) @(.int (-1+i))) []=.ok false []:=by
    erw[Z,EVs,fF,fG,fH,fJ,fK,fL,fM,fN,cP,cQ,fO,dj,dm,dw,eV,fP,fQ,dz,fR,dB,eW,fY,dZ,bH,bP,eX,lN,lO,lP,lQ,hc,D.truthy,NU]
   rw[uf,aj (Z1:=Z @(.int s) @(.int x) @(.int (-1+i))) (m1:=[]) (by rw[gT N,ay]),ay])
   (fun Z m _=>aF 'o')
  exact⟨a,y⟩
 have I:∀s o4 o5,s<R.length->∃f a,bf (Cn pg (n+1+1+1+1+1+1)) (.for_ @4 (.rng (.bin .LShift @(1) (.blt .len %[|.idx @2 @(0)]))) ug) (Z (some (.int (s:Nat))) o4 o5) []=.ok (.nx (Z (some (.int s)) f a)) []:=λ s o4 o5 F=>by
  have q:cN (Cn pg (n+1+1+1+1+1+1)) (.rng (.bin .LShift @(1) (.blt .len %[|.idx @2 @(0)]))) (Z (some (.int s)) o4 o5) []=.ok (.rng 0 (2^ks.length)) []:=jf (by erw[Z,EWs,i0,H,binop,g1,and_self,Nf,g2]) 'o';let⟨e,T,y,rfl,f,a,rfl⟩:=cW (C:=Cn pg (n+1+1+1+1+1+1)) (t:=.var 4) (b:=ug) (n:=2^ks.length) q rfl (λ i e m=>m=[]/\∃o4 o5,e=Z @(.int s) o4 o5) ⟨rfl,_,_,rfl⟩ (λ i e m j=>by
   rintro⟨rfl,o4,o5,rfl⟩;let⟨a,P⟩:=Mx s i o5 F j;refine⟨.int i,Z @(.int s) @(.int i) o5,Z @(.int s) @(.int i) a,[],by rw[aI j];simp,by simp[Z,aA],.inl ?_,rfl,_,_,rfl⟩;rw[ug,aj P,ay])
   (fun Z m _=>aF 'o')
  exact⟨f,a,y⟩
 have q:cN (Cn pg (n+1+1+1+1+1+1)) (.rng (.blt .len %[|.idx @2 @(1)])) (Z o3 o4 o5) []=.ok (.rng 0 ss.length) []:=jf (by erw[Z,EWs,U,H]) 'o';let⟨e,T,y,rfl,h,f,a,rfl⟩:=cW (C:=Cn pg (n+1+1+1+1+1+1)) (t:=.var 3) (b:=yW) (n:=ss.length) q rfl (λ i e m=>m=[]/\∃o3 o4 o5,e=Z o3 o4 o5) ⟨rfl,_,_,_,rfl⟩ (λ i e m j=>by
  rintro⟨rfl,o3,o4,o5,rfl⟩;let⟨f,a,P⟩:=I i o4 o5 (by rw[u.rl];exact j);refine⟨.int i,Z @(.int i) o4 o5,Z @(.int i) f a,[],by rw[aI j];simp,by simp[Z,aA],.inl ?_,rfl,_,_,_,rfl⟩;rw[yW,aj P,ay])
  (fun Z m _=>aF 'o')
 exact⟨_,h,f,a,by rw[uh,aj (Z1:=Z o3 o4 o5) (aN N rfl),aj y,ay]⟩
theorem By:∃j,D.runN pg (n+1+1+1+1+1+1+1) 25 [.fz (ns.map .int)] []=.ok (.bl true) j:=by
 obtain⟨e,g,G⟩:∃e:Nat,(if (if (2:Int)<ns.length then (2:Int) else ns.length)>1 then (if (2:Int)<ns.length then (2:Int) else ns.length) else 1)=(e:Int)/\e<=2:=by
  refine⟨(if (if (2:Int)<ns.length then (2:Int) else ns.length)>1 then (if (2:Int)<ns.length then (2:Int) else ns.length) else 1).toNat,?_,?_⟩<;>(split<;>(try split)<;>omega)
 have F:cN (Cn pg (n+1+1+1+1+1+1)) (.rng (.blt .max %[@(1),|.blt .min %[.blt .len %[|@0],|@(2)]])) [@(.fz (ns.map .int)),none,none,none,none,none] []=.ok (.rng 0 e) []:=by
  refine jf ?_ 'o';have B:bA .len [.fz (ns.map .int)] []=.ok (.int ns.length) []:=by rw[bK (xs:=ns.map .int) rfl,M0]
  have A:∀a b M,bA .min [.int a,.int b] M=.ok (.int (if b<a then b else a)) M:=λ _ _ _=>rfl;have y:∀a b M,bA .max [.int a,.int b] M=.ok (.int (if b>a then b else a)) M:=λ _ _ _=>rfl;erw[EWs,B,A,y,g]
 let⟨l,j,E,rfl,f,o2,o3,o4,o5,rfl⟩:=cW (t:=.var 1) (b:=uh) (n:=e) F rfl
  (λ i Z m=>m=[]/\∃f o2 o3 o4 o5,Z=[@(.fz (ns.map .int)),f,o2,o3,o4,o5]) ⟨rfl,_,_,_,_,_,rfl⟩ (λ i Z m C=>by
   rintro⟨rfl,f,o2,o3,o4,o5,rfl⟩;let⟨x,v,u,q,h⟩:=turn (n:=n) (k:=i) (ns:=ns) (o2:=o2) (o3:=o3) (o4:=o4) (o5:=o5) 'o';exact⟨.int i,[@(.fz (ns.map .int)),@(.int i),o2,o3,o4,o5],_,[],by rw[aI C];simp,by simp[aA],.inl h,rfl,_,_,_,_,_,rfl⟩)
  (fun Z m _=>aF 'o')
 refine⟨[],bO (d:=⟨1,6,JG⟩) rfl rfl ?_⟩;show aC _ JG [@(.fz (ns.map .int)),none,none,none,none,none] []=_;rw[JG,aj E,aU (bz (w:=.bl true) (m1:=[]) (by erw[EVs]))]
theorem vH:∀ns:List Int,ns.length<=63->∃a,D.runN pg 40 25 [.fz (ns.map .int)] []=.ok (.bl true) a:=λ ns _=>By (n:=33)
end My
end
section
open PySem PySem.W PyProof.Rows My List
theorem PySem.Challenge.cw_relayholds_k53_each_goal_changed_holds : PySem.Challenge.rw_relayholds_k53_each_goal_changed.Holds := by
 refine PySem.W.holds_law My.LQ λ said=>?_
 refine PySem.W.holds_open (q:=My.qv) (loose:=[]) (Xt:=λ s=>PySem.W.xlAt My.qv [] s&&PySem.W.recOk (PySem.W.RowW.records (PySem.W.OpenRow.toRowW (PySem.W.OpenLaw.row PySem.Challenge.rw_relayholds_k53_each_goal_changed))) s) (XP:=PySem.W.XL My.qv []) (Yf:=(PySem.W.kHook kk ka (λ _=>by kernel_rfl)).obs) (Ya:=(PySem.W.kHook kk ka (λ _=>by kernel_rfl)).val) (YP:=(PySem.W.kHook kk ka (λ _=>by kernel_rfl)).says) (N:=7622) My.hdl (PySem.W.kHook kk ka (λ _=>by kernel_rfl)).of (PySem.W.kHook kk ka (λ _=>by kernel_rfl)).keeps (λ s e=>PySem.W.xl_of s (Bool.and_eq_true_iff.mp e).1) PySem.W.XL.keeps (by rfl) (by rfl) (by rfl) (λ s e=>PySem.W.recFacts_of (Bool.and_eq_true_iff.mp e).2) (by rfl) (by first | assumption | decide +kernel) (by decide +kernel) ⟨rfl,rfl,rfl,rfl,rfl,by decide +kernel⟩ ?hw ?hc
 (case hw=>w_witness2)
 k_fill
 refine D.yH (l:=PySem.Challenge.rw_relayholds_k53_each_goal_changed) (p:=My.pg) (i:=25) (x:="_law_script") rfl rfl (λ w h Y=>PySem.W.kIn_of Y) ?F My.vH
 case F=>
  intro w mg fa h KX G hmg
  exact D.IT (t:=My.tf 43) KX G hmg My.stat rfl rfl (by kernel_rfl) (by kernel_rfl) (by kernel_rfl) (by kernel_rfl)
end
end
