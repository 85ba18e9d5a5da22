import PyProof.Rows.All
import KE.KDictOf
import KE.KIsAll
import KE.KSortTup
import KE.KIntText
import KE.KFromBytes
import PySem.Challenge.RW_relayholds_k67_whole_told_otherwise
set_option genSizeOfSpec false
set_option genSizeOf false
set_option Elab.async false
set_option linter.all false
set_option maxRecDepth 1000000
set_option maxHeartbeats 4000000
set_option hygiene false
local macro_rules
|`(@$n:num)=>`(.var $n)
|`(@($n:num))=>`(.cst (.int $n))
|`(@($t))=>`(some ($t))
local macro_rules
|`('o')=>`(by omega)
|`('s')=>`(by simp)
|`('k')=>`(by decide +kernel)
|`('d')=>`(by decide)
|`('l')=>`(by simp[lim];omega)
|`('m')=>`(by simp[lim])
local macro_rules
|`(%[$xs,*|$t])=>do
 if xs.elemsAndSeps.size%2==1 then Lean.Macro.throwUnsupported
 let mut r<-`(.cons $t .nil)
 for x in xs.getElems.reverse do r<-`(.cons $x $r)
 return r
def cvP:Nat->Lean.TSyntax `term->Lean.MacroM (Lean.TSyntax `rcasesPat)
|0,_=>Lean.Macro.throwUnsupported
|n+1,t=>match t with
 |`(⟨$xs,*⟩)=>do
  let ys<-xs.getElems.mapM (cvP n)
  let ys<-ys.mapM fun y=>`(Lean.Parser.Tactic.rcasesPatLo|$y:rcasesPat)
  `(rcasesPat|⟨$ys,*⟩)
 |`($i:ident)=>`(rcasesPat|$i:ident)
 |_=>`(rcasesPat|_)
local macro_rules
|`(tactic|let $p:term := $e)=>do
 let q<-cvP 9 p
 `(tactic|obtain $q:rcasesPat := $e)
local macro_rules
|`(tactic|ext $[$ps]*)=>do
 let mut xs:Array (Lean.TSyntax ``Lean.binderIdent):=#[]
 for p in ps do match p with
  |`(rintroPat|$i:ident)=>xs:=xs.push (<-`(Lean.binderIdent|$i:ident))
  |`(rintroPat|_)=>xs:=xs.push (<-`(Lean.binderIdent|_))
  |_=>Lean.Macro.throwUnsupported
 `(tactic|rename_i $xs*)
local macro_rules
|`(tactic|erw[$rs,*] $[$l]?)=>do
 let mut xs:Array (Lean.TSyntax ``Lean.Parser.Tactic.simpLemma):=#[]
 for r in rs.getElems do
  if r.raw[1].getId==`EWs||r.raw[1].getId==`EVs then
   for x in "aN ck dO dP dD gZ cV bg dQ cD dF cF dR dH bC ef bD bV cW nk bS fZ bW aY aH j7 j8 aP".splitOn " "++(if r.raw[1].getId==`EWs then "dX dY dZ d7".splitOn " " else []) do xs:=xs.push (<-`(Lean.Parser.Tactic.simpLemma|$(Lean.mkIdent x.toName):ident))
  else match r with
  |`(Lean.Parser.Tactic.rwRule|<-$t)=>xs:=xs.push (<-`(Lean.Parser.Tactic.simpLemma|<-$t))
  |`(Lean.Parser.Tactic.rwRule|$t:term)=>xs:=xs.push (<-`(Lean.Parser.Tactic.simpLemma|$t:term))
  |_=>Lean.Macro.throwUnsupported
 `(tactic|simp only[$[$xs],*] $[$l]?)
local macro_rules
|`(def $i:declId $s:optDeclSig $v:declVal)=>`(noncomputable def $i:declId $s:optDeclSig $v:declVal)
noncomputable section
theorem Qa:type_of% @PySem.wpAny_bind:=@PySem.wpAny_bind
theorem Qc:type_of% @PySem.Heap.get?_push_of_some:=@PySem.Heap.get?_push_of_some
theorem Qd:type_of% @List.getElem?_eq_some_iff:=@List.getElem?_eq_some_iff
theorem Qe:type_of% @Option.map_eq_some_iff:=@Option.map_eq_some_iff
theorem Qf:type_of% @List.mem_map:=@List.mem_map
theorem Qg:type_of% @PySem.wpAny_pure:=@PySem.wpAny_pure
theorem Qh:type_of% @PySem.Heap.lt_size:=@PySem.Heap.lt_size
theorem Qi:type_of% @List.length_map:=@List.length_map
theorem Qj:type_of% @List.mem_cons_of_mem:=@List.mem_cons_of_mem
theorem Qk:type_of% @Nat.le_refl:=@Nat.le_refl
theorem Ql:type_of% @Nat.ne_of_lt:=@Nat.ne_of_lt
theorem Qm:type_of% @PySem.Heap.get?_push_size:=@PySem.Heap.get?_push_size
theorem Qn:type_of% @Bool.and_eq_true:=@Bool.and_eq_true
theorem Qo:type_of% @List.mem_range:=@List.mem_range
theorem Qp:type_of% @List.mem_cons:=@List.mem_cons
theorem Qq:type_of% @List.size_toArray:=@List.size_toArray
theorem Qs:type_of% @if_pos:=@if_pos
theorem Qt:type_of% @Bool.and_eq_true_iff:=@Bool.and_eq_true_iff
theorem Qu:type_of% @List.mem_cons_self:=@List.mem_cons_self
theorem Qv:type_of% @Bool.false_eq_true:=@Bool.false_eq_true
theorem Qw:type_of% @List.getElem?_append_left:=@List.getElem?_append_left
theorem Qx:type_of% @List.all_eq_true:=@List.all_eq_true
theorem Qy:type_of% @List.lookup_cons:=@List.lookup_cons
theorem Qz:type_of% @if_neg:=@if_neg
theorem QA:type_of% @Nat.lt_of_lt_of_le:=@Nat.lt_of_lt_of_le
theorem QB:type_of% @List.length_cons:=@List.length_cons
theorem QC:type_of% @Nat.le_trans:=@Nat.le_trans
theorem QD:type_of% @List.getElem_map:=@List.getElem_map
theorem QE:type_of% @decide_eq_false:=@decide_eq_false
theorem QF:type_of% @PySem.wpAny_mono:=@PySem.wpAny_mono
theorem QG:type_of% @List.getElem?_eq_getElem:=@List.getElem?_eq_getElem
theorem QH:type_of% @List.getElem?_append_right:=@List.getElem?_append_right
theorem QI:type_of% @List.getElem_mem:=@List.getElem_mem
theorem QJ:type_of% @PySem.Heap.size_push:=@PySem.Heap.size_push
theorem QK:type_of% @if_false:=@if_false
theorem QL:type_of% @if_true:=@if_true
theorem QM:type_of% @List.map_cons:=@List.map_cons
theorem QN:type_of% @List.getElem?_set_self:=@List.getElem?_set_self
theorem QO:type_of% @Array.getD_eq_getD_getElem?:=@Array.getD_eq_getD_getElem?
theorem QT:type_of% @List.getElem?_set_ne:=@List.getElem?_set_ne
theorem QU:type_of% @Nat.lt_succ_of_lt:=@Nat.lt_succ_of_lt
theorem QV:type_of% @PySem.wpAny_holding:=@PySem.wpAny_holding
theorem QW:type_of% @List.mem_append:=@List.mem_append
theorem QX:type_of% @List.mem_of_getElem?:=@List.mem_of_getElem?
theorem QY:type_of% @List.mem_singleton:=@List.mem_singleton
theorem QZ:type_of% @List.mem_flatMap:=@List.mem_flatMap
theorem Q0:type_of% @Int.toNat_natCast:=@Int.toNat_natCast
theorem Q2:type_of% @decide_eq_true:=@decide_eq_true
theorem Q3:type_of% @PySem.Heap.get?_update_self:=@PySem.Heap.get?_update_self
theorem Q4:type_of% @PySem.wpAny_field:=@PySem.wpAny_field
theorem Q5:type_of% @List.length_append:=@List.length_append
theorem Q6:type_of% @Nat.ne_of_gt:=@Nat.ne_of_gt
theorem Q7:type_of% @decide_eq_true_eq:=@decide_eq_true_eq
theorem Q8:type_of% @List.map_map:=@List.map_map
theorem Q9:type_of% @PySem.wpAny_callSpecial?_slot:=@PySem.wpAny_callSpecial?_slot
theorem Ra:type_of% @PySem.wpAny_truthy_bool:=@PySem.wpAny_truthy_bool
theorem Rb:type_of% @List.getElem?_eq_none_iff:=@List.getElem?_eq_none_iff
theorem Rc:type_of% @Bool.false_ne_true:=@Bool.false_ne_true
theorem Rf:type_of% @PySem.wpAny_setField_rec:=@PySem.wpAny_setField_rec
theorem Rg:type_of% @PySem.mem_of_lookup:=@PySem.mem_of_lookup
theorem Rh:type_of% @PyProof.Rows.callWith_type1:=@PyProof.Rows.callWith_type1
theorem Ri:type_of% @List.length_take:=@List.length_take
theorem Rj:type_of% @List.nodup_iff_pairwise_ne:=@List.nodup_iff_pairwise_ne
theorem Rk:type_of% @List.mem_append_right:=@List.mem_append_right
theorem Rl:type_of% @PySem.Heap.get?_update_of_ne:=@PySem.Heap.get?_update_of_ne
theorem Rm:type_of% @Option.getD_some:=@Option.getD_some
theorem Rn:type_of% @Array.getElem?_eq_getElem:=@Array.getElem?_eq_getElem
theorem Ro:type_of% @beq_iff_eq:=@beq_iff_eq
theorem Rp:type_of% @PySem.Heap.SameBut.update:=@PySem.Heap.SameBut.update
theorem Rq:type_of% @List.mem_cons:=@List.mem_cons
theorem Rt:type_of% @PySem.wpAny_seqItems:=@PySem.wpAny_seqItems
theorem Ru:type_of% @Option.some.inj:=@Option.some.inj
theorem Rv:type_of% @List.map_append:=@List.map_append
theorem Rw:type_of% @beq_self_eq_true:=@beq_self_eq_true
theorem Rx:type_of% @PySem.codeAny_call_builtin:=@PySem.codeAny_call_builtin
theorem Ry:type_of% @List.length_range:=@List.length_range
theorem Rz:type_of% @List.getElem_of_mem:=@List.getElem_of_mem
theorem RA:type_of% @Function.comp_def:=@Function.comp_def
theorem RB:type_of% @List.mem_filter:=@List.mem_filter
theorem RC:type_of% @Nat.zero_le:=@Nat.zero_le
theorem RD:type_of% @List.getD_eq_getElem?_getD:=@List.getD_eq_getElem?_getD
theorem RE:type_of% @Nat.lt_succ_self:=@Nat.lt_succ_self
theorem RG:type_of% @PySem.wpAny_Call_Name_kw:=@PySem.wpAny_Call_Name_kw
theorem RH:type_of% @PySem.wpAny_call_entry:=@PySem.wpAny_call_entry
theorem RI:type_of% @PySem.Around.under_plain:=@PySem.Around.under_plain
theorem RJ:type_of% @Bool.not_eq_true:=@Bool.not_eq_true
theorem RK:type_of% @PySem.wpAny_standAt:=@PySem.wpAny_standAt
theorem RM:type_of% @congrArg:=@congrArg
theorem RN:type_of% @PySem.sizeLine_eq:=@PySem.sizeLine_eq
theorem RP:type_of% @PySem.wpAny_pyIter_list:=@PySem.wpAny_pyIter_list
theorem RQ:type_of% @PySem.wpAny_newObj_type:=@PySem.wpAny_newObj_type
theorem RS:type_of% @List.length_nil:=@List.length_nil
theorem RT:type_of% @List.nodup_cons:=@List.nodup_cons
theorem RU:type_of% @PySem.codeAny_mono:=@PySem.codeAny_mono
theorem RV:type_of% @List.not_mem_nil:=@List.not_mem_nil
theorem RX:type_of% @List.length_filter_le:=@List.length_filter_le
theorem RY:type_of% @List.flatMap_cons:=@List.flatMap_cons
namespace My
open PySem List
def top(i:Nat):Stmt:=PySem.Challenge.pw_relayholds_k67_whole_told_otherwise.main.body.getD i (.Pass ⟨0,0,0,0⟩)
noncomputable abbrev VS(x:Str)(t:Tok):Value:=.str x t
noncomputable abbrev VI(x:Int)(t:Tok):Value:=.int x t
noncomputable abbrev VR(x:Addr):Value:=.ref x
noncomputable abbrev VN:Value:=.none
noncomputable abbrev VT(x:String):Value:=.type x
noncomputable abbrev VB(x:String):Value:=.builtin x
noncomputable abbrev KE(P:Params)(x:Str)(t:Tok)(v:Value):DictEntry:=⟨PyData.keyHash P x,.str x t,v⟩
noncomputable abbrev hI(i j:Nat):Stmt:=match top i with
 | .ClassDef _ _ _ b _ _ _ _ _ _ _=>b.getD j (top i)
 | s=>s
noncomputable abbrev OG(st:Stmt)(q:Str)(g:Addr)(OH:List (Str×Addr))(de kw doc md:Value)(an:Option Addr)(code ct:Value)(bl:Addr):Data:=match st with
 | .FunctionDef nm ar body _ _ _ sc _ _ _=>.func ⟨nm,q,ar,.stmts body,sc,g,OH,de,kw,doc,md,an,code,ct,bl⟩
 | _=>.plain
noncomputable abbrev hf(t:Tok):Value:=VS "/claim/cut.py" t
noncomputable abbrev hO(A:Addr)(n q:Str)(t ln na r u v:Nat)(x y z:Value):Addr×Obj:=(A,⟨VT "code",none,.fields #[VS n t,VS q (t+1),hf (t+2),VI ln 0,VI na 0,VI 0 0,VI 0 0,VI 3 0,VR r,.bool true,VI 181 0,VR (r+1),VN,x,y,z,VI u 0,VI ln 0,hf v],#[]⟩)
noncomputable abbrev hC(A:Addr)(n q:Str)(t ln na r u v:Nat):Addr×Obj:=hO A n q t ln na r u v (VR (r+2)) (VR (r+3)) (VR (r+4))
noncomputable abbrev hc(A:Addr)(n q:Str)(t ln na r u v:Nat):Addr×Obj:=hO A n q t ln na r u v VN VN (VR (r+2))
noncomputable abbrev hF(A:Addr)(st:Stmt)(q:Str)(md:Value)(c:Addr):Addr×Obj:=(A,⟨VT "function",none,OG st q 3 [] VN VN VN md none (VR c) VN 0,#[]⟩)
noncomputable abbrev nK:Value:=VS "law_relayholds_k67_whole_told_otherwise" 483
noncomputable abbrev tM:Value:=VS "relayholds.tables" 304
noncomputable abbrev Lu:Value:=VS "relayholds.races" 438
def kk:Params->PySem.W.Frag:=λ P=>[(2,⟨VN,none,(.dict #[] 0),#[]⟩),
 (3,⟨(VT "dict"),none,(.dict #[KE P "__name__" 165 nK,KE P "__doc__" 166 VN,KE P "__package__" 167 VN,KE P "__loader__" 168 (VB "__main__.__loader__#opaque"),KE P "__spec__" 169 VN,KE P "__annotations__" 170 (VR 6),KE P "__builtins__" 171 (VR 4),KE P "__file__" 173 (VS "/claim/cut.py" 172),KE P "__cached__" 174 VN,KE P "RelayError" 206 (VR 24),KE P "NoTable" 231 (VR 44),KE P "NoNames" 247 (VR 56),KE P "picks" 255 (VR 63),KE P "MOST_PLACES" 259 (VI 4 258),KE P "span" 265 (VR 68),KE P "check_names" 273 (VR 75),KE P "are_names" 279 (VR 80),KE P "MOST_SIGNS" 283 (VI 8 282),KE P "MOST_KEYS" 285 (VI 2 284),KE P "MOST_LAMPS" 287 (VI 2 286),KE P "first_wrong_word" 297 (VR 87),KE P "is_word" 303 (VR 92),KE P "LEAST_STATES" 307 (VI 2 306),KE P "MOST_STATES" 309 (VI 4 308),KE P "Table" 385 (VR 149),KE P "count_letters" 392 (VR 160),KE P "goings_on" 398 (VR 165),KE P "unlike_goings" 404 (VR 170),KE P "check_table" 416 (VR 177),KE P "check_many" 425 (VR 184),KE P "check_each" 431 (VR 189),KE P "check_settled" 437 (VR 194),KE P "races" 452 (VR 201),KE P "least_between" 458 (VR 206),KE P "steps" 471 (VR 213),KE P "steps_between" 482 (VR 220),KE P "_law_cell_at" 492 (VR 227),KE P "_law_pot" 501 (VR 234),KE P "_law_digit" 510 (VR 241),KE P "_law_word" 516 (VR 246),KE P "_law_goal" 522 (VR 251),KE P "_law_rows" 528 (VR 256),KE P "_law_table" 534 (VR 261),KE P "_law_all" 540 (VR 266),KE P "_law_tags" 546 (VR 271),KE P "_law_is_between" 556 (VR 278),KE P "_law_common" 567 (VR 285),KE P "_law_races" 580 (VR 292),KE P "_law_sequence" 586 (VR 297),KE P "_law_moved" 592 (VR 302),KE P "_law_threes" 598 (VR 307),KE P "_law_lengths" 609 (VR 314),KE P "_law_places_right" 615 (VR 319),KE P "_law_twice_right" 621 (VR 324),KE P "_law_states_right" 627 (VR 329),KE P "law" 640 (VR 336)] 56),#[]⟩),
 hc 62 "picks" "picks" 250 11 1 59 253 254,
 hF 63 (top 5) "picks" (VS "relayholds.picks" 248) 62,
 hc 67 "span" "span" 260 18 2 64 263 264,
 hF 68 (top 8) "span" (VS "relayholds.names" 256) 67,
 hC 74 "check_names" "check_names" 266 20 2 69 271 272,
 hF 75 (top 9) "check_names" (VS "relayholds.names" 256) 74,
 hc 79 "are_names" "are_names" 274 23 1 76 277 278,
 hF 80 (top 10) "are_names" (VS "relayholds.names" 256) 79,
 hC 86 "first_wrong_word" "first_wrong_word" 288 32 1 81 295 296,
 hF 87 (top 15) "first_wrong_word" (VS "relayholds.nets" 280) 86,
 hc 91 "is_word" "is_word" 298 39 1 88 301 302,
 hF 92 (top 16) "is_word" (VS "relayholds.nets" 280) 91,
 hc 103 "__init__" "Table.__init__" 322 46 6 100 325 326,
 hF 104 (hI 20 0) "Table.__init__" tM 103,
 hC 110 "key_words" "Table.key_words" 328 54 1 105 332 333,
 hF 111 (hI 20 1) "Table.key_words" tM 110,
 hC 117 "states" "Table.states" 335 57 1 112 339 340,
 hF 118 (hI 20 2) "Table.states" tM 117,
 hC 124 "lamps" "Table.lamps" 342 60 1 119 346 347,
 hF 125 (hI 20 3) "Table.lamps" tM 124,
 hC 131 "letters" "Table.letters" 349 63 1 126 353 354,
 hF 132 (hI 20 4) "Table.letters" tM 131,
 hC 138 "goes" "Table.goes" 356 66 3 133 362 363,
 hF 139 (hI 20 5) "Table.goes" tM 138,
 hC 145 "lights" "Table.lights" 365 69 2 140 370 371,
 hF 146 (hI 20 6) "Table.lights" tM 145,
 (148,⟨(VT "dict"),none,(.dict #[KE P "__module__" 317 tM,KE P "__firstlineno__" 321 (VI 44 320),KE P "__init__" 327 (VR 104),KE P "key_words" 334 (VR 111),KE P "states" 341 (VR 118),KE P "lamps" 348 (VR 125),KE P "letters" 355 (VR 132),KE P "goes" 364 (VR 139),KE P "lights" 372 (VR 146),KE P "__static_attributes__" 378 (VR 147),KE P "__dict__" 380 (VR 150),KE P "__weakref__" 382 (VR 151),KE P "__doc__" 383 VN] 4),#[]⟩),
 (149,⟨(VT "type"),none,(.cls {name:="Table",bases:=[.type "object"],mro:=[.ref 149,.type "object"],ns:=148,qualname:="Table"}),#[none,none,@(VS "Table" 310),@(VS "Table" 318),@(VB "object.__new__"),@(.bool true)]⟩),
 hC 159 "count_letters" "count_letters" 386 71 1 154 390 391,
 hF 160 (top 21) "count_letters" tM 159,
 hc 164 "goings_on" "goings_on" 393 73 2 161 396 397,
 hF 165 (top 22) "goings_on" tM 164,
 hc 169 "unlike_goings" "unlike_goings" 399 75 2 166 402 403,
 hF 170 (top 23) "unlike_goings" tM 169,
 hC 176 "check_table" "check_table" 405 78 5 171 414 415,
 hF 177 (top 24) "check_table" tM 176,
 hC 183 "check_many" "check_many" 417 86 3 178 423 424,
 hF 184 (top 25) "check_many" tM 183,
 hc 188 "check_each" "check_each" 426 93 5 185 429 430,
 hF 189 (top 26) "check_each" tM 188,
 hc 193 "check_settled" "check_settled" 432 99 1 190 435 436,
 hF 194 (top 27) "check_settled" tM 193,
 hC 200 "races" "races" 440 104 2 195 450 451,
 hF 201 (top 29) "races" Lu 200,
 hc 205 "least_between" "least_between" 453 113 3 202 456 457,
 hF 206 (top 30) "least_between" Lu 205,
 hC 212 "steps" "steps" 459 118 3 207 469 470,
 hF 213 (top 31) "steps" Lu 212,
 hC 219 "steps_between" "steps_between" 472 122 2 214 480 481,
 hF 220 (top 32) "steps_between" Lu 219,
 hC 226 "_law_cell_at" "_law_cell_at" 485 129 2 221 490 491,
 hF 227 (top 34) "_law_cell_at" nK 226,
 hC 233 "_law_pot" "_law_pot" 493 133 2 228 499 500,
 hF 234 (top 35) "_law_pot" nK 233,
 hC 240 "_law_digit" "_law_digit" 502 136 2 235 508 509,
 hF 241 (top 36) "_law_digit" nK 240,
 hc 245 "_law_word" "_law_word" 511 142 2 242 514 515,
 hF 246 (top 37) "_law_word" nK 245,
 hc 250 "_law_goal" "_law_goal" 517 151 4 247 520 521,
 hF 251 (top 38) "_law_goal" nK 250,
 hc 255 "_law_rows" "_law_rows" 523 156 3 252 526 527,
 hF 256 (top 39) "_law_rows" nK 255,
 hc 260 "_law_table" "_law_table" 529 159 1 257 532 533,
 hF 261 (top 40) "_law_table" nK 260,
 hc 265 "_law_all" "_law_all" 535 167 1 262 538 539,
 hF 266 (top 41) "_law_all" nK 265,
 hc 270 "_law_tags" "_law_tags" 541 172 2 267 544 545,
 hF 271 (top 42) "_law_tags" nK 270,
 hC 277 "_law_is_between" "_law_is_between" 547 176 3 272 554 555,
 hF 278 (top 43) "_law_is_between" nK 277,
 hC 284 "_law_common" "_law_common" 557 181 3 279 565 566,
 hF 285 (top 44) "_law_common" nK 284,
 hC 291 "_law_races" "_law_races" 568 187 2 286 578 579,
 hF 292 (top 45) "_law_races" nK 291,
 hc 296 "_law_sequence" "_law_sequence" 581 196 2 293 584 585,
 hF 297 (top 46) "_law_sequence" nK 296,
 hc 301 "_law_moved" "_law_moved" 587 199 3 298 590 591,
 hF 302 (top 47) "_law_moved" nK 301,
 hc 306 "_law_threes" "_law_threes" 593 201 1 303 596 597,
 hF 307 (top 48) "_law_threes" nK 306,
 hC 313 "_law_lengths" "_law_lengths" 599 203 3 308 607 608,
 hF 314 (top 49) "_law_lengths" nK 313,
 hc 318 "_law_places_right" "_law_places_right" 610 206 5 315 613 614,
 hF 319 (top 50) "_law_places_right" nK 318,
 hc 323 "_law_twice_right" "_law_twice_right" 616 218 4 320 619 620,
 hF 324 (top 51) "_law_twice_right" nK 323,
 hc 328 "_law_states_right" "_law_states_right" 622 224 5 325 625 626,
 hF 329 (top 52) "_law_states_right" nK 328,
 hC 335 "law" "law" 628 238 1 330 638 639,
 hF 336 (top 53) "law" nK 335]
def ka:List Addr:=[2,3,62,63,67,68,74,75,79,80,86,87,91,92,103,104,110,111,117,118,124,125,131,132,138,139,145,146,148,149,159,160,164,165,169,170,176,177,183,184,188,189,193,194,200,201,205,206,212,213,219,220,226,227,233,234,240,241,245,246,250,251,255,256,260,261,265,266,270,271,277,278,284,285,291,292,296,297,301,302,306,307,313,314,318,319,323,324,328,329,335,336]
def qv:Program:=PySem.W.view PySem.Challenge.pw_relayholds_k67_whole_told_otherwise [1,2,3,5,7,8,9,10,12,13,14,15,16,18,19,20,21,22,23,24,25,26,27,29,30,31,32,34,35,36,37,38,39,40,41,42,43,44,45,46,47,48,49,50,51,52,53]
theorem hdl:PySem.W.LeftO (PySem.W.OpenLaw.row PySem.Challenge.rw_relayholds_k67_whole_told_otherwise).prog qv [] (λ s=>PySem.W.xlAt qv [] s&&PySem.W.recOk (PySem.W.RowW.records (PySem.W.OpenRow.toRowW (PySem.W.OpenLaw.row PySem.Challenge.rw_relayholds_k67_whole_told_otherwise))) s) (PySem.W.kHook kk ka (λ _=>by kernel_rfl)).obs (PySem.W.kHook kk ka (λ _=>by kernel_rfl)).val 4600:=λ w=>by kernel_rfl
theorem OI:PySem.W.OpenLaw.wellSaid PySem.Challenge.rw_relayholds_k67_whole_told_otherwise=true:=by kernel_rfl
end My
section
namespace L2
open PySem PySem.Spec PyProof.Rows List
abbrev Key:=Sum Int Str
def lR:Key->Value->Bool
 | .inl k,v=>Value.isInt k v
 | .inr x,v=>Value.isStrOf x v
def Mv(w:World):Key->Int
 | .inl k=>hashInt k
 | .inr x=>hashStr w x
theorem bN:∀{k:Key} {v:Value},lR k v=true->(∃i t,k=Sum.inl i/\v=Value.int i t)\/(∃x t,k=Sum.inr x/\v=Value.str x t)
 | .inl i,v,h=>by
  let⟨t,e⟩:=Value.isInt_shape (k:=i) (v:=v) h;exact .inl ⟨i,t,rfl,e⟩
 | .inr x,v,h=>by
  let⟨t,e⟩:=Value.isStrOf_shape (x:=x) (v:=v) h;exact .inr ⟨x,t,rfl,e⟩
theorem oq(i:Int)(t:Tok):lR (.inl i) (.int i t)=true:=by simp[lR,Value.isInt]
theorem ou(x:Str)(t:Tok):lR (.inr x) (.str x t)=true:=by simp[lR,Value.isStrOf]
theorem Fc(a b:Int):decide ((Sum.inl a:Key)=Sum.inl b)=(a==b):=by
 by_cases e:a=b
 .subst e;simp
 .have h:¬(Sum.inl a:Key)=Sum.inl b:=λ q=>e (Sum.inl.inj q);rw[QE h];exact(beq_eq_false_iff_ne.mpr e).symm
theorem Fd(a b:Str):decide ((Sum.inr a:Key)=Sum.inr b)=decide (a=b):=by
 by_cases e:a=b
 .subst e;simp
 .have h:¬(Sum.inr a:Key)=Sum.inr b:=λ q=>e (Sum.inr.inj q);rw[QE h,QE e]
theorem Fe(a:Int)(b:Str):decide ((Sum.inl a:Key)=Sum.inr b)=false:=QE (λ q=>nomatch q)
theorem Ff(a:Str)(b:Int):decide ((Sum.inr a:Key)=Sum.inl b)=false:=QE (λ q=>nomatch q)
def bT(prog:Program)(w:World):PySem.KeyKind prog w Key where
 is:=lR
 hash:=Mv w
 inj:=λ v a b ha hb=>by
  rcases bN ha with⟨i,t,rfl,rfl⟩ | ⟨x,t,rfl,rfl⟩
  .rcases bN hb with⟨j,u,rfl,e⟩ | ⟨y,u,rfl,e⟩
   .injection e with e1 _;rw[e1]
   .exact nomatch e
  .rcases bN hb with⟨j,u,rfl,e⟩ | ⟨y,u,rfl,e⟩
   .exact nomatch e
   .injection e with e1 _;rw[e1]
 byValue:=λ k v h=>by
  rcases bN h with⟨i,t,rfl,rfl⟩ | ⟨x,t,rfl,rfl⟩<;>rfl
 pyHash:=λ hv h=>by
  rcases bN hv with⟨i,t,rfl,rfl⟩ | ⟨x,t,rfl,rfl⟩
  .exact wpAny_pyHash_int h
  .exact wpAny_pyHash_str h
 eqBool:=λ hu hv h=>by
  rcases bN hu with⟨i,t,rfl,rfl⟩ | ⟨x,t,rfl,rfl⟩
  .rcases bN hv with⟨j,u,rfl,rfl⟩ | ⟨y,u,rfl,rfl⟩
   .rw[Fc] at h;exact wpAny_eqBool_int h
   .rw[Fe] at h;exact SeqAt.EqAt.int_str i t y u _ _ _ _ h
  .rcases bN hv with⟨j,u,rfl,rfl⟩ | ⟨y,u,rfl,rfl⟩
   .rw[Ff] at h;exact SeqAt.EqAt.str_int x t j u _ _ _ _ h
   .rw[Fd] at h;exact wpAny_eqBool_str h
 «strs»:=λ k x t v h=>by
  rcases bN h with⟨i,u,rfl,e⟩ | ⟨y,u,rfl,e⟩
  .exact nomatch e
  .injection e with e1 _
   subst e1;cases v<;>rfl
theorem qU(prog:Program)(w:World)(i:Int)(t:Tok):(bT prog w).is (.inl i) (.int i t)=true:=oq i t
theorem qV(prog:Program)(w:World)(x:Str)(t:Tok):(bT prog w).is (.inr x) (.str x t)=true:=ou x t
end L2
namespace L2
open PySem PySem.Spec PyProof.Rows List
variable{L b:Addr}{g h:Heap}{o:Obj}
inductive V where
 | non | bl (b:Bool) | int (i:Int) | str (x:Str) | byt (b:Array UInt8) | flt (b:UInt64) | ref (a:Addr) | ty (n:String)
 deriving DecidableEq
def RelV:V->Value->Prop
 | .non,u=>u=Value.none
 | .bl b,u=>u=Value.bool b
 | .int i,u=>∃t,u=Value.int i t
 | .str x,u=>∃t,u=Value.str x t
 | .byt b,u=>∃t,u=Value.bytes b t
 | .flt b,u=>∃t,u=Value.float b t
 | .ref a,u=>u=Value.ref a
 | .ty n,u=>u=Value.type n
abbrev Vals:List V->List Value->Prop:=Paired RelV
theorem Vals.length{xs:List V}{us:List Value}(r:Vals xs us):xs.length=us.length:=Paired.length r
theorem Vals.get:∀{xs:List V} {us:List Value} {i:Nat} {x:V},Vals xs us->xs[i]?=some x->∃u,us[i]?=some u/\RelV x u
 | _,_,_,_,.nil,e=>by simp at e
 | _,_,0,_,.cons r _,e=>by simp at e;subst e;exact⟨_,rfl,r⟩
 | _,_,i+1,x,.cons _ t,e=>by
  let⟨u,h1,h2⟩:=Vals.get (i:=i) (x:=x) t (by simpa using e);exact⟨u,by simpa using h1,h2⟩
theorem Vals.set{x:V}{u:Value}(r:RelV x u):∀{xs:List V} {us:List Value} (i:Nat),Vals xs us->Vals (xs.set i x) (us.set i u)
 | _,_,_,.nil=>.nil
 | _,_,0,.cons _ t=>.cons r t
 | _,_,i+1,.cons q t=>.cons q (Vals.set r i t)
theorem Vals.append:∀{xs ys:List V} {us ws:List Value},Vals xs us->Vals ys ws->Vals (xs++ys) (us++ws)
 | _,_,_,_,.nil,s=>s
 | _,_,_,_,.cons r t,s=>.cons r (Vals.append t s)
theorem Vals.take:∀{xs:List V} {us:List Value} (n:Nat),Vals xs us->Vals (xs.take n) (us.take n)
 | _,_,0,_=>.nil
 | _,_,_+1,.nil=>.nil
 | _,_,n+1,.cons r t=>.cons r (Vals.take n t)
theorem Vals.drop:∀{xs:List V} {us:List Value} (n:Nat),Vals xs us->Vals (xs.drop n) (us.drop n)
 | _,_,0,r=>r
 | _,_,_+1,.nil=>.nil
 | _,_,n+1,.cons _ t=>Vals.drop n t
def iF:Option V->Option Value->Prop
 | some v,some u=>RelV v u
 | none,none=>True
 | _,_=>False
def KV{κ:Type}:List (κ×V)->List (κ×Value)->Prop:=Paired λ (p:κ×V) (q:κ×Value)=>p.1=q.1/\RelV p.2 q.2
def kV:Key->V
 | .inl i=>.int i
 | .inr x=>.str x
inductive HO where
 | lst (xs:List V)
 | tup (xs:List V)
 | dK (kvs:List (Key×V)) | dT (kvs:List (List Key×V))
 | set (S:Int->Bool) (n:Nat)
 | ins (C dx:Addr) (fs:List (Str×V))
 | own (x:Addr)
 | xd (fs:List (Str×V))
 | met (f x:Addr)
 | rng (lo hi:Int)
 | frz (o:Obj) (u:HO)
 | tbl (ps:Array Value)
 | ext (φ:Heap->Prop)
abbrev Hp:=Addr->Option HO
def upd(H:Hp)(a:Addr)(o:HO):Hp:=λ b=>if b=a then some o else H b
theorem aJ{H:Hp}{a:Addr}{o:HO}:upd H a o a=some o:=by unfold upd;rw[Qs rfl]
theorem aq{H:Hp}{a:Addr}{o:HO}(h:b≠a):upd H a o b=H b:=by unfold upd;rw[Qz h]
theorem au{H:Hp}{a:Addr}{o:HO}(h:H a=some o)(h':H b=none):a≠b:=by
 intro e;subst e;rw[h] at h';cases h'
section
variable(P:Program)(w:World)
def bU(H:Hp)(h:Heap)(a:Addr):HO->Prop
 | .lst xs=>xs.length<=sizeLine/\∃(its:List Value) (n:Nat),Vals xs its/\h.get? a=some {cls:=.type "list",data:=.seq its.toArray n}
 | .tup xs=>xs.length<=sizeLine/\∃its:List Value,Vals xs its/\IsTup h a its.toArray
 | .dK kvs=>kvs.length<=sizeLine/\(a==sysModules)=false/\∃vs,KV kvs vs/\h.DictOf (bT P w) a vs
 | .dT kvs=>kvs.length<=sizeLine/\(a==sysModules)=false/\∃xs:List (List Key×Addr×Value),
   Paired (λ (p:List Key×V) (q:List Key×Addr×Value)=>p.1=q.1/\H q.2.1=some (.tup (p.1.map kV))/\RelV p.2 q.2.2) kvs xs/\
   ∃o es ep,h.get? a=some o/\o.ExactDict/\o.data=.dict es ep/\es.toList=xs.map (entryOfKey (tupleKind (bT P w)))/\(xs.map (·.1)).Nodup
 | .set S n=>h.SetOf (intKind P w) a S n
 | .ins C dx fs=>H dx=some (.own a)/\fs.length<=1000/\dx≠a/\h.get? a=some (PySem.W.instObj C dx)/\
   ∃mA,h.Ns1 dx mA/\(∀f,iF (fs.lookup f) (mA f))/\PySem.Within mA (fs.map (·.1))
 | .own _=>∃o,h.get? a=some o
 | .xd fs=>∃mA,h.Ns1 a mA/\∀f,iF (fs.lookup f) (mA f)
 | .rng lo hi=>∃t u v,h.get? a=some {cls:=.type "range",data:=.fields #[.int lo t,.int hi u,.int 1 v]}
 | .frz o u=>h.get? a=some o/\bU H h a u
 | .tbl ps=>h.get? a=some {cls:=.none,data:=.fields ps}
 | .met f x=>h.get? a=@(PySem.W.methodObj (.ref f) (.ref x))
 | .ext φ=>φ h/\(∃o,h.get? a=some o)/\∀h1 h2:Heap,φ h1->(∀o,h1.get? a=some o->h2.get? a=some o)->φ h2
def iG(H:Hp)(h:Heap):Prop:=∀a o,H a=some o->bU P w H h a o
end
section
variable{P:Program}{w:World}{H H':Hp}{h h':Heap}{a:Addr}{o:HO}
theorem bU.lt(x:bU P w H h a o):a < h.objs.size:=by
 cases o with
 | lst xs=>let⟨_,_,_,_,e⟩:=x;exact Qh e
 | tup xs=>let⟨_,_,_,p⟩:=x;exact p.lt
 | dK kvs=>let⟨_,_,_,_,o,_,_,e,_⟩:=x;exact Qh e
 | dT kvs=>let⟨_,_,_,_,o,_,_,e,_⟩:=x;exact Qh e
 | set S n=>let⟨o,_,_,_,e,_⟩:=x;exact Qh e
 | ins C dx fs=>let⟨_,_,_,e,_⟩:=x;exact Qh e
 | own y=>let⟨_,e⟩:=x;exact Qh e
 | xd fs=>let⟨_,⟨_,_,_,e,_⟩,_⟩:=x;exact Qh e
 | rng lo hi=>let⟨_,_,_,e⟩:=x;exact Qh e
 | frz ob u=>let⟨e,_⟩:=x;exact Qh e
 | tbl ps=>exact Qh (show h.get? a=some _ from x)
 | met f y=>exact Qh (show h.get? a=some _ from x)
 | ext φ=>let⟨_,⟨_,e⟩,_⟩:=x;exact Qh e
theorem Paired.IY{α J:Type}{F G:α->J->Prop}:∀{l₁:List α} {l₂:List J},Paired F l₁ l₂->(∀a b,F a b->G a b)->Paired G l₁ l₂
 | _,_,.nil,_=>.nil
 | _,_,.cons r t,f=>.cons (f _ _ r) (Paired.IY t f)
theorem bU.stay(x:bU P w H h a o)(k:∀b u,(b=a\/H b=@(.own a))->h.get? b=some u->h'.get? b=some u)
  (ho:∀b,H b=some (.own a)->H' b=@(.own a)) (ht:∀b xs,H b=some (.tup xs)->H' b=@(.tup xs)):bU P w H' h' a o:=by
 induction o with
 | lst xs=>let⟨z,its,n,r,e⟩:=x;exact⟨z,its,n,r,k _ _ (.inl rfl) e⟩
 | tup xs=>let⟨z,its,r,ob,e,c⟩:=x;exact⟨z,its,r,ob,k _ _ (.inl rfl) e,c⟩
 | dK kvs=>let⟨z,y,vs,r,ob,es,ep,e,c⟩:=x;exact⟨z,y,vs,r,ob,es,ep,k _ _ (.inl rfl) e,c⟩
 | dT kvs=>
  let⟨z,y,xs,r,ob,es,ep,e,c⟩:=x;exact⟨z,y,xs,Paired.IY r λ p q z=>⟨z.1,ht _ _ z.2.1,z.2.2⟩,ob,es,ep,k _ _ (.inl rfl) e,c⟩
 | set S n=>let⟨ob,es,ep,t,e,c⟩:=x;exact⟨ob,es,ep,t,k _ _ (.inl rfl) e,c⟩
 | ins C dx fs=>
  let⟨d,z,ne,e,mA,⟨od,es,ep,e2,c⟩,r⟩:=x;exact⟨ho _ d,z,ne,k _ _ (.inl rfl) e,mA,⟨od,es,ep,k _ _ (.inr d) e2,c⟩,r⟩
 | own y=>let⟨ob,e⟩:=x;exact⟨ob,k _ _ (.inl rfl) e⟩
 | xd fs=>let⟨mA,⟨od,es,ep,e,c⟩,r⟩:=x;exact⟨mA,⟨od,es,ep,k _ _ (.inl rfl) e,c⟩,r⟩
 | rng lo hi=>let⟨t,u,v,e⟩:=x;exact⟨t,u,v,k _ _ (.inl rfl) e⟩
 | frz ob u ih=>let⟨e,q⟩:=x;exact⟨k _ _ (.inl rfl) e,ih q⟩
 | tbl ps=>
  have e:h.get? a=some {cls:=.none,data:=.fields ps}:=x;show h'.get? a=some {cls:=.none,data:=.fields ps};exact k a _ (.inl rfl) e
 | met f y=>
  have e:h.get? a=some (PySem.W.methodObj (.ref f) (.ref y)):=x;show h'.get? a=@(PySem.W.methodObj (.ref f) (.ref y));exact k a _ (.inl rfl) e
 | ext φ=>let⟨p,⟨o,e⟩,st⟩:=x;exact⟨st _ _ p λ o q=>k _ _ (.inl rfl) q,⟨o,k _ _ (.inl rfl) e⟩,st⟩
theorem iG.lt(x:iG P w H h)(e:H a=some o):a < h.objs.size:=(x a o e).lt
theorem iG.fresh(x:iG P w H h)(e:h.objs.size<=a):H a=none:=by
 cases q:H a with
 | none=>rfl
 | some u=>exact absurd (QA (x.lt q) e) (Nat.lt_irrefl _)
theorem iG.kept(x:iG P w H h)(k:∀b u,h.get? b=some u->h'.get? b=some u):iG P w H h':=λ a o e=>
 (x a o e).stay (λ b u _ q=>k b u q) (λ _ q=>q) λ _ _ q=>q
theorem iG.laid(x:iG P w H h)(k:∀b u,h.get? b=some u->h'.get? b=some u)(hp:h.objs.size<=a)(new:bU P w (upd H a o) h' a o):iG P w (upd H a o) h':=λ b u e=>by
 have hn:=x.fresh hp
 by_cases hb:b=a
 .subst hb;rw[aJ] at e;cases e;exact new
 .rw[aq hb] at e;exact(x b u e).stay (λ c v _ q=>k c v q) (λ c q=>by rw[aq (au q hn)];exact q) λ c xs q=>by rw[aq (au q hn)];exact q
end
def Rd(H:Hp)(a:Addr)(u:HO):Prop:=H a=some u\/∃o,H a=@(.frz o u)
theorem Rd.ok{P:Program}{w:World}{H:Hp}{a:Addr}{u:HO}(r:Rd H a u)(x:iG P w H h):bU P w H h a u:=by
 rcases r with r | ⟨o,r⟩
 .exact x a u r
 .let⟨_,q⟩:=x a _ r;exact q
def Lv:Option HO->Prop
 | some (.lst _)=>True
 | some (.dK _)=>True
 | some (.dT _)=>True
 | some (.set _ _)=>True
 | some (.ins _ _ _)=>True
 | some (.ext _)=>True
 | _=>False
section
variable{P:Program}{w:World}{H:Hp}{h h':Heap}{x e:Addr}{o':HO}
theorem iG.write(ok:iG P w H h)(mu:Lv (H x))(he:e=x\/H e=@(.own x))(k:∀b u,b≠e->h.get? b=some u->h'.get? b=some u)(IJ:∃u,h'.get? e=some u)
  (new:bU P w (upd H x o') h' x o'):iG P w (upd H x o') h':=λ b u q=>by
 have IZ:∀c y,H c=some (.own y)->c≠x:=λ c y r z=>by subst z;rw[r] at mu;exact mu
 have Mw:∀c xs,H c=some (.tup xs)->c≠x:=λ c xs r z=>by subst z;rw[r] at mu;exact mu
 by_cases hb:b=x
 .subst hb;rw[aJ] at q;cases q;exact new
 .rw[aq hb] at q
  by_cases hbe:b=e
  .have q':H b=some (.own x):=by
    rcases he with z | z
    .exact absurd (hbe.trans z) hb
    .rw[hbe];exact z
   rw[q] at q';cases q';let⟨v,hv⟩:=IJ;exact⟨v,by rw[hbe];exact hv⟩
  .refine(ok b u q).stay (λ c v hc r=>k c v ?_ r) (λ c r=>by rw[aq (IZ c b r)];exact r) λ c xs r=>by rw[aq (Mw c xs r)];exact r
   rcases hc with rfl | hc
   .exact hbe
   .rintro rfl;rcases he with z | z
    .exact IZ c b hc z
    .rw[hc] at z;cases z;exact hb rfl
end
structure Un(fs ex:List Addr)(H H':Hp)(h h':Heap):Prop where
 keep:∀b o,h.get? b=some o->H b=none->b∉fs->b∉ex->h'.get? b=some o
 slot:∀b o,h.get? b=some o->H b=none->b∈fs->b∉ex->∃sl,h'.get? b=some {o with slots:=sl}
 free:∀b o,h.get? b=some o->H b=none->b∉ex->H' b=none
 there:∀b o,h.get? b=some o->b∉ex->∃o',h'.get? b=some o'
 tups:∀b xs,H b=some (.tup xs)->H' b=@(.tup xs)
 kX:∀b o u,H b=some (.frz o u)->H' b=@(.frz o u)
 lT:∀b ps,H b=some (.tbl ps)->∃more,H' b=@(.tbl (ps++more))
section
variable{fs fs' ex ex':List Addr}{H H1 H2:Hp}{h h1 h2 h':Heap}{a x e:Addr}{o:HO}
theorem Un.any(u:Un fs ex H H1 h h1){ob:Obj}(q:h.get? b=some ob)(n:H b=none)(hx:b∉ex):∃sl,h1.get? b=some {ob with slots:=sl}:=by
 by_cases hb:b∈fs
 .exact u.slot b ob q n hb hx
 .exact⟨ob.slots,u.keep b ob q n hb hx⟩
theorem Un.kept(k:∀b u,h.get? b=some u->h'.get? b=some u):Un fs ex H H h h':=
 ⟨λ b ob q _ _ _=>k b ob q,λ b ob q _ _ _=>⟨ob.slots,k b ob q⟩,λ _ _ _ n _=>n,λ b ob q _=>⟨ob,k b ob q⟩,λ _ _ q=>q,λ _ _ _ q=>q,λ _ ps q=>⟨#[],by rw[q];simp⟩⟩
theorem Un.refl:Un fs ex H H h h:=Un.kept λ _ _ q=>q
theorem Un.laid(k:∀b u,h.get? b=some u->h'.get? b=some u)(hp:h.objs.size<=a)(hn:H a=none):Un fs ex H (upd H a o) h h' where
 keep:=λ b u q _ _ _=>k b u q
 slot:=λ b u q _ _ _=>⟨u.slots,k b u q⟩
 free:=λ b u q n _=>by rw[aq (Ql (QA (Qh q) hp))];exact n
 there:=λ b u q _=>⟨u,k b u q⟩
 tups:=λ b xs q=>by rw[aq (au q hn)];exact q
 kX:=λ b u xs q=>by rw[aq (au q hn)];exact q
 lT:=λ b ps q=>⟨#[],by rw[aq (au q hn),q];simp⟩
theorem Un.write(mu:Lv (H x))(he:e=x\/H e=@(.own x))(k:∀b u,b≠e->h.get? b=some u->h'.get? b=some u)(IJ:∃u,h'.get? e=some u):Un fs ex H (upd H x o) h h':=by
 have hx:∀b,H b=none->b≠x:=λ b n z=>by subst z;rw[n] at mu;exact mu
 have hb:∀b,H b=none->b≠e:=λ b n z=>by
  subst z;rcases he with r | r
  .exact hx b n r
  .rw[n] at r;cases r
 have hm:∀b u,H b=some u->¬Lv (some u)->b≠x:=λ b u q nm z=>by subst z;rw[q] at mu;exact nm mu
 refine⟨λ b u q n _ _=>k b u (hb b n) q,λ b u q n _ _=>⟨u.slots,k b u (hb b n) q⟩,λ b u q n _=>by rw[aq (hx b n)];exact n,λ b u q _=>?_,
  λ b xs q=>by rw[aq (hm b _ q λ z=>z)];exact q,λ b u xs q=>by rw[aq (hm b _ q λ z=>z)];exact q,λ b ps q=>⟨#[],by rw[aq (hm b _ q λ z=>z),q];simp⟩⟩
 by_cases hbe:b=e
 .subst hbe;exact IJ
 .exact⟨u,k b u hbe q⟩
end
def Lw(h:Heap)(H:Hp):List Addr:=(List.range h.objs.size).filter λ a=>(H a).isSome
def pF(h:Heap)(H:Hp):Heap:=PySem.W.hideAll h (Lw h H)
theorem wO(h:Heap)(H:Hp):(pF h H).objs.size=h.objs.size:=PySem.W.hideAll_size _ _
theorem yC{H:Hp}(e:h.get? b=some o)(n:H b=none):(pF h H).get? b=some o:=
 PySem.W.hideAll_get _ e λ hm=>by
  have q:(H b).isSome=true:=(RB.mp hm).2;rw[n] at q;simp at q
theorem BG{H:Hp}(e:(pF h H).get? b=some o):h.get? b=some o/\H b=none:=by
 have e':h.get? b=some o:=PySem.W.of_hideAll (Lw h H) e;refine⟨e',?_⟩;cases q:H b with
 | none=>rfl
 | some x=>
  have hm:b∈Lw h H:=RB.mpr ⟨Qo.mpr (Qh e'),by simp[q]⟩;have z:(pF h H).get? b=none:=PySem.W.hideAll_none (Lw h H) hm;rw[z] at e;cases e
def pG(g h:Heap)(L:Addr):List (Addr×Obj):=(List.range h.objs.size).filterMap λ a=>if a=L\/(g.get? a).isSome=true then none else (h.get? a).map λ o=>(a,o)
theorem gF{a:Addr}(h1:a≠L)(h2:g.get? a=none)(h3:h.get? a=some o):(a,o)∈pG g h L:=
 List.mem_filterMap.mpr ⟨a,Qo.mpr (Qh h3),by simp[h1,h2,h3]⟩
theorem lU{p:Addr×Obj}(hp:p∈pG g h L):p.1≠L/\g.get? p.1=none/\h.get? p.1=some p.2:=by
 let⟨b,_,e⟩:=List.mem_filterMap.mp hp;split at e
 .cases e
 .ext hn;cases q:h.get? b with
  | none=>rw[q] at e;simp at e
  | some u=>
   rw[q] at e;erw[Option.map_some,Option.some.injEq] at e;subst e;refine⟨λ z=>hn (.inl z),?_,q⟩;show g.get? b=none;cases r:g.get? b with
   | none=>rfl
   | some v=>exact(hn (.inr (by simp[r]))).elim
theorem yD:News g L h (pG g h L):=λ p hp=>let ⟨a,b,c⟩:=lU hp;⟨c,a,b⟩
end L2
namespace L2
open PySem PySem.Spec PyProof.Rows List
variable{M:Model}{ch:List Addr}{i t':Nat}
structure Mod(K:PySem.W.Frag)(mg:Str->Option Value)(base:Heap):Prop where
 kin:K.In base
 glob:base.Ns mainGlobals mg
 blt:∃mb,base.Ns builtinsNs mb/\∀x:Str,x≠"__name__"->mb x=bootBuiltins x
 nolimit:base.NoLimit
set_option genInjectivity false in
structure Cx where
 prog:Program
 w:World
 K:PySem.W.Frag
 mg:Str->Option Value
 base:Heap
 A:Around
 N:List Str
 s₀:Shared
 H₀:Hp
 env:Env
 outer:List Env
 stack:List Env
 ex:List Addr
 fn:Str->Bool
 calm:Bool
 pn:List (Addr×Obj)
 xe:Value->Shared->Prop
def frs(l:List Env):List Addr:=l.filterMap (·.frame)
abbrev Cx.fs(X:Cx):List Addr:=frs X.outer
def Lx(sc:Scope)(x:Str):Prop:=sc.names.lookup x=some .local\/sc.names.lookup x=some .cell\/sc.names.lookup x=some .free
def Loc(sc:Scope)(x:Str):Prop:=sc.names.lookup x=some .local\/sc.names.lookup x=some .cell
def Look(env:Env)(h:Heap)(m:Str->Option Value)(x:Str)(u:Value):Prop:=
 (env.kindOf x=some .local/\m x=some u)\/((env.kindOf x=some .cell\/env.kindOf x=some .free)/\∃c,env.cells.lookup x=some c/\h.IsCell c (some u))
structure Cx.Ok(X:Cx):Prop where
 mod:Mod X.K X.mg X.base
 kind:X.env.scope.kind=.function
 glob:X.env.globals=mainGlobals
 blt:X.env.builtins=builtinsNs
 above:X.s₀.heap.objs.size<=X.env.locals
 inj:∀x y c,X.env.cells.lookup x=some c->X.env.cells.lookup y=some c->x=y
 has:∀x,(X.env.kindOf x=some .cell\/X.env.kindOf x=some .free)->∃c,X.env.cells.lookup x=some c
 cab:∀x c,X.fn x=true->X.env.cells.lookup x=some c->X.s₀.heap.objs.size<=c
 hd:X.calm=true->X.A.handled=none
 frames:X.A.frames=some X.stack
 stk:X.stack=X.outer\/(X.stack=X.env::X.outer/\X.env.frame=some X.env.locals)
 exf:∀b∈X.ex,b≠X.env.locals/\∀x c,X.env.cells.lookup x=some c->c≠b
 bs:∀b o,X.base.get? b=some o->X.s₀.heap.get? b=some o/\X.H₀ b=none
 bsz:X.base.objs.size<=X.s₀.heap.objs.size
 noex:∀b o,X.base.get? b=some o->b∉X.ex
 exfs:∀b∈X.ex,b∉X.fs
 kY:X.s₀.heap.FunFrames X.base X.outer
 frf:∀b∈X.fs,X.H₀ b=none
structure Inv(X:Cx)(aa:List (Addr×Obj))(Y:List (Option V))(H:Hp)(s:Shared):Prop where
 ok:X.Ok
 os:s.os=X.s₀.os
 bare:AllBare s.gens
 base:Un X.fs X.ex X.H₀ H X.s₀.heap s.heap
 loc:∃m,s.heap.Ns X.env.locals m/\∀(i:Nat) (x:Str) (v:V),X.N[i]?=some x->Y[i]?=some (some v)->Lx X.env.scope x->∃u,RelV v u/\Look X.env s.heap m x u
 cell:∀x c,X.env.cells.lookup x=some c->∃v,s.heap.IsCell c v
 free:H X.env.locals=none
 freeC:∀x c,X.env.cells.lookup x=some c->H c=none
 pin:∀p∈X.pn++aa,s.heap.get? p.1=some p.2/\H p.1=none/\p.1≠X.env.locals/\p.1∉X.fs/\∀v,p.2.data≠.cell v
 hok:iG X.prog X.w H s.heap
 len:Y.length=X.N.length
section
variable{X:Cx}{aa:List (Addr×Obj)}{Y:List (Option V)}{H H':Hp}{s:Shared}{h':Heap}
theorem Cx.Ok.Mx(ok:X.Ok){b:Addr}{o:Obj}(e:X.base.get? b=some o):b∉X.fs:=λ hb=>by
 have:=(ok.kY.mem hb).1;rw[e] at this;cases this
theorem Inv.bs(I:Inv X aa Y H s):∀b o,X.base.get? b=some o->s.heap.get? b=some o/\H b=none:=λ b o e=>
 ⟨I.base.keep b o (I.ok.bs b o e).1 (I.ok.bs b o e).2 (I.ok.Mx e) (I.ok.noex b o e),I.base.free b o (I.ok.bs b o e).1 (I.ok.bs b o e).2 (I.ok.noex b o e)⟩
theorem Inv.bk(I:Inv X aa Y H s):∀b o,X.base.get? b=some o->s.heap.get? b=some o:=λ b o e=>(I.bs b o e).1
theorem Inv.mod(I:Inv X aa Y H s):Mod X.K X.mg X.base:=I.ok.mod
theorem Inv.tN(I:Inv X aa Y H s):X.K.In s.heap:=I.ok.mod.kin.keeps I.bk
theorem Inv.fr(I:Inv X aa Y H s):∃m,Fr X.base X.env.locals s.heap m:=
 let ⟨m,hn,_⟩:=I.loc
 ⟨m,hn,I.bk,QC I.ok.bsz I.ok.above⟩
theorem Inv.lt(I:Inv X aa Y H s):X.env.locals < s.heap.objs.size:=let ⟨_,hn,_⟩:=I.loc;hn.lt
theorem Inv.sz(I:Inv X aa Y H s):X.s₀.heap.objs.size<=s.heap.objs.size:=QC I.ok.above (Nat.le_of_lt I.lt)
theorem Inv.Mz(I:Inv X aa Y H s){a:Addr}(h:s.heap.objs.size<=a):a∉X.fs:=λ hb=>by
 let⟨_,o,ho,_⟩:=I.ok.kY.mem hb;exact absurd (QA (Qh ho) (QC I.sz h)) (Nat.lt_irrefl _)
theorem Inv.Fg(I:Inv X aa Y H s):∀x c,X.env.cells.lookup x=some c->c≠X.env.locals:=λ x c e z=>by
 let⟨v,o,ho,hd⟩:=I.cell x c e;let⟨m,⟨o',es,ep,ho',hd',_⟩,_⟩:=I.loc;rw[z,ho'] at ho;cases ho;rw[hd'] at hd;cases hd
theorem Inv.kY(I:Inv X aa Y H s):s.heap.FunFrames X.base X.outer:=by
 have all:∀(l:List Env),(∀b∈frs l,b∈X.fs)->X.s₀.heap.FunFrames X.base l->s.heap.FunFrames X.base l:=by
  intro l
  induction l with
  | nil=>intro _ _;trivial
  | cons env r ih=>
   intro hs hl;let⟨hk,⟨L,o,hf,hn,ho,hd⟩,hr⟩:=hl;have hL:L∈X.fs:=hs L (by unfold frs;rw[filterMap_cons,hf];exact Qu);let⟨sl,e⟩:=I.base.slot L o ho (I.ok.frf L hL) hL λ z=>I.ok.exfs L z hL;exact⟨hk,⟨L,_,hf,hn,e,hd⟩,ih (λ b hb=>hs b (by unfold frs;rw[filterMap_cons,hf];exact Qj _ hb)) hr⟩
 exact all X.outer (λ _ hb=>hb) I.ok.kY
theorem Inv.stack(I:Inv X aa Y H s):s.heap.FunFrames X.base X.stack:=by
 rcases I.ok.stk with e | ⟨e,hf⟩
 .rw[e];exact I.kY
 .rw[e];let⟨m,hn,_⟩:=I.loc;refine .cons (by rw[I.ok.kind];decide) hf hn ?_ I.kY;exact Heap.get?_none_of_le (QC I.ok.bsz I.ok.above)
theorem Inv.pH(I:Inv X aa Y H s):∀b∈frs X.stack,b∈X.env.locals::X.fs:=λ b hb=>by
 rcases I.ok.stk with e | ⟨e,hf⟩
 .rw[e] at hb;exact Qj _ hb
 .rw[e] at hb;unfold frs at hb;rw[filterMap_cons,hf] at hb;exact hb
theorem Inv.u7(I:Inv X aa Y H s):∀b∈frs X.stack,H b=none:=λ b hb=>by
 rcases Qp.mp (I.pH b hb) with e | hb
 .rw[e];exact I.free
 .let⟨_,o,ho,_⟩:=I.ok.kY.mem hb;exact I.base.free b o ho (I.ok.frf b hb) λ z=>I.ok.exfs b z hb
theorem Inv.step{g':Array GenState}{d':Drawn}(I:Inv X aa Y H s)
  (hch:∀b∈ch,(b∈X.ex\/X.s₀.heap.objs.size<=b)/\b≠X.env.locals/\(∀x c,X.env.cells.lookup x=some c->c≠b)/\∀p∈X.pn++aa,p.1≠b)
  (keep:∀b o,b≠X.env.locals->b∉X.fs->b∉ch->s.heap.get? b=some o->H b=none->h'.get? b=some o)
  (slot:∀b o,b≠X.env.locals->b∈X.fs->b∉ch->s.heap.get? b=some o->H b=none->∃sl,h'.get? b=some {o with slots:=sl}) (free:∀b o,b∉ch->s.heap.get? b=some o->H b=none->H' b=none)
  (there:∀b o,b∉ch->s.heap.get? b=some o->∃o',h'.get? b=some o')
  (tups:∀b xs,H b=some (.tup xs)->H' b=@(.tup xs)) (kX:∀b o u,H b=some (.frz o u)->H' b=@(.frz o u)) (lT:∀b ps,H b=some (.tbl ps)->∃more,H' b=@(.tbl (ps++more)))
  (ns:∀m,s.heap.Ns X.env.locals m->h'.Ns X.env.locals m) (hok:iG X.prog X.w H' h') (hg:AllBare g') :
  Inv X aa Y H' {s with heap:=h',gens:=g',drawn:=d',toks:=t'}:=by
 have N3:∀b o,X.s₀.heap.get? b=some o->b≠X.env.locals:=λ b o e=>Ql (QA (Qh e) I.ok.above);have Ly:∀b o,X.s₀.heap.get? b=some o->b∉X.ex->b∉ch:=λ b o e hx hb=>by
  rcases (hch b hb).1 with z | z
  .exact hx z
  .exact absurd (QA (Qh e) z) (Nat.lt_irrefl _)
 have cellK:∀x c,X.env.cells.lookup x=some c->∀v,s.heap.IsCell c v->h'.IsCell c v:=λ x c e v ⟨o,ho,hd⟩=>by
  have I0:c∉ch:=λ z=>(hch c z).2.2.1 x c e rfl
  by_cases hc:c∈X.fs
  .let⟨sl,q⟩:=slot c o (I.Fg x c e) hc I0 ho (I.freeC x c e);exact⟨_,q,hd⟩
  .exact⟨o,keep c o (I.Fg x c e) hc I0 ho (I.freeC x c e),hd⟩
 refine⟨I.ok,I.os,hg,⟨λ b o e n hb hx=>?_,λ b o e n hb hx=>?_,λ b o e n hx=>?_,λ b o e hx=>?_,λ b xs e=>tups b xs (I.base.tups b xs e),λ b o xs e=>kX b o xs (I.base.kX b o xs e),λ b ps e=>?_⟩,?_,λ x c e=>?_,?_,λ x c e=>?_,λ p hp=>?_,hok,I.len⟩
 .exact keep b o (N3 b o e) hb (Ly b o e hx) (I.base.keep b o e n hb hx) (I.base.free b o e n hx)
 .let⟨sl,e1⟩:=I.base.slot b o e n hb hx;let⟨sl',e2⟩:=slot b _ (N3 b o e) hb (Ly b o e hx) e1 (I.base.free b o e n hx);exact⟨sl',e2⟩
 .let⟨o',e1⟩:=I.base.there b o e hx;exact free b o' (Ly b o e hx) e1 (I.base.free b o e n hx)
 .let⟨o',e1⟩:=I.base.there b o e hx;exact there b o' (Ly b o e hx) e1
 .let⟨m1,e1⟩:=I.base.lT b ps e;let⟨m2,e2⟩:=lT b _ e1;exact⟨m1++m2,by rw[e2,Array.append_assoc]⟩
 .let⟨m,hn,hl⟩:=I.loc;refine⟨m,ns m hn,λ i x v e1 e2 e3=>?_⟩;let⟨u,r,l⟩:=hl i x v e1 e2 e3;refine⟨u,r,?_⟩;rcases l with l | ⟨k,c,e,z⟩
  .exact .inl l
  .exact .inr ⟨k,c,e,cellK x c e _ z⟩
 .let⟨v,z⟩:=I.cell x c e;exact⟨v,cellK x c e v z⟩
 .let⟨m,⟨o,_,_,ho,_⟩,_⟩:=I.loc;exact free _ o (λ z=>(hch _ z).2.1 rfl) ho I.free
 .let⟨v,o,ho,hd⟩:=I.cell x c e;exact free c o (λ z=>(hch c z).2.2.1 x c e rfl) ho (I.freeC x c e)
 .let⟨e,n,ne,nf,d⟩:=I.pin p hp;have I0:p.1∉ch:=λ z=>(hch p.1 z).2.2.2 p hp rfl;exact⟨keep p.1 p.2 ne nf I0 e n,free p.1 p.2 I0 e n,ne,nf,d⟩
theorem Inv.un(I:Inv X aa Y H s)(u:Un X.fs [] H H' s.heap h')(hok:iG X.prog X.w H' h'):Inv X aa Y H' {s with heap:=h',toks:=t'}:=by
 let⟨m,⟨o,es,ep,ho,r⟩,_⟩:=id I.loc;let⟨sl,hL⟩:=u.any ho I.free 's';exact I.step (g':=s.gens) (d':=s.drawn) (ch:=[]) (λ _ z=>nomatch z) (λ b o _ hb _ e n=>u.keep b o e n hb 's') (λ b o _ hb _ e n=>u.slot b o e n hb 's') (λ b o _ e n=>u.free b o e n 's') (λ b o _ e=>u.there b o e 's') u.tups u.kX u.lT (λ m' hm=>by
  let⟨o',es',ep',ho',r'⟩:=hm;rw[ho] at ho';cases ho';exact⟨_,es',ep',hL,r'⟩) hok I.bare
theorem Inv.call{g':Array GenState}{d':Drawn}(I:Inv X aa Y H s)(u:Un (frs X.stack) ch H H' s.heap h')(hok:iG X.prog X.w H' h')(hg:AllBare g')
  (hch:∀b∈ch,(b∈X.ex\/X.s₀.heap.objs.size<=b)/\b≠X.env.locals/\(∀x c,X.env.cells.lookup x=some c->c≠b)/\∀p∈X.pn++aa,p.1≠b) :
  Inv X aa Y H' {s with heap:=h',gens:=g',drawn:=d',toks:=t'}:=by
 let⟨m,⟨o,es,ep,ho,r⟩,_⟩:=id I.loc;let⟨sl,hL⟩:=u.any ho I.free λ z=>(hch _ z).2.1 rfl;exact I.step (ch:=ch) hch (λ b o hL hb hc e n=>u.keep b o e n (λ z=>(Qp.mp (I.pH b z)).elim hL hb) hc) (λ b o _ _ hc e n=>u.any e n hc) (λ b o hc e n=>u.free b o e n hc) (λ b o hc e=>u.there b o e hc) u.tups u.kX u.lT (λ m' hm=>by
  let⟨o',es',ep',ho',r'⟩:=hm;rw[ho] at ho';cases ho';exact⟨_,es',ep',hL,r'⟩) hok hg
theorem Inv.turned{it:Addr}(I:Inv X aa Y H s)(k:∀b o,b≠it->s.heap.get? b=some o->h'.get? b=some o)(hn:H it=none)(hL:it≠X.env.locals)
  (h1:it∈X.ex\/X.s₀.heap.objs.size<=it) (h2:∀x c,X.env.cells.lookup x=some c->c≠it) (h3:∀p∈X.pn++aa,p.1≠it):Inv X aa Y H {s with heap:=h',toks:=t'}:=by
 have D6:∀b u,H b=some u->b≠it:=λ b u e z=>by rw[z,hn] at e;cases e
 refine I.step (g':=s.gens) (d':=s.drawn) (ch:=[it]) (λ b hb=>?_) (λ b o _ _ hc e _=>k b o (λ z=>hc (by simp[z])) e) (λ b o _ _ hc e _=>⟨o.slots,k b o (λ z=>hc (by simp[z])) e⟩) (λ _ _ _ _ n=>n)
  (λ b o hc e=>⟨o,k b o (λ z=>hc (by simp[z])) e⟩) (λ _ _ e=>e) (λ _ _ _ e=>e) (λ b ps e=>⟨#[],by rw[e];simp⟩) (λ m hm=>?_) (λ b u e=>?_) I.bare
 .have e:b=it:=by simpa using hb
  subst e;exact⟨h1,hL,h2,h3⟩
 .let⟨o,es,ep,ho,r⟩:=hm;exact⟨o,es,ep,k _ o (Ne.symm hL) ho,r⟩
 .refine(I.hok b u e).stay (λ c v hc q=>k c v ?_ q) (λ _ q=>q) λ _ _ q=>q;rcases hc with z | z
  .rw[z];exact D6 b u e
  .exact D6 c _ z
theorem Inv.tok(I:Inv X aa Y H s)(t:Nat):Inv X aa Y H {s with toks:=t}:=I.un (h':=s.heap) (t':=t) Un.refl I.hok
theorem Inv.kept(I:Inv X aa Y H s)(k:∀b u,s.heap.get? b=some u->h'.get? b=some u):Inv X aa Y H {s with heap:=h',toks:=t'}:=I.un (Un.kept k) (I.hok.kept k)
theorem Inv.laid{a:Addr}{o:HO}(I:Inv X aa Y H s)(k:∀b u,s.heap.get? b=some u->h'.get? b=some u)(hp:s.heap.objs.size<=a)(new:bU X.prog X.w (upd H a o) h' a o) :
  Inv X aa Y (upd H a o) {s with heap:=h',toks:=t'}:=I.un (Un.laid k hp (I.hok.fresh hp)) (I.hok.laid k hp new)
theorem Inv.write{x e:Addr}{o:HO}(I:Inv X aa Y H s)(mu:Lv (H x))(he:e=x\/H e=@(.own x))(k:∀b u,b≠e->s.heap.get? b=some u->h'.get? b=some u)(IJ:∃u,h'.get? e=some u)
  (new:bU X.prog X.w (upd H x o) h' x o):Inv X aa Y (upd H x o) {s with heap:=h',toks:=t'}:=I.un (Un.write mu he k IJ) (I.hok.write mu he k IJ new)
theorem Inv.u9{D7:List (Addr×Obj)}(I:Inv X aa Y H s)(h:∀p∈D7,s.heap.get? p.1=some p.2/\H p.1=none/\p.1≠X.env.locals/\p.1∉X.fs/\∀v,p.2.data≠.cell v):Inv X D7 Y H s:=
 ⟨I.ok,I.os,I.bare,I.base,I.loc,I.cell,I.free,I.freeC,λ p hp=>(QW.mp hp).elim (λ z=>I.pin p (mem_append_left _ z)) (h p),I.hok,I.len⟩
theorem qX{N:List Str}(hN:N.Nodup){j:Nat}{x:Str}(a:N[i]?=some x)(b:N[j]?=some x):i=j:=by
 let⟨h1,e1⟩:=Qd.mp a;let⟨h2,e2⟩:=Qd.mp b;exact(getElem_inj hN).mp (e1.trans e2.symm)
theorem ow{A:Around}{E:Value->Shared->Prop}{x:Str}{v:V}{u:Value}{Q:Unit->Shared->Prop}(I:Inv X aa Y H s)(hN:X.N.Nodup)(hi:X.N[i]?=some x)(hx:Loc X.env.scope x)(r:RelV v u)
  (h:∀s',Inv X aa (Y.set i (some v)) H s'->(∃a,Heap.SameBut a s.heap s'.heap/\(a=X.env.locals\/X.env.cells.lookup x=some a))->Q () s') (hf:X.fn x=true\/X.env.scope.names.lookup x=some .local:=by first | exact .inl rfl | exact .inr rfl | assumption):wpAny M A (storeName X.env x u) Q E s:=by
 let⟨m,hn,hl⟩:=id I.loc;have hcls:(X.env.scope.kind==.class||(X.env.scope.kind==.module&&X.env.locals != X.env.globals))=false:=by rw[I.ok.kind];rfl
 have hiY:i < Y.length:=by rw[I.len];exact(Qd.mp hi).1
 have Fg:=I.Fg;have tracked:∀{a:Addr} {h':Heap},(∃o,s.heap.get? a=some o/\H a=none)->Heap.SameBut a s.heap h'->iG X.prog X.w H h':=λ {a h'} ha hs b ob e=>by
  let⟨_,_,hfree⟩:=ha;refine(I.hok b ob e).stay (λ c w' hc q=>(hs.2 c ?_).trans q) (λ _ q=>q) λ _ _ q=>q;rintro rfl;rcases hc with rfl | hc
  .rw[hfree] at e;cases e
  .rw[hfree] at hc;cases hc
 rcases hx with hk | hk
 .refine wpAny_storeName_local hk hn (λ h' hn' hs=>?_) hcls;let⟨oL,_,_,hoL,_⟩:=id hn;refine h _ ⟨I.ok,I.os,I.bare,⟨λ b o e n hb hx=>?_,λ b o e n hb hx=>?_,I.base.free,λ b o e hx=>?_,I.base.tups,I.base.kX,I.base.lT⟩,⟨_,hn',λ j y v' e1 e2 e3=>?_⟩,λ y c e=>?_,I.free,I.freeC,λ p hp=>?_,tracked ⟨oL,hoL,I.free⟩ hs,by simpa using I.len⟩ ⟨_,hs,.inl rfl⟩
  .exact(hs.2 b (Ql (QA (Qh e) I.ok.above))).trans (I.base.keep b o e n hb hx)
  .let⟨sl,e1⟩:=I.base.slot b o e n hb hx;exact⟨sl,(hs.2 b (Ql (QA (Qh e) I.ok.above))).trans e1⟩
  .let⟨o',e1⟩:=I.base.there b o e hx;exact⟨o',(hs.2 b (Ql (QA (Qh e) I.ok.above))).trans e1⟩
  .by_cases hj:j=i
   .subst hj;rw[hi] at e1;cases e1;rw[QN hiY] at e2;cases e2;exact⟨u,r,.inl ⟨hk,by simp⟩⟩
   .rw[QT (Ne.symm hj)] at e2;let⟨u',r',q⟩:=hl j y v' e1 e2 e3;refine⟨u',r',?_⟩;rcases q with⟨k,e⟩ | ⟨k,c,e,z⟩
    .refine .inl ⟨k,?_⟩;have:y≠x:=λ e=>hj (qX hN e1 (e▸hi));simp[this,e]
    .exact .inr ⟨k,c,e,z.sameBut hs (Fg y c e)⟩
  .let⟨w',z⟩:=I.cell y c e;exact⟨w',z.sameBut hs (Fg y c e)⟩
  .let⟨e,n,ne,nf,d⟩:=I.pin p hp;exact⟨(hs.2 p.1 ne).trans e,n,ne,nf,d⟩
 .have hfn:X.fn x=true:=by
   rcases hf with z | z
   .exact z
   .rw[z] at hk;cases hk
  let⟨c,hc⟩:=I.ok.has x (.inl hk);let⟨w',z⟩:=I.cell x c hc;refine wpAny_storeName_cell I.ok.kind hk hc z (λ h' hc' hs=>?_);let⟨oc,hoc,hocd⟩:=id z;refine h {s with heap:=h'} ⟨I.ok,I.os,I.bare,⟨λ b o e n hb hx=>?_,λ b o e n hb hx=>?_,I.base.free,λ b o e hx=>?_,I.base.tups,I.base.kX,I.base.lT⟩,⟨m,hn.sameBut hs (Ne.symm (Fg x c hc)),λ j y v' e1 e2 e3=>?_⟩,λ y c' e=>?_,I.free,I.freeC,λ p hp=>?_,tracked ⟨oc,hoc,I.freeC x c hc⟩ hs,by simpa using I.len⟩ ⟨c,hs,.inr hc⟩
  .exact(hs.2 b (Ql (QA (Qh e) (I.ok.cab x c hfn hc)))).trans (I.base.keep b o e n hb hx)
  .let⟨sl,e1⟩:=I.base.slot b o e n hb hx;exact⟨sl,(hs.2 b (Ql (QA (Qh e) (I.ok.cab x c hfn hc)))).trans e1⟩
  .let⟨o',e1⟩:=I.base.there b o e hx;exact⟨o',(hs.2 b (Ql (QA (Qh e) (I.ok.cab x c hfn hc)))).trans e1⟩
  .by_cases hj:j=i
   .subst hj;rw[hi] at e1;cases e1;rw[QN hiY] at e2;cases e2;exact⟨u,r,.inr ⟨.inl hk,c,hc,hc'⟩⟩
   .rw[QT (Ne.symm hj)] at e2;let⟨u',r',q⟩:=hl j y v' e1 e2 e3;refine⟨u',r',?_⟩;rcases q with q | ⟨k,c',e,z'⟩
    .exact .inl q
    .refine .inr ⟨k,c',e,z'.sameBut hs ?_⟩;rintro rfl;exact hj (qX hN e1 (I.ok.inj _ _ _ e hc▸hi))
  .by_cases hcc:c'=c
   .subst hcc;exact⟨_,hc'⟩
   .let⟨w2,z2⟩:=I.cell y c' e;exact⟨w2,z2.sameBut hs hcc⟩
  .let⟨e,n,ne,nf,d⟩:=I.pin p hp;refine⟨(hs.2 p.1 ?_).trans e,n,ne,nf,d⟩;intro q;rw[q,hoc] at e;have q':oc=p.2:=Ru e;exact d w' (by rw[<-q'];exact hocd)
theorem qY{A:Around}{E:Value->Shared->Prop}{x:Str}{v:V}{u:Value}{Q:Unit->Shared->Prop}(I:Inv X aa Y H s)(hN:X.N.Nodup)(hi:X.N[i]?=some x)(hx:Loc X.env.scope x)(r:RelV v u)
  (h:∀s',Inv X aa (Y.set i (some v)) H s'->Q () s') (hf:X.fn x=true\/X.env.scope.names.lookup x=some .local:=by first | exact .inl rfl | exact .inr rfl | assumption):wpAny M A (storeName X.env x u) Q E s:=
 ow I hN hi hx r (λ s' I' _=>h s' I') hf
theorem Inv.I8{s':Shared}(I:Inv X aa Y H s)(ho:s'.os=s.os)(u:Un (frs X.stack) ch H H' s.heap s'.heap)(hok:iG X.prog X.w H' s'.heap)(hg:AllBare s'.gens)
  (hch:∀b∈ch,(b∈X.ex\/X.s₀.heap.objs.size<=b)/\b≠X.env.locals/\(∀x c,X.env.cells.lookup x=some c->c≠b)/\∀p∈X.pn++aa,p.1≠b):Inv X aa Y H' s':=by
 let⟨h',g',d',t',o'⟩:=s';have e:o'=s.os:=ho;subst e;exact I.call (g':=g') (t':=t') (d':=d') u hok hg hch
end
abbrev XK:=Value->Option Addr->Hp->Prop
abbrev St:=List (Option V)
abbrev VK:=V->Hp->Prop
abbrev TE:=St->Hp->VK->Prop
abbrev TT:=St->Hp->(Bool->Hp->Prop)->Prop
abbrev TA:=St->Hp->(List V->Hp->Prop)->Prop
set_option genInjectivity false in
structure Ends where
 nx:St->Hp->Prop
 rt:VK
 bk:St->Hp->Prop:=λ _ _=>False
 ct:St->Hp->Prop:=λ _ _=>False
abbrev TS:=Ends->St->Hp->Prop
def EP(X:Cx)(aa:List (Addr×Obj))(Y:St)(Q:VK)(u:Value)(s':Shared):Prop:=∃v H',Inv X aa Y H' s'/\RelV v u/\Q v H'
def TP(X:Cx)(aa:List (Addr×Obj))(Y:St)(Q:Bool->Hp->Prop)(b:Bool)(s':Shared):Prop:=∃H',Inv X aa Y H' s'/\Q b H'
def AP(X:Cx)(aa:List (Addr×Obj))(Y:St)(Q:List V->Hp->Prop)(us:List Value)(s':Shared):Prop:=∃vs H',Inv X aa Y H' s'/\Vals vs us/\Q vs H'
def SP(X:Cx)(aa:List (Addr×Obj))(D:Ends)(f:Flow)(s':Shared):Prop:=
 match f with
 | .next=>∃σ' H',Inv X aa σ' H' s'/\D.nx σ' H'
 | .brk=>∃σ' H',Inv X aa σ' H' s'/\D.bk σ' H'
 | .cont=>∃σ' H',Inv X aa σ' H' s'/\D.ct σ' H'
 | .ret u=>∃v σ' H',Inv X aa σ' H' s'/\RelV v u/\D.rt v H'
def PE(X:Cx)(e:Expr)(t:TE):Prop:=
 ∀(aa:List (Addr×Obj)) (s:Shared) (Y:St) (H:Hp) (Q:VK),Inv X aa Y H s->t Y H Q->wpAny (model X.prog X.w) X.A (eval e X.env) (EP X aa Y Q) X.xe s
def PT(X:Cx)(e:Expr)(t:TT):Prop:=
 ∀(aa:List (Addr×Obj)) (s:Shared) (Y:St) (H:Hp) (Q:Bool->Hp->Prop),Inv X aa Y H s->t Y H Q->wpAny (model X.prog X.w) X.A (isTrue e X.env (eval e X.env)) (TP X aa Y Q) X.xe s
def PW(X:Cx)(e:Expr)(t:TT):Prop:=
 ∀(whole:Sem Value) (aa:List (Addr×Obj)) (s:Shared) (Y:St) (H:Hp) (Q:Bool->Hp->Prop),Inv X aa Y H s->t Y H Q->wpAny (model X.prog X.w) X.A (isTrue e X.env whole) (TP X aa Y Q) X.xe s
theorem PW.pt{X:Cx}{e:Expr}{t:TT}(h:PW X e t):PT X e t:=h _
def PA(X:Cx)(es:List Expr)(t:TA):Prop:=
 ∀(pos:Pos) (aa:List (Addr×Obj)) (s:Shared) (Y:St) (H:Hp) (Q:List V->Hp->Prop),Inv X aa Y H s->t Y H Q->wpAny (model X.prog X.w) X.A (spliced (backTo pos (starEach es X.env))) (AP X aa Y Q) X.xe s
def PS(X:Cx)(st:Stmt)(t:TS):Prop:=
 ∀(aa:List (Addr×Obj)) (s:Shared) (Y:St) (H:Hp) (D:Ends),Inv X aa Y H s->t D Y H->wpAny (model X.prog X.w) X.A (exec st X.env) (SP X aa D) X.xe s
def lV(X:Cx)(st:List Stmt)(t:TS):Prop:=
 ∀(aa:List (Addr×Obj)) (s:Shared) (Y:St) (H:Hp) (D:Ends),Inv X aa Y H s->t D Y H->wpAny (model X.prog X.w) X.A (execs st X.env) (SP X aa D) X.xe s
theorem bY{α:Type}{t:Sem α}{Q Q':α->Shared->Prop}{A:Around}{E:Value->Shared->Prop}{s:Shared}(h:wpAny M A t Q E s)(hQ:∀a s,Q a s->Q' a s):wpAny M A t Q' E s:=QF h hQ λ _ _ x=>x
end L2
namespace L2
open PySem PySem.Spec PyProof.Rows List
variable{H:Hp}{aa:List (Addr×Obj)}{pos:Pos}{s:Shared}{u:Value}{Y:St}
section
variable{X:Cx}
theorem bin{a b:Expr}{ta tb:TE}(ha:PE X a ta)(hb:PE X b tb){R:V->V->Hp->Prop}(I:Inv X aa Y H s)(h:ta Y H λ x H1=>tb Y H1 λ y H2=>R x y H2)
  {α:Type} {Q:α->Shared->Prop} {f:Value->Value->Sem α}
  (hf:∀v u s2 x y H2,Inv X aa Y H2 s2->RelV x v->RelV y u->R x y H2->wpAny (model X.prog X.w) X.A (f v u) Q X.xe s2) :
  wpAny (model X.prog X.w) X.A (eval a X.env) (λ v s₁=>wpAny (model X.prog X.w) X.A (eval b X.env) (λ u s₂=>wpAny (model X.prog X.w) X.A (f v u) Q X.xe s₂) X.xe s₁) X.xe s:=by
 refine bY (ha aa s Y H _ I h) λ v s1 ⟨x,H1,I1,r1,q1⟩=>?_;refine bY (hb aa s1 Y H1 _ I1 q1) λ u s2 ⟨y,H2,I2,r2,q2⟩=>?_;exact hf v u s2 x y H2 I2 r1 r2 q2
def MA(i:Nat):TE:=fun Y H Q=>∃v,Y[i]?=some (some v)/\Q v H
def tC(v:V):TE:=λ _ H Q=>Q v H
theorem Fi{i:Nat}{x:Str}(hN:X.N[i]?=some x)(hv:Lx X.env.scope x)(hd:(x==("__debug__":Str))=false:=by decide)(hcd:(x==("__classdict__":Str))=false:=by decide):PE X (.Name x pos) (MA i):=by
 intro aa s Y H Q I h;let⟨v,e,h⟩:=h;let⟨m,hn,hl⟩:=I.loc;let⟨u,r,l⟩:=hl i x v hN e hv;have fin:EP X aa Y Q u s:=⟨v,H,I,r,h⟩;rcases l with⟨hk,hm⟩ | ⟨hk,c,hc,hcell⟩
 .exact wpAny_Name (wpAny_loadName_local I.ok.kind hk hn hm fin) hd
 .rcases hk with hk | hk
  .exact wpAny_Name (wpAny_loadName_cell I.ok.kind hk hc hcell fin) hd
  .exact wpAny_Name (wpAny_loadName_free I.ok.kind hk hc hcell fin hcd) hd
theorem Fj{i j pos}:PE X (.Constant (.int i) j pos) (tC (.int i)):=λ _ _ _ H _ I h=>wpAny_Constant_int ⟨.int i,H,I.tok _,⟨_,rfl⟩,h⟩
theorem I9{b j pos}:PE X (.Constant (.bool b) j pos) (tC (.bl b)):=λ _ _ _ H _ I h=>Constant_bool ⟨.bl b,H,I,rfl,h⟩
theorem yE{j pos}:PE X (.Constant .none j pos) (tC .non):=λ _ _ _ H _ I h=>Constant_none ⟨.non,H,I,rfl,h⟩
theorem Fl{x j pos}:PE X (.Constant (.str x) j pos) (tC (.str x)):=λ _ _ _ H _ I h=>Calls.Constant_str ⟨.str x,H,I.tok _,⟨_,rfl⟩,h⟩
def Gl(X:Cx)(x:Str):Prop:=X.env.kindOf x=some .globalImplicit
theorem lE{E:Value->Shared->Prop}{x:Str}{Q:Value->Shared->Prop}(I:Inv X aa Y H s)(hg:Gl X x)(hm:X.mg x=some u)(h:Q u s)
  (hd:(x==("__debug__":Str))=false:=by decide):wpAny (model X.prog X.w) X.A (eval (.Name x pos) X.env) Q E s:=
 Calls.Name_function_global I.ok.kind hg (Calls.loadGlobal_global (by rw[I.ok.glob];exact I.mod.glob.keeps I.bk) hm h) hd
theorem g9{E:Value->Shared->Prop}{x:Str}{Q:Value->Shared->Prop}(I:Inv X aa Y H s)(hg:Gl X x)(hm:X.mg x=none)(hv:bootBuiltins x=some u)(h:Q u s)
  (hn:x≠"__name__":=by decide) (hd:(x==("__debug__":Str))=false:=by decide):wpAny (model X.prog X.w) X.A (eval (.Name x pos) X.env) Q E s:=by
 let⟨mb,h1,h2⟩:=I.mod.blt;exact Calls.Name_function_global I.ok.kind hg (Calls.loadGlobal_builtin (by rw[I.ok.glob];exact I.mod.glob.keeps I.bk) hm (by rw[I.ok.blt];exact h1.keeps I.bk) ((h2 x hn).trans hv) h) hd
theorem BH{x:Str}{v:V}(hg:Gl X x)(hm:X.mg x=some u)(r:RelV v u)(hd:(x==("__debug__":Str))=false:=by decide):PE X (.Name x pos) (tC v):=
 λ _ _ _ H _ I h=>lE I hg hm ⟨v,H,I,r,h⟩ hd
variable{a b:Expr}{ta tb:TE}{pos:Pos}
variable{tA Lz:TT}{rest:List Expr}
def MB(t u:TT):TT:=fun Y H Q=>t Y H λ c H1=>if c=true then u Y H1 Q else Q false H1
def OJ(t u:TT):TT:=fun Y H Q=>t Y H λ c H1=>if c=true then Q true H1 else u Y H1 Q
def MC(t:TT):TT:=fun Y H Q=>t Y H λ c H1=>Q (!c) H1
theorem BI(ha:PT X a tA):PW X (.BoolOp .And [a] pos) tA:=by
 intro wh aa s Y H Q I h;refine isTrue_and (bY (ha aa s Y H Q I h) λ c s1 e=>?_);cases c with
 | true=>exact isTrue_and_nil e
 | false=>exact e
theorem Fo(ha:PT X a tA):PW X (.BoolOp .Or [a] pos) tA:=by
 intro wh aa s Y H Q I h;refine isTrue_or (bY (ha aa s Y H Q I h) λ c s1 e=>?_);cases c with
 | false=>exact isTrue_or_nil e
 | true=>exact e
theorem Fp(ha:PT X a tA)(hb:PW X (.BoolOp .And (b::rest) pos) Lz):PW X (.BoolOp .And (a::b::rest) pos) (MB tA Lz):=by
 intro wh aa s Y H Q I h;refine isTrue_and (bY (ha aa s Y H _ I h) λ c s1 ⟨H1,I1,q1⟩=>?_);cases c with
 | true=>exact hb wh aa s1 Y H1 Q I1 q1
 | false=>exact⟨H1,I1,q1⟩
theorem Ja(ha:PT X a tA)(hb:PW X (.BoolOp .Or (b::rest) pos) Lz):PW X (.BoolOp .Or (a::b::rest) pos) (OJ tA Lz):=by
 intro wh aa s Y H Q I h;refine isTrue_or (bY (ha aa s Y H _ I h) λ c s1 ⟨H1,I1,q1⟩=>?_);cases c with
 | true=>exact⟨H1,I1,q1⟩
 | false=>exact hb wh aa s1 Y H1 Q I1 q1
theorem Fq(ha:PT X a tA):PT X (.UnaryOp .Not a pos) (MC tA):=by
 intro aa s Y H Q I h;exact isTrue_not (ha aa s Y H (λ c H1=>Q (!c) H1) I h)
def Jb(ta tb:TE):TE:=fun Y H Q=>ta Y H λ x H1=>∃c,x=.bl c/\if c=true then tb Y H1 Q else Q (.bl false) H1
def MD(ta tb:TE):TE:=fun Y H Q=>ta Y H λ x H1=>∃c,x=.bl c/\if c=true then Q (.bl true) H1 else tb Y H1 Q
def Jc(ta:TE):TE:=fun Y H Q=>ta Y H λ x H1=>∃c,x=.bl c/\Q (.bl (!c)) H1
theorem yF{op}{t:TE}(h:PE X a t):PE X (.BoolOp op [a] pos) t:=λ aa s Y H Q I hw=>BoolOp_one (h aa s Y H Q I hw)
theorem Ft(ha:PE X a ta)(hb:PE X (.BoolOp .And (b::rest) pos) tb):PE X (.BoolOp .And (a::b::rest) pos) (Jb ta tb):=by
 intro aa s Y H Q I h;refine BoolOp_and (bY (ha aa s Y H _ I h) λ v s1 ⟨x,H1,I1,r1,q1⟩=>?_);let⟨c,rfl,q1⟩:=q1;cases r1;refine Ra ?_;cases c with
 | true=>exact hb aa s1 Y H1 Q I1 q1
 | false=>exact⟨.bl false,H1,I1,rfl,q1⟩
theorem Jd(ha:PE X a ta)(hb:PE X (.BoolOp .Or (b::rest) pos) tb):PE X (.BoolOp .Or (a::b::rest) pos) (MD ta tb):=by
 intro aa s Y H Q I h;refine BoolOp_or (bY (ha aa s Y H _ I h) λ v s1 ⟨x,H1,I1,r1,q1⟩=>?_);let⟨c,rfl,q1⟩:=q1;cases r1;refine Ra ?_;cases c with
 | false=>exact hb aa s1 Y H1 Q I1 q1
 | true=>exact⟨.bl true,H1,I1,rfl,q1⟩
theorem Fv(ha:PE X a ta):PE X (.UnaryOp .Not a pos) (Jc ta):=by
 intro aa s Y H Q I h;refine UnaryOp_ (bY (ha aa s Y H _ I h) λ v s1 ⟨x,H1,I1,r1,q1⟩=>?_);let⟨c,rfl,q1⟩:=q1;cases r1;exact not_of (Ra ⟨.bl (!c),H1,I1,rfl,q1⟩)
def OL(t:TT)(ta tb:TE):TE:=fun Y H Q=>t Y H λ c H1=>if c=true then ta Y H1 Q else tb Y H1 Q
theorem yG{c:Expr}(hc:PT X c tA)(ha:PE X a ta)(hb:PE X b tb):PE X (.IfExp c a b pos) (OL tA ta tb):=by
 intro aa s Y H Q I h;refine wpAny_IfExp (bY (hc aa s Y H _ I h) λ d s1 ⟨H1,I1,q1⟩=>?_);cases d with
 | true=>exact ha aa s1 Y H1 Q I1 q1
 | false=>exact hb aa s1 Y H1 Q I1 q1
end
end L2
namespace L2
open PySem PySem.Spec PyProof.Rows List
variable{K:PySem.W.Frag}{P:Program}{X:Cx}{e tg:Expr}{s:Shared}{u:Value}{w:World}
def gE(K:PySem.W.Frag)(H:Hp)(a:Addr)(xs:List V):Prop:=
 Rd H a (.lst xs)\/
  ∃(o:Obj) (its:Array Value) (n:Nat),K.lookup a=some o/\o.cls=.type "list"/\o.dict=none/\o.data=.seq its n/\its.size<=sizeLine/\Vals xs its.toList
def dI(K:PySem.W.Frag)(H:Hp)(a:Addr)(xs:List V):Prop:=
 Rd H a (.tup xs)\/
  ∃(o:Obj) (its:Array Value) (n:Nat),K.lookup a=some o/\o.cls=.type "tuple"/\o.data=.seq its n/\its.size<=sizeLine/\Vals xs its.toList
def ME:Value->Option V
 | .none=>some .non
 | .bool b=>some (.bl b)
 | .int i _=>some (.int i)
 | .str x _=>some (.str x)
 | .bytes b _=>some (.byt b)
 | .float b _=>some (.flt b)
 | .ref a=>some (.ref a)
 | .type n=>some (.ty n)
 | _=>none
theorem RelV.abs{x:V}(r:RelV x u):ME u=some x:=by
 cases x with
 | non=>cases r;rfl
 | bl _=>cases r;rfl
 | int _=>let⟨t,rfl⟩:=r;rfl
 | str _=>let⟨t,rfl⟩:=r;rfl
 | byt _=>let⟨t,rfl⟩:=r;rfl
 | flt _=>let⟨t,rfl⟩:=r;rfl
 | ref _=>cases r;rfl
 | ty _=>cases r;rfl
theorem RelV.inj{x y:V}(r:RelV x u)(q:RelV y u):x=y:=Ru (r.abs.symm.trans q.abs)
theorem Vals.inj{xs ys:List V}{us:List Value}(h:Vals xs us)(g:Vals ys us):xs=ys:=by
 induction h generalizing ys with
 | nil=>cases g;rfl
 | cons r t ih=>cases g with | cons r' t'=>rw[r.inj r',ih t']
section
variable{X:Cx}{aa:List (Addr×Obj)}{Y:St}{H:Hp}{s:Shared}{a:Addr}{xs ys:List V}
theorem dI.of(h:H a=@(.tup xs)):dI K H a xs:=.inl (.inl h)
theorem Inv.list(I:Inv X aa Y H s)(h:gE X.K H a xs):∃its:List Value,Vals xs its/\PlainL s.heap a its.toArray/\xs.length<=sizeLine:=by
 rcases h with h | ⟨o,its,n,hk,hc,hd,hs,hz,r⟩
 .let⟨z,its,n,r,e⟩:=h.ok I.hok;exact⟨its,r,⟨_,n,e,rfl,rfl,rfl⟩,z⟩
 .refine⟨its.toList,r,⟨o,n,I.tN a o hk,hc,hd,by simpa using hs⟩,?_⟩;have e:=r.length;erw[Array.length_toList] at e;omega
theorem Inv.tuple(I:Inv X aa Y H s)(h:dI X.K H a xs):∃its:List Value,Vals xs its/\IsTup s.heap a its.toArray/\xs.length<=sizeLine:=by
 rcases h with h | ⟨o,its,n,hk,hc,hs,hz,r⟩
 .let⟨z,its,r,p⟩:=h.ok I.hok;exact⟨its,r,p,z⟩
 .refine⟨its.toList,r,⟨o,I.tN a o hk,hc,n,by simpa using hs⟩,?_⟩;have e:=r.length;erw[Array.length_toList] at e;omega
theorem Inv.lW(I:Inv X aa Y H s)(h:gE X.K H a xs)(h':gE X.K H a ys):xs=ys:=by
 let⟨its,r,⟨o,n,e,_,_,d⟩,_⟩:=I.list h;let⟨its',r',⟨o',n',e',_,_,d'⟩,_⟩:=I.list h';rw[e] at e';cases e';rw[d] at d';injection d' with d1 _
 have:its=its':=by simpa using RM Array.toList d1
 subst this;exact r.inj r'
theorem Inv.jZ(I:Inv X aa Y H s)(h:dI X.K H a xs)(h':dI X.K H a ys):xs=ys:=by
 let⟨its,r,⟨o,e,_,n,d⟩,_⟩:=I.tuple h;let⟨its',r',⟨o',e',_,n',d'⟩,_⟩:=I.tuple h';rw[e] at e';cases e';rw[d] at d';injection d' with d1 _
 have:its=its':=by simpa using RM Array.toList d1
 subst this;exact r.inj r'
end
abbrev Cx.nM(X:Cx)(E:Value->Shared->Prop):Cx:={X with xe:=E}
abbrev Cx.Je(X:Cx):Cx:=X.nM λ _ _=>False
theorem Cx.Ok.nM(ok:X.Ok)(E:Value->Shared->Prop):(X.nM E).Ok:=
 ⟨ok.mod,ok.kind,ok.glob,ok.blt,ok.above,ok.inj,ok.has,ok.cab,ok.hd,ok.frames,ok.stk,ok.exf,ok.bs,ok.bsz,ok.noex,ok.exfs,ok.kY,ok.frf⟩
theorem Cx.Ok.iI{E:Value->Shared->Prop}(ok:(X.nM E).Ok):X.Ok:=
 ⟨ok.mod,ok.kind,ok.glob,ok.blt,ok.above,ok.inj,ok.has,ok.cab,ok.hd,ok.frames,ok.stk,ok.exf,ok.bs,ok.bsz,ok.noex,ok.exfs,ok.kY,ok.frf⟩
section
variable{X:Cx}{aa:List (Addr×Obj)}{Y:St}{H:Hp}{s:Shared}{E:Value->Shared->Prop}
theorem Inv.nM(I:Inv X aa Y H s)(E:Value->Shared->Prop):Inv (X.nM E) aa Y H s:=⟨I.ok.nM E,I.os,I.bare,I.base,I.loc,I.cell,I.free,I.freeC,I.pin,I.hok,I.len⟩
theorem Inv.iI(I:Inv (X.nM E) aa Y H s):Inv X aa Y H s:=⟨I.ok.iI,I.os,I.bare,I.base,I.loc,I.cell,I.free,I.freeC,I.pin,I.hok,I.len⟩
theorem SP.iI{D:Ends}{f:Flow}{s':Shared}(h:SP (X.nM E) aa D f s'):SP X aa D f s':=by
 cases f with
 | next=>let⟨σ',H',I,q⟩:=h;exact⟨σ',H',I.iI,q⟩
 | brk=>let⟨σ',H',I,q⟩:=h;exact⟨σ',H',I.iI,q⟩
 | cont=>let⟨σ',H',I,q⟩:=h;exact⟨σ',H',I.iI,q⟩
 | ret u=>let⟨v,σ',H',I,r,q⟩:=h;exact⟨v,σ',H',I.iI,r,q⟩
theorem lV.Je{st:List Stmt}{t:TS}(h:lV X.Je st t):lV X st t:=λ aa s Y H D I hw=>
 QF (h aa s Y H D (I.nM _) hw) (λ _ _ q=>q.iI) λ _ _ z=>False.elim z
end
section
variable{X:Cx}{st:Stmt}{rest:List Stmt}{t u:TS}{e:Expr}{te:TE}{pos:Pos}
def D8:TS:=λ D Y H=>D.nx Y H
def MF(t u:TS):TS:=λ D Y H=>t {D with nx:=u D} Y H
theorem BJ:lV X [] D8:=λ _ _ Y H _ I h=>wpAny_execs_nil ⟨Y,H,I,h⟩
theorem yH(h1:PS X st t)(h2:lV X rest u):lV X (st::rest) (MF t u):=by
 intro aa s Y H D I h;refine wpAny_execs_cons (bY (h1 aa s Y H {D with nx:=u D} I h) λ f s1 q=>?_);cases f with
 | next=>
  let⟨σ',H',I',q⟩:=q;exact h2 aa s1 σ' H' D I' q
 | ret v=>exact q
 | brk=>exact q
 | cont=>exact q
def Fw:TS:=λ D Y H=>D.bk Y H
def Jf:TS:=λ D Y H=>D.ct Y H
theorem BK:PS X (.Pass pos) D8:=λ _ _ Y H _ I h=>wpAny_Pass ⟨Y,H,I,h⟩
theorem yI:PS X (.Break pos) Fw:=λ _ _ Y H _ I h=>wpAny_Break ⟨Y,H,I,h⟩
theorem qZ:PS X (.Continue pos) Jf:=λ _ _ Y H _ I h=>wpAny_Continue ⟨Y,H,I,h⟩
theorem Inv.quiet{aa:List (Addr×Obj)}{Y:St}{H:Hp}(I:Inv X aa Y H s):interactive X.env=false:=by simp[interactive,I.ok.kind]
def Jg(te:TE):TS:=λ D Y H=>te Y H λ _ H1=>D.nx Y H1
theorem BL(he:PE X e te)(hs:swapsWith e none pos.line X.env=pure false:=by rfl):PS X (.Expr e pos) (Jg te):=by
 intro aa s Y H D I h;exact wpAny_Expr_any (bY (he aa s Y H _ I h) λ v s1 ⟨x,H1,I1,r1,q1⟩=>⟨Y,H1,I1,q1⟩) I.quiet hs
def MG(te:TE):TS:=λ D Y H=>te Y H D.rt
theorem Fx(he:PE X e te):PS X (.Return (some e) pos) (MG te):=by
 intro aa s Y H D I h;exact wpAny_Return_some (bY (he aa s Y H _ I h) λ v s1 ⟨x,H1,I1,r1,q1⟩=>⟨x,Y,H1,I1,r1,q1⟩)
def Jh:TS:=λ D _ H=>D.rt .non H
theorem BN:PS X (.Return none pos) Jh:=λ _ _ Y H _ I h=>wpAny_Return_none ⟨.non,Y,H,I,rfl,h⟩
def MH(c:TT)(t u:TS):TS:=λ D Y H=>c Y H λ b H1=>if b=true then t D Y H1 else u D Y H1
theorem Ji{c:Expr}{a b:List Stmt}{tc:TT}(hc:PT X c tc)(ha:lV X a t)(hb:lV X b u):PS X (.If c a b pos) (MH tc t u):=by
 intro aa s Y H D I h;refine wpAny_If (bY (hc aa s Y H _ I h) λ d s1 ⟨H1,I1,q1⟩=>?_);cases d with
 | true=>exact ha aa s1 Y H1 D I1 q1
 | false=>exact hb aa s1 Y H1 D I1 q1
def Fy:TS:=λ _ _ _=>False
theorem yJ:PS X st Fy:=λ _ _ _ _ _ _ h=>h.elim
end
abbrev TG:=V->St->Hp->(St->Hp->Prop)->Prop
abbrev yK:=List V->St->Hp->(St->Hp->Prop)->Prop
def PG(X:Cx)(target:Expr)(t:TG):Prop:=
 ∀(aa:List (Addr×Obj)) (s:Shared) (Y:St) (H:Hp) (v:V) (u:Value) (Q:St->Hp->Prop),Inv X aa Y H s->RelV v u->t v Y H Q->
  wpAny (model X.prog X.w) X.A (assign target X.env u) (λ _ s'=>∃σ' H',Inv X aa σ' H' s'/\Q σ' H') X.xe s
def tL(X:Cx)(ts:List Expr)(t:yK):Prop:=
 ∀(aa:List (Addr×Obj)) (s:Shared) (Y:St) (H:Hp) (vs:List V) (us:List Value) (Q:St->Hp->Prop),Inv X aa Y H s->Vals vs us->t vs Y H Q->
  wpAny (model X.prog X.w) X.A (assignInOrder ((assignEach ts X.env).map (·.2)) us) (λ _ s'=>∃σ' H',Inv X aa σ' H' s'/\Q σ' H') X.xe s
abbrev Fz:=V->V->V->Hp->(Hp->Prop)->Prop
def FE(X:Cx)(t:Fz):Prop:=
 ∀(aa:List (Addr×Obj)) (s:Shared) (Y:St) (H:Hp) (o i v:V) (ov iv u:Value) (Q:Hp->Prop),Inv X aa Y H s->RelV o ov->RelV i iv->RelV v u->t o i v H Q->
  wpAny (model X.prog X.w) X.A (setItem ov iv u) (λ _ s'=>∃H',Inv X aa Y H' s'/\Q H') X.xe s
section
variable{X:Cx}{pos:Pos}
def D9(i:Nat):TG:=λ v Y H Q=>Q (Y.set i (some v)) H
theorem BO{i:Nat}{x:Str}(hN:X.N.Nodup)(hi:X.N[i]?=some x)(hx:Loc X.env.scope x)(hf:X.fn x=true\/X.env.scope.names.lookup x=some .local:=by first | exact .inl rfl | exact .inr rfl | assumption):PG X (.Name x pos) (D9 i):=by
 intro aa s Y H v u Q I r h;exact wpAny_assign_Name (qY I hN hi hx r (λ s' I'=>⟨_,H,I',h⟩) hf)
def MI:yK:=λ vs Y H Q=>vs=[]/\Q Y H
def Jj(t:TG)(u:yK):yK:=λ vs Y H Q=>∃v r,vs=v::r/\t v Y H fun σ' H'=>u r σ' H' Q
theorem BP:tL X [] MI:=by
 intro aa s Y H vs us Q I r h;let⟨e,h⟩:=h;subst e;cases r;exact assignInOrder_nil ⟨Y,H,I,h⟩
theorem yL{es:List Expr}{t:TG}{u:yK}(h1:PG X e t)(h2:tL X es u)
  (hs:(assignEach (e::es) X.env).map (·.2)=assign e X.env::(assignEach es X.env).map (·.2):=by rfl):tL X (e::es) (Jj t u):=by
 intro aa s Y H vs us Q I r h;let⟨v,vr,e1,h⟩:=h;subst e1;cases r with
 | cons r rr=>
  rw[hs];refine assignInOrder_cons (bY (h1 aa s Y H _ _ _ I r h) λ _ s1 ⟨σ1,H1,I1,q1⟩=>?_);exact h2 aa s1 σ1 H1 _ _ Q I1 rr q1
def MJ(K:PySem.W.Frag)(n:Nat)(t:yK):TG:=λ v Y H Q=>∃a xs,v=.ref a/\dI K H a xs/\xs.length=n/\t xs Y H Q
theorem FF{es:List Expr}{k:Nat}{t:yK}{n:Nat}(hc:X.calm=true)(h:tL X es t)
  (hn:(assignEach es X.env).length=n:=by rfl) (hst:(assignEach es X.env).findIdx? (·.1)=none:=by rfl):PG X (.Tuple es k pos) (MJ X.K n t):=by
 intro aa s Y H v u Q I r hw;let⟨a,xs,e1,hq,hl,hw⟩:=hw;subst e1;cases r;let⟨its,rv,ht,hz⟩:=I.tuple hq;refine assign_Tuple_tuple (I.ok.hd hc) ht (by simp[hn,<-hl,rv.length]) hst λ h' hx=>?_;have I1:Inv X aa Y H {s with heap:=h'}:=I.kept (t':=s.toks) λ b o e=>hx b o (Ql (Qh e)) e;exact h aa _ Y H xs _ Q I1 (by simpa using rv) hw
def MK(to ti:TE)(t:Fz):TG:=λ v Y H Q=>to Y H λ o H1=>ti Y H1 λ i H2=>t o i v H2 λ H3=>Q Y H3
theorem FG{o i:Expr}{to ti:TE}{t:Fz}(ho:PE X o to)(hi:PE X i ti)(hs:FE X t)
  (ha:∀v,assign (.Subscript o i pos) X.env v=(do
   let ov <-holding [v] (eval o X.env)
   let iv <-holding [v,ov] (eval i X.env)
   standAt pos
   holding [v,ov,iv] (setItem ov iv v)
   release [v,ov,iv] []):=by intro _;rfl):PG X (.Subscript o i pos) (MK to ti t):=by
 intro aa s Y H v u Q I r h;rw[ha];refine Qa (QV (bY (ho aa s Y H _ I h) λ ov s1 ⟨x,H1,I1,r1,q1⟩=>?_));refine Qa (QV (bY (hi aa s1 Y H1 _ I1 q1) λ iv s2 ⟨y,H2,I2,r2,q2⟩=>?_));refine Qa (RK (Qa (QV (bY (hs aa s2 Y H2 x y v ov iv u _ I2 r1 r2 r q2) λ _ s3 ⟨H3,I3,q3⟩=>?_))));exact wpAny_release ⟨Y,H3,I3,q3⟩
def Jk(te:TE)(g:TG):TS:=λ D Y H=>te Y H λ x H1=>g x Y H1 D.nx
theorem FH{te:TE}{g:TG}(he:PE X e te)(hg:PG X tg g)(hs:swapsWithSole [tg] e pos.line X.env=pure false:=by rfl)(hw:swappedStores [tg] e X.env=pure none:=by rfl)
  (h1:(assignEach [tg] X.env).map (·.2)=[assign tg X.env]:=by rfl):PS X (.Assign [tg] e pos) (Jk te g):=by
 intro aa s Y H D I h;refine wpAny_Assign_stores (bY (he aa s Y H _ I h) λ v s1 ⟨x,H1,I1,r1,q1⟩=>?_) hs hw;rw[h1];exact bY (hg aa s1 Y H1 x v _ I1 r1 q1) λ _ s2 q=>q
theorem FI{i:Nat}{x:Str}{te:TE}{pos':Pos}(hN:X.N.Nodup)(hi:X.N[i]?=some x)(hx:Loc X.env.scope x)(he:PE X e te)(hs:swapsWith e @(.Name x pos') pos.line X.env=pure false:=by rfl)(hf:X.fn x=true\/X.env.scope.names.lookup x=some .local:=by first | exact .inl rfl | exact .inr rfl | assumption) :
  PS X (.Assign [.Name x pos'] e pos) (Jk te (D9 i)):=by
 intro aa s Y H D I h;refine wpAny_Assign_Name (bY (he aa s Y H _ I h) λ v s1 ⟨y,H1,I1,r1,q1⟩=>?_) hs;exact qY I1 hN hi hx r1 (λ s2 I2=>⟨_,H1,I2,q1⟩) hf
end
set_option genInjectivity false in
structure It where
 go:Nat->Hp->Prop
 yld:Nat->Hp->V->Hp->Prop
 stop:Nat->Hp->Prop
def jf(X:Cx)(aa:List (Addr×Obj))(H:Hp)(b:Addr):Prop:=
 H b=none/\b≠X.env.locals/\b∉X.fs/\(b∈X.ex\/X.s₀.heap.objs.size<=b)/\(∀x c,X.env.cells.lookup x=some c->c≠b)/\∀p∈X.pn++aa,p.1≠b
theorem Inv.pI{aa:List (Addr×Obj)}{Y:St}{H H':Hp}{b:Addr}(I:Inv X aa Y H s)(hb:s.heap.objs.size<=b)(hn:H' b=none):jf X aa H' b:=by
 refine⟨hn,Q6 (QA I.lt hb),I.Mz hb,.inr (QC I.sz hb),λ x c e z=>?_,λ p hp z=>?_⟩
 .let⟨v,q⟩:=I.cell x c e;exact absurd (QA q.lt (by rw[z];exact hb)) (Nat.lt_irrefl _)
 .exact absurd (QA (Qh (I.pin p hp).1) (by rw[z];exact hb)) (Nat.lt_irrefl _)
structure Turn(P:Program)(w:World)(K:PySem.W.Frag)(tg:Expr)(P9:It)(fp:List Addr)(it:Addr)(tn:Nat->Heap->Prop):Prop where
 mem:it∈fp
 obj:∀i h,tn i h->∀b∈fp,∃o,h.get? b=some o/\∀v,o.data≠.cell v
 keep:∀i h h',tn i h->(∀b∈fp,∀o,h.get? b=some o->h'.get? b=some o)->tn i h'
 item:∀(X:Cx),X.prog=P->X.w=w->X.K=K->X.calm=true->∀(i:Nat) (aa:List (Addr×Obj)) (s:Shared) (Y:St) (H:Hp) (E:Value->Shared->Prop),Inv X aa Y H s->(∀b∈fp,jf X aa H b)->tn i s.heap->P9.go i H->
  wpAny (model P w) X.A (pyNext (.ref it)) (λ r s1=>∃u,r=some u/\
   wpAny (model P w) X.A (letOwnedTupleGo tg (.ref it) u) (λ _ s2=>∃x H',Inv X aa Y H' s2/\RelV x u/\P9.yld i H x H'/\tn (i+1) s2.heap/\∀b∈fp,H' b=none) E s1) E s
 done:∀(X:Cx),X.prog=P->X.w=w->X.K=K->X.calm=true->∀(i:Nat) (aa:List (Addr×Obj)) (s:Shared) (Y:St) (H:Hp) (E:Value->Shared->Prop),Inv X aa Y H s->(∀b∈fp,jf X aa H b)->tn i s.heap->P9.stop i H->
  wpAny (model P w) X.A (pyNext (.ref it)) (λ r s1=>r=none/\Inv X aa Y H s1) E s
 self:∀(A:Around) (i:Nat) (s:Shared) (Q:Value->Shared->Prop) (E:Value->Shared->Prop),tn i s.heap->Q (.ref it) s->wpAny (model P w) A (pyIter (.ref it)) Q E s
abbrev TI:=St->Hp->(It->Hp->Prop)->Prop
def N4(X:Cx)(aa:List (Addr×Obj))(Y:St)(tg:Expr)(R:It->Hp->Prop)(itv:Value)(s2:Shared):Prop:=
 ∃(it:Addr) (fp:List Addr) (tn:Nat->Heap->Prop) (P9:It) (H':Hp),itv=.ref it/\Inv X aa Y H' s2/\Turn X.prog X.w X.K tg P9 fp it tn/\tn 0 s2.heap/\(∀b∈fp,jf X aa H' b)/\R P9 H'
def PI(X:Cx)(tg iter:Expr)(wi:TI):Prop:=
 ∀(aa:List (Addr×Obj)) (s:Shared) (Y:St) (H:Hp) (R:It->Hp->Prop),Inv X aa Y H s->wi Y H R->
  wpAny (model X.prog X.w) X.A (eval iter X.env) (λ v s1=>wpAny (model X.prog X.w) X.A (pyIter v) (N4 X aa Y tg R) X.xe s1) X.xe s
theorem vc{M:Model}{A:Around}{E:Value->Shared->Prop}{it:Addr}{o:Obj}{n:String}{vs:Array Value}{Q:Unit->Shared->Prop}(ho:s.heap.get? it=some o)(hc:o.cls=.type n)(hd:o.data=.fields vs)
  (hn:["enumerate","zip","dict_itemiterator","dict_reverseitemiterator","odict_iterator","itertools.zip_longest","itertools.pairwise"].contains n=false) (hQ:Q () s):wpAny M A (letOwnedTupleGo tg (.ref it) u) Q E s:=by
 unfold letOwnedTupleGo;cases tg<;>first
  | exact Qg hQ
  | (cases u<;>first
    | exact Qg hQ
    | (refine Qa (wpAny_load ho ?_);rw[hc,hd];show wpAny M A (if (["enumerate","zip","dict_itemiterator","dict_reverseitemiterator","odict_iterator","itertools.zip_longest","itertools.pairwise"].contains n&&vs[0]?==@(rawInt _))=true then _ else _) Q E s;rw[Qz (by intro h;rw[hn,Bool.false_and] at h;cases h)];exact Qg hQ))
def LA(K:PySem.W.Frag)(a:Addr):It:=
 ⟨λ i H=>∃xs x,gE K H a xs/\xs[i]?=some x,λ i H x H'=>H'=H/\∀xs,gE K H a xs->xs[i]?=some x,λ i H=>∃xs,gE K H a xs/\xs.length<=i⟩
def ML(K:PySem.W.Frag)(a:Addr):It:=
 ⟨λ i H=>∃xs x,dI K H a xs/\xs[i]?=some x,λ i H x H'=>H'=H/\∀xs,dI K H a xs->xs[i]?=some x,λ i H=>∃xs,dI K H a xs/\xs.length<=i⟩
def Jl(lo:Int)(n:Nat):It:=⟨λ i _=>i < n,λ i H x H'=>H'=H/\x=.int (lo+i),λ i _=>n<=i⟩
theorem wQ(a it:Addr):Turn P w K tg (LA K a) [it] it (λ i h=>h.IsListIter it a i) where
 mem:=by simp
 obj:=λ i h st b hb=>by
  have e:b=it:=by simpa using hb
  subst e;let⟨o,e,c,d⟩:=st;exact⟨o,e,λ v z=>by rw[d] at z;cases z⟩
 keep:=λ i h h' st k=>st.at λ o e=>k it 's' o e
 item:=by
  intro X hP hw hK hc i aa s Y H E I hf st hg;subst hP hw hK;let⟨xs,x,hq,hx⟩:=hg;let⟨its,rv,p,hz⟩:=I.list hq;let⟨u,hu,ru⟩:=rv.get hx;let⟨f0,f1,f2,f3,f4,f5⟩:=hf it 's';refine wpAny_pyNext_list_item st p.isList (x:=u) (by simpa using hu) λ h' st' sb=>?_;have I1:Inv X aa Y H {s with heap:=h'}:=I.turned (t':=s.toks) (λ b o hb e=>(sb.2 b hb).trans e) f0 f1 f3 f4 f5;let⟨o,e,c,d⟩:=id st';exact⟨u,rfl,vc (s:={s with heap:=h'}) e c d 'd' ⟨x,H,I1,ru,⟨rfl,λ ys hy=>by rw[I.lW hy hq];exact hx⟩,st',λ b hb=>(hf b hb).1⟩⟩
 done:=by
  intro X hP hw hK hc i aa s Y H E I hf st hg;subst hP hw hK;let⟨xs,hq,hx⟩:=hg;let⟨its,rv,p,hz⟩:=I.list hq;let⟨f0,f1,f2,f3,f4,f5⟩:=hf it 's';have hl:=rv.length;exact wpAny_pyNext_list_end (I.ok.hd hc) st p.isList (by simp;omega) λ h' eb=>⟨rfl,I.turned (t':=s.toks) (λ b o hb e=>eb b o hb e) f0 f1 f3 f4 f5⟩
 self:=λ _ _ _ _ _ st h=>wpAny_pyIter_listiter st h
theorem tO(a it:Addr):Turn P w K tg (ML K a) [it] it (λ i h=>h.IsTupleIter it a i) where
 mem:=by simp
 obj:=λ i h st b hb=>by
  have e:b=it:=by simpa using hb
  subst e;let⟨o,e,c,d⟩:=st;exact⟨o,e,λ v z=>by rw[d] at z;cases z⟩
 keep:=λ i h h' st k=>st.at λ o e=>k it 's' o e
 item:=by
  intro X hP hw hK hc i aa s Y H E I hf st hg;subst hP hw hK;let⟨xs,x,hq,hx⟩:=hg;let⟨its,rv,p,hz⟩:=I.tuple hq;let⟨u,hu,ru⟩:=rv.get hx;let⟨f0,f1,f2,f3,f4,f5⟩:=hf it 's';refine wpAny_pyNext_tuple_item st (show s.heap.IsTuple a its.toArray from p) (x:=u) (by simpa using hu) λ h' st' sb=>?_;have I1:Inv X aa Y H {s with heap:=h'}:=I.turned (t':=s.toks) (λ b o hb e=>(sb.2 b hb).trans e) f0 f1 f3 f4 f5;let⟨o,e,c,d⟩:=id st';exact⟨u,rfl,vc (s:={s with heap:=h'}) e c d 'd' ⟨x,H,I1,ru,⟨rfl,λ ys hy=>by rw[I.jZ hy hq];exact hx⟩,st',λ b hb=>(hf b hb).1⟩⟩
 done:=by
  intro X hP hw hK hc i aa s Y H E I hf st hg;subst hP hw hK;let⟨xs,hq,hx⟩:=hg;let⟨its,rv,p,hz⟩:=I.tuple hq;let⟨f0,f1,f2,f3,f4,f5⟩:=hf it 's';have hl:=rv.length;exact wpAny_pyNext_tuple_end (I.ok.hd hc) st (show s.heap.IsTuple a its.toArray from p) (by simp;omega) λ h' eb=>⟨rfl,I.turned (t':=s.toks) (λ b o hb e=>eb b o hb e) f0 f1 f3 f4 f5⟩
 self:=λ _ _ _ _ _ st h=>wpAny_pyIter_tupleiter st h
theorem tP(it:Addr)(lo:Int)(n:Nat):Turn P w K tg (Jl lo n) [it] it (λ i h=>IsRangeIter h it (lo+(i:Nat)*1) ((n:Int) - (i:Nat)) 1) where
 mem:=by simp
 obj:=λ i h st b hb=>by
  have e:b=it:=by simpa using hb
  subst e;exact⟨_,st,λ v z=>by
   have z':Data.fields _=Data.cell v:=z;cases z'⟩
 keep:=λ i h h' st k=>k it 's' _ st
 item:=by
  intro X hP hw hK hc i aa s Y H E I hf st hg;subst hP hw hK;let⟨f0,f1,f2,f3,f4,f5⟩:=hf it 's';have W:=Walks.range (prog:=X.prog) (w:=X.w) (I.ok.hd hc) it lo 1 n;refine W.item i s _ _ hg st λ v h' tk hv st' kk=>?_;let⟨t,rfl⟩:=hv;have I1:Inv X aa Y H {s with heap:=h',toks:=tk}:=I.turned (λ b o hb e=>kk b o (by simpa using hb) e) f0 f1 f3 f4 f5;refine⟨_,rfl,vc (s:={s with heap:=h',toks:=tk}) (n:="range_iterator") st' rfl rfl 'd' ⟨.int (lo+i),H,I1,⟨t,?_⟩,⟨rfl,rfl⟩,st',λ b hb=>(hf b hb).1⟩⟩;rw[Int.mul_one]
 done:=by
  intro X hP hw hK hc i aa s Y H E I hf st hg;subst hP hw hK;let⟨f0,f1,f2,f3,f4,f5⟩:=hf it 's';exact wpAny_pyNext_range_end (I.ok.hd hc) st (by have:n<=i:=hg;omega) λ h' eb=>⟨rfl,I.turned (t':=s.toks) (λ b o hb e=>eb b o hb e) f0 f1 f3 f4 f5⟩
 self:=λ _ _ _ _ _ st h=>wpAny_pyIter_rangeiter st h
end L2
namespace L2
open PySem PySem.Spec PyProof.Rows List
variable{H:Hp}{fp:List Addr}{aa:List (Addr×Obj)}{pos:Pos}{s:Shared}{Y:St}
section
variable{X:Cx}{tg:Expr}
def Jm(K:PySem.W.Frag)(tl:TE):TI:=fun Y H R=>tl Y H λ x H1=>∃a,x=.ref a/\(∃xs,gE K H1 a xs)/\R (LA K a) H1
def MM(K:PySem.W.Frag)(tl:TE):TI:=fun Y H R=>tl Y H λ x H1=>∃a,x=.ref a/\(∃xs,dI K H1 a xs)/\R (ML K a) H1
theorem BQ{l:Expr}{tl:TE}(hl:PE X l tl):PI X tg l (Jm X.K tl):=by
 intro aa s Y H R I h;refine bY (hl aa s Y H _ I h) λ v s1 ⟨x,H1,I1,r1,q1⟩=>?_;let⟨a,e,⟨xs,hq⟩,q⟩:=q1;subst e;cases r1;let⟨its,rv,p,hz⟩:=I1.list hq;refine RP p.isList ?_;refine⟨s1.heap.objs.size,[s1.heap.objs.size],_,_,H1,rfl,I1.kept (t':=s1.toks) λ b o e=>Qc _ e,wQ a _,⟨_,Qm _ rfl,rfl,rfl⟩,λ b hb=>?_,q⟩;have e:b=s1.heap.objs.size:=by simpa using hb
 subst e;exact I1.pI (Qk _) (I1.hok.fresh (Qk _))
theorem FJ{l:Expr}{tl:TE}(hl:PE X l tl):PI X tg l (MM X.K tl):=by
 intro aa s Y H R I h;refine bY (hl aa s Y H _ I h) λ v s1 ⟨x,H1,I1,r1,q1⟩=>?_;let⟨a,e,⟨xs,hq⟩,q⟩:=q1;subst e;cases r1;let⟨its,rv,p,hz⟩:=I1.tuple hq;refine wpAny_pyIter_tuple (show s1.heap.IsTuple a its.toArray from p) ?_;refine⟨s1.heap.objs.size,[s1.heap.objs.size],_,_,H1,rfl,I1.kept (t':=s1.toks) λ b o e=>Qc _ e,tO a _,⟨_,Qm _ rfl,rfl,rfl⟩,λ b hb=>?_,q⟩;have e:b=s1.heap.objs.size:=by simpa using hb
 subst e;exact I1.pI (Qk _) (I1.hok.fresh (Qk _))
theorem q8{R:It->Hp->Prop}{E:Value->Shared->Prop}{lo hi:Int}{t u v:Tok}{tk:Nat}(I:Inv X aa Y H s)(h1:-(2^62)<=lo)(h2:lo < 2^62)(h3:-(2^62)<=hi)(h4:hi < 2^62)
  (q:R (Jl lo (hi - lo).toNat) H):wpAny (model X.prog X.w) X.A (pyIter (.ref s.heap.objs.size)) (N4 X aa Y tg R) E {s with heap:=s.heap.push {cls:=.type "range",data:=.fields #[.int lo t,.int hi u,.int 1 v]},toks:=tk}:=by
 refine wpAny_pyIter_range (IsRange.new ..) (small_one h1 h2 h3 h4) ?_;have I1:Inv X aa Y H {s with heap:=s.heap.push {cls:=.type "range",data:=.fields #[.int lo t,.int hi u,.int 1 v]},toks:=tk}:=I.kept λ b o e=>Qc _ e;refine⟨(s.heap.push {cls:=.type "range",data:=.fields #[.int lo t,.int hi u,.int 1 v]}).objs.size,[(s.heap.push {cls:=.type "range",data:=.fields #[.int lo t,.int hi u,.int 1 v]}).objs.size],_,_,H,rfl,
  I1.kept (t':=tk) λ b o e=>Qc _ e,tP _ lo (hi - lo).toNat,?_,λ b hb=>?_,q⟩
 .have e1:lo+((0:Nat):Int)*1=lo:=by simp
  have e2:(((hi - lo).toNat:Nat):Int) - ((0:Nat):Int)=Builtin.Range.rangeSize lo hi 1:=by rw[rangeSize_one];split<;>omega
  show IsRangeIter _ _ (lo+((0:Nat):Int)*1) ((((hi - lo).toNat:Nat):Int) - ((0:Nat):Int)) 1;rw[e1,e2];exact Qm _ rfl
 .have e:b=(s.heap.push {cls:=.type "range",data:=.fields #[.int lo t,.int hi u,.int 1 v]}).objs.size:=by simpa using hb
  subst e;exact I1.pI (Qk _) (I1.hok.fresh (Qk _))
def Jo(ta:TA):TI:=fun Y H R=>ta Y H λ vs H1=>∃j:Int,vs=[.int j]/\-(2^62)<=j/\j < 2^62/\R (Jl 0 j.toNat) H1
def Jp(ta:TA):TI:=fun Y H R=>ta Y H λ vs H1=>∃i j:Int,vs=[.int i,.int j]/\(-(2^62)<=i/\i < 2^62/\-(2^62)<=j/\j < 2^62)/\R (Jl i (j - i).toNat) H1
theorem wR{a:Expr}{ta:TA}{p:Pos}(hg:Gl X "range")(hm:X.mg "range"=none)(ha:PA X [a] ta)(hs:starEach [a] X.env=[(false,eval a X.env)]:=by rfl):PI X tg (.Call (.Name "range" p) [a] [] pos) (Jo ta):=by
 intro aa s Y H R I h;refine Call_ (g9 I hg hm boot_range (Rh (bY (ha pos aa s Y H _ I h) λ us s1 ⟨vs,H1,I1,r1,q1⟩=>?_) hs rfl));let⟨j,e,q1,q2,q⟩:=q1;subst e;cases r1 with
 | cons r rr=>
  cases rr;let⟨t,rfl⟩:=r;exact call_range_1 (q8 I1 'o' 'o' q1 q2 (by simpa using q))
theorem wU{a b:Expr}{ta:TA}{p:Pos}(hg:Gl X "range")(hm:X.mg "range"=none)(ha:PA X [a,b] ta)(hs:starEach [a,b] X.env=[(false,eval a X.env),(false,eval b X.env)]:=by rfl)(hs2:starEach [b] X.env=[(false,eval b X.env)]:=by rfl) :
  PI X tg (.Call (.Name "range" p) [a,b] [] pos) (Jp ta):=by
 intro aa s Y H R I h;refine Call_ (g9 I hg hm boot_range (Rh (bY (ha pos aa s Y H _ I h) λ us s1 ⟨vs,H1,I1,r1,q1⟩=>?_) (by rw[hs,hs2]) (by rw[hs2];rfl)));let⟨i,j,e,⟨q1,q2,q3,q4⟩,q⟩:=q1;subst e;cases r1 with
 | cons r rr=>
  cases rr with
  | cons r' rr=>
   cases rr;let⟨t,rfl⟩:=r;let⟨t',rfl⟩:=r';exact call_range_2 (q8 I1 q1 q2 q3 q4 q)
def MN(wi:TI)(g:TG)(tb:TS):TS:=λ D Y H=>wi Y H λ P9 H1=>∃W:Nat->Nat->St->Hp->Prop,(∃m,W 0 m Y H1)/\∀i m Y H,W i m Y H->
 (P9.stop i H/\D.nx Y H)\/(P9.go i H/\∃N:St->Hp->Prop,(∀σ' H',N σ' H'->∃m',m' < m/\W (i+1) m' σ' H')/\∀x H',P9.yld i H x H'->g x Y H' fun σ2 H2=>tb {D with nx:=N,ct:=N,bk:=D.nx} σ2 H2)
def lX(fp:List Addr)(h:Heap):List (Addr×Obj):=fp.filterMap λ b=>(h.get? b).map λ o=>(b,o)
theorem ic{h:Heap}{b:Addr}{o:Obj}(hb:b∈fp)(e:h.get? b=some o):(b,o)∈lX fp h:=List.mem_filterMap.mpr ⟨b,hb,by rw[e];rfl⟩
theorem wV{h:Heap}{p:Addr×Obj}(hp:p∈lX fp h):p.1∈fp/\h.get? p.1=some p.2:=by
 let⟨b,hb,e⟩:=List.mem_filterMap.mp hp;cases q:h.get? b with
 | none=>rw[q] at e;cases e
 | some o=>
  rw[q] at e;have e':(b,o)=p:=Ru e;subst e';exact⟨hb,q⟩
theorem Inv.pinned(I:Inv X aa Y H s)(hf:∀b∈fp,jf X aa H b)(ho:∀b∈fp,∃o,s.heap.get? b=some o/\∀v,o.data≠.cell v):Inv X (aa++lX fp s.heap) Y H s:=
 I.u9 λ p hp=>(QW.mp hp).elim (λ z=>I.pin p (Rk _ z)) λ z=>by
  let⟨hb,e⟩:=wV z;let⟨f0,f1,f2,_⟩:=hf p.1 hb;let⟨o,e',d⟩:=ho p.1 hb;rw[e] at e';cases e';exact⟨e,f0,f1,f2,d⟩
theorem Inv.jF{pl:List (Addr×Obj)}(I:Inv X (aa++pl) Y H s):Inv X aa Y H s:=I.u9 λ p hp=>I.pin p (Rk _ (mem_append_left _ hp))
theorem FL{iter:Expr}{body:List Stmt}{wi:TI}{g:TG}{tb:TS}(hp:PassesOwn (model X.prog X.w) X.A X.env X.xe)(hc:X.calm=true)(hi:PI X tg iter wi)(hg:PG X tg g)(hb:lV X body tb)
  (hs:∀x,foldedSetIterable iter X.env x=pure x:=by intro _;rfl):PS X (.For tg iter body [] pos) (MN wi g tb):=by
 intro aa s Y H D I h;refine wpAny_For (bY (hi aa s Y H _ I h) λ v s1 h1=>bY h1 λ itv s2 h2=>?_) hs;let⟨it,fp,tn,P9,H2,e,I2,T,st2,f2,W,⟨m0,w0⟩,turn⟩:=h2;subst e;have stat:∀{H':Hp},(∀b∈fp,H' b=none)->∀b∈fp,jf X aa H' b:=λ hn b hb=>⟨hn b hb,(f2 b hb).2⟩;refine codeAny_forLoop_any (λ n s'=>∃i σ' H',Inv X aa σ' H' s'/\tn i s'.heap/\(∀b∈fp,H' b=none)/\W i n σ' H') ?_ m0 ⟨0,Y,H2,I2,st2,λ b hb=>(f2 b hb).1,w0⟩;rintro n s3 ⟨i,Y3,H3,I3,st3,fr3,w3⟩;rcases turn i n Y3 H3 w3 with⟨stop,qn⟩ | ⟨go,N,hN,step⟩
 .refine wpAny_passesOwn hp (bY (T.done X rfl rfl rfl hc i aa s3 Y3 H3 X.xe I3 (stat fr3) st3 stop) λ r s4 ⟨hr,I4⟩=>?_);subst hr;exact wpAny_execs_nil ⟨Y3,H3,I4,qn⟩
 .refine wpAny_passesOwn hp (bY (T.item X rfl rfl rfl hc i aa s3 Y3 H3 X.xe I3 (stat fr3) st3 go) λ r s4 ⟨u,hr,h4⟩=>?_);subst hr;refine wpAny_passesOwn hp (bY h4 λ _ s5 ⟨x,H5,I5,r5,y5,st5,fr5⟩=>?_);have OM:=I5.pinned (stat fr5) (T.obj _ _ st5);refine wpAny_passesOwn hp (bY (hg _ s5 Y3 H5 x u _ OM r5 (step x H5 y5)) λ _ s6 ⟨Y6,H6,I6,q6⟩=>?_);refine wpAny_passesOwn hp (bY (hb _ s6 Y6 H6 _ I6 q6) λ f s7 q7=>?_);have again:∀{Y7:St} {H7:Hp},Inv X (aa++lX fp s5.heap) Y7 H7 s7->N Y7 H7->∃m,m < n/\∃i σ' H',Inv X aa σ' H' s7/\tn i s7.heap/\(∀b∈fp,H' b=none)/\W i m σ' H':=λ {Y7 H7} I7 n7=>by
   let⟨m',hm,w7⟩:=hN Y7 H7 n7;refine⟨m',hm,i+1,Y7,H7,I7.jF,T.keep _ _ _ st5 λ b hb o e=>(I7.pin (b,o) (Rk _ (Rk _ (ic hb e)))).1,λ b hb=>?_,w7⟩;let⟨o,e,d⟩:=T.obj _ _ st5 b hb;exact(I7.pin (b,o) (Rk _ (Rk _ (ic hb e)))).2.1
  cases f with
  | next=>let⟨Y7,H7,I7,n7⟩:=q7;exact again I7 n7
  | cont=>let⟨Y7,H7,I7,n7⟩:=q7;exact again I7 n7
  | brk=>let⟨Y7,H7,I7,q7⟩:=q7;exact⟨Y7,H7,I7.jF,q7⟩
  | ret v=>let⟨x7,Y7,H7,I7,r7,q7⟩:=q7;exact⟨x7,Y7,H7,I7.jF,r7,q7⟩
end
end L2
namespace L2
open PySem PySem.Spec PyProof.Rows List
variable{f:Value->Value->Sem Value}{op:CmpOp}
abbrev R2:=V->V->Hp->VK->Prop
def ie(X:Cx)(f:Value->Value->Sem Value)(r:R2):Prop:=
 ∀(aa:List (Addr×Obj)) (s:Shared) (Y:St) (H:Hp) (x y:V) (v u:Value) (Q:VK),Inv X aa Y H s->RelV x v->RelV y u->r x y H Q->
  wpAny (model X.prog X.w) X.A (f v u) (EP X aa Y Q) X.xe s
def bB(X:Cx)(f:Value)(r:List V->Hp->VK->Prop):Prop:=
 ∀(aa:List (Addr×Obj)) (s:Shared) (Y:St) (H:Hp) (xs:List V) (us:List Value) (Q:VK),Inv X aa Y H s->Vals xs us->r xs H Q->
  wpAny (model X.prog X.w) X.A (call f us) (EP X aa Y Q) X.xe s
def MO(X:Cx)(r:V->Hp->(Bool->Hp->Prop)->Prop):Prop:=
 ∀(aa:List (Addr×Obj)) (s:Shared) (Y:St) (H:Hp) (x:V) (v:Value) (Q:Bool->Hp->Prop),Inv X aa Y H s->RelV x v->r x H Q->
  wpAny (model X.prog X.w) X.A (truthy v) (TP X aa Y Q) X.xe s
def LB(r:R2)(ta tb:TE):TE:=fun Y H Q=>ta Y H λ x H1=>tb Y H1 λ y H2=>r x y H2 Q
def rI(C:Int->Int->Prop)(g:Int->Int->V):R2:=λ x y H Q=>∃i j,x=.int i/\y=.int j/\C i j/\Q (g i j) H
def BR(g:Int->Int->V):R2:=λ x y H Q=>∃i j,x=.int i/\y=.int j/\Q (g i j) H
section
variable{X:Cx}{a b c:Expr}{ta tb tc:TE}{pos:Pos}
theorem FN(ha:PE X a ta)(hb:PE X b tb){aa:List (Addr×Obj)}{s:Shared}{Y:St}{H:Hp}{R:V->V->Hp->Prop}(I:Inv X aa Y H s)
  (h:ta Y H λ x H1=>tb Y H1 λ y H2=>R x y H2) {Q:Value->Shared->Prop}
  (hf:∀v u s2 x y H2,Inv X aa Y H2 s2->RelV x v->RelV y u->R x y H2->wpAny (model X.prog X.w) X.A (f v u) Q X.xe s2) :
  wpAny (model X.prog X.w) X.A (eval a X.env) (λ v s₁=>wpAny (model X.prog X.w) X.A (eval b X.env) (λ u s₂=>wpAny (model X.prog X.w) X.A (f v u) Q X.xe s₂) X.xe s₁) X.xe s:=by
 refine bY (ha aa s Y H _ I h) λ v s1 ⟨x,H1,I1,r1,q1⟩=>?_;refine bY (hb aa s1 Y H1 _ I1 q1) λ u s2 ⟨y,H2,I2,r2,q2⟩=>?_;exact hf v u s2 x y H2 I2 r1 r2 q2
theorem Jq{op:Operator}{r:R2}(ho:ie X (binaryOp op) r)(ha:PE X a ta)(hb:PE X b tb):PE X (.BinOp a op b pos) (LB r ta tb):=by
 intro aa s Y H Q I h;exact wpAny_BinOp (FN ha hb I h λ v u s2 x y H2 I2 rx ry q=>ho aa s2 Y H2 x y v u Q I2 rx ry q)
theorem IK{C:Int->Int->Prop}{g:Int->Int->Int}
  (rule:∀(i j:Int) (t u:Tok) (s:Shared) (Q:Value->Shared->Prop) (E:Value->Shared->Prop),C i j->Q (.int (g i j) s.toks) {s with toks:=s.toks+1}->wpAny (model X.prog X.w) X.A (f (.int i t) (.int j u)) Q E s) :
  ie X f (rI C λ i j=>.int (g i j)):=by
 intro aa s Y H x y v u Q I rx ry h;let⟨i,j,rfl,rfl,hc,q⟩:=h;let⟨t,rfl⟩:=rx;let⟨t',rfl⟩:=ry;exact rule i j t t' s _ _ hc ⟨.int (g i j),H,I.tok _,⟨_,rfl⟩,q⟩
theorem FO{g:Int->Int->Int}
  (rule:∀(i j:Int) (t u:Tok) (s:Shared) (Q:Value->Shared->Prop) (E:Value->Shared->Prop),Q (.int (g i j) s.toks) {s with toks:=s.toks+1}->wpAny (model X.prog X.w) X.A (f (.int i t) (.int j u)) Q E s) :
  ie X f (BR λ i j=>.int (g i j)):=by
 intro aa s Y H x y v u Q I rx ry h;let⟨i,j,rfl,rfl,q⟩:=h;let⟨t,rfl⟩:=rx;let⟨t',rfl⟩:=ry;exact rule i j t t' s _ _ ⟨.int (g i j),H,I.tok _,⟨_,rfl⟩,q⟩
theorem BS{g:Int->Int->Bool}
  (rule:∀(i j:Int) (t u:Tok) (s:Shared) (Q:Value->Shared->Prop) (E:Value->Shared->Prop),Q (.bool (g i j)) s->wpAny (model X.prog X.w) X.A (f (.int i t) (.int j u)) Q E s) :
  ie X f (BR λ i j=>.bl (g i j)):=by
 intro aa s Y H x y v u Q I rx ry h;let⟨i,j,rfl,rfl,q⟩:=h;let⟨t,rfl⟩:=rx;let⟨t',rfl⟩:=ry;exact rule i j t t' s _ _ ⟨.bl (g i j),H,I,rfl,q⟩
def Jr(i j:Int):Prop:=0 < j/\j < 1073741824
def Js(i j:Int):Prop:=0<=j/\j<=1000000/\i.natAbs < 2^64
def BU(i j:Int):Prop:=(-(2^64) < i/\i < 2^64)\/(-(2^64) < j/\j < 2^64)
theorem BU.ok{i j:Int}(h:BU i j):IntMulOk i j:=by
 rcases h with⟨h1,h2⟩ | ⟨h1,h2⟩
 .exact .of_left (intBits_le_64 h1 h2)
 .exact .of_right (intBits_le_64 h1 h2)
theorem tQ(k:Nat):(0:Int)<=2^k:=by
 rw[two_pow_cast];exact Int.natCast_nonneg _
theorem FP:ie X (binaryOp .Add) (BR λ i j=>.int (i+j)):=FO λ _ _ _ _ _ _ _ q=>add_int q
theorem FQ:ie X (binaryOp .Sub) (BR λ i j=>.int (i - j)):=FO λ _ _ _ _ _ _ _ q=>sub_int q
theorem FT:ie X (binaryOp .Mult) (rI BU λ i j=>.int (i*j)):=IK λ _ _ _ _ _ _ _ hc q=>mul_int q hc.ok
theorem BV:ie X (binaryOp .FloorDiv) (rI Jr λ i j=>.int (i / j)):=IK λ i j _ _ _ _ _ hc q=>by
 have h1:(0:Int) < j:=hc.1;have h2:j < 1073741824:=hc.2;exact floordiv_int 'o' (by rw[Int.fdiv_eq_ediv_of_nonneg i 'o'];exact q) (.inl (PyProof.noPylong_small 'o'))
theorem FU:ie X (binaryOp .Mod) (rI (λ _ j=>0 < j) λ i j=>.int (i%j)):=IK λ i j _ _ _ _ _ hc q=>by
 have h1:(0:Int) < j:=hc;exact mod_int' 'o' (by rw[Int.fmod_eq_emod_of_nonneg i 'o'];exact q)
theorem FW:ie X (binaryOp .Pow) (rI Js λ i j=>.int (i^j.toNat)):=IK λ _ _ _ _ _ _ _ hc q=>pow_int_small hc.1 hc.2.1 hc.2.2 q
theorem FY:ie X (binaryOp .LShift) (rI Js λ i j=>.int (i*2^j.toNat)):=IK λ _ _ _ _ _ _ _ hc q=>lshift_int_small hc.1 hc.2.1 hc.2.2 q
theorem FZ:ie X (binaryOp .RShift) (rI (λ _ j=>0<=j) λ i j=>.int (i / 2^j.toNat)):=IK λ i j _ _ _ _ _ hc q=>
 rshift_int hc (by rw[Int.fdiv_eq_ediv_of_nonneg i (tQ _)];exact q)
theorem F6:ie X (binaryOp .BitAnd) (BR λ i j=>.int (Builtin.bitAnd i j)):=FO λ _ _ _ _ _ _ _ q=>and_int q
end
section
variable{X:Cx}{a b c:Expr}{ta tb tc:TE}{pos:Pos}
theorem pJ{aa:List (Addr×Obj)}{Y:St}{H:Hp}{s:Shared}{Q:VK}{k k':Bool}(I:Inv X aa Y H s)(q:Q (.bl k) H)(e:k=k'):EP X aa Y Q (.bool k') s:=by
 subst e;exact⟨.bl k,H,I,rfl,q⟩
theorem Jt:ie X (compareOp .Lt) (BR λ i j=>.bl (decide (i < j))):=BS λ _ _ _ _ _ _ _ q=>lt_int q
theorem Ju:ie X (compareOp .LtE) (BR λ i j=>.bl (decide (i<=j))):=BS λ _ _ _ _ _ _ _ q=>le_int q
theorem Jv:ie X (compareOp .Gt) (BR λ i j=>.bl (decide (j < i))):=BS λ _ _ _ _ _ _ _ q=>gt_int q
theorem Jw:ie X (compareOp .GtE) (BR λ i j=>.bl (decide (j<=i))):=BS λ _ _ _ _ _ _ _ q=>ge_int q
theorem wW:ie X (compareOp .Lt) (λ x y H Q=>∃i j,x=.str i/\y=.str j/\Q (.bl (decide (i.cps.toList < j.cps.toList))) H):=by
 intro aa s Y H x y v u Q I rx ry h;let⟨i,j,rfl,rfl,q⟩:=h;let⟨t,rfl⟩:=rx;let⟨t',rfl⟩:=ry;exact lt_str (pJ I q rfl)
theorem F7:ie X (compareOp .Is) (λ x y H Q=>y=.non/\Q (.bl (decide (x=.non))) H):=by
 intro aa s Y H x y v u Q I rx ry h;let⟨rfl,q⟩:=h;cases ry;refine is_none_gen (pJ I q ?_);cases x<;>first
  | (cases rx;rfl)
  | (let⟨t,rfl⟩:=rx;rfl)
theorem BW:ie X (compareOp .IsNot) (λ x y H Q=>y=.non/\Q (.bl (!decide (x=.non))) H):=by
 intro aa s Y H x y v u Q I rx ry h;let⟨rfl,q⟩:=h;cases ry;refine isnot_none_gen (pJ I q ?_);cases x<;>first
  | (cases rx;rfl)
  | (let⟨t,rfl⟩:=rx;rfl)
theorem BX{r:R2}(ho:ie X (compareOp op) r)(ha:PE X a ta)(hb:PE X b tb)(hm:behindInMarks op b=false):PE X (.Compare a [op] [b] pos) (LB r ta tb):=by
 intro aa s Y H Q I h;exact wpAny_Compare1 (FN ha hb I h λ v u s2 x y H2 I2 rx ry q=>ho aa s2 Y H2 x y v u Q I2 rx ry q) hm
def Ea(t:TE):TT:=fun Y H Q=>t Y H λ x H'=>∃k,x=.bl k/\Q k H'
theorem BY{r:R2}(ho:ie X (compareOp op) r)(ha:PE X a ta)(hb:PE X b tb)(hm:behindInMarks op b=false):PT X (.Compare a [op] [b] pos) (Ea (LB r ta tb)):=by
 intro aa s Y H Q I h;refine wpAny_isTrue_Compare1 (bY (ha aa s Y H _ I h) λ v s1 ⟨x,H1,I1,r1,q1⟩=>bY (hb aa s1 Y H1 _ I1 q1) λ u s2 ⟨y,H2,I2,r2,q2⟩=>
  bY (ho aa s2 Y H2 x y v u _ I2 r1 r2 q2) λ c s3 ⟨z,H3,I3,r3,k,e,q3⟩=>?_) hm
 subst e;cases r3;exact Ra ⟨H3,I3,q3⟩
def tR(r r':R2)(ta tb tc:TE):TE:=fun Y H Q=>ta Y H λ x H1=>tb Y H1 λ y H2=>r x y H2 λ z H3=>∃k,z=.bl k/\
 (if k=true then tc Y H3 λ w' H4=>r' y w' H4 Q else Q (.bl false) H3)
theorem yM{op':CmpOp}{r r':R2}(ho:ie X (compareOp op) r)(ho':ie X (compareOp op') r')(ha:PE X a ta)(hb:PE X b tb)(hc:PE X c tc)
  (hm:lastMarks [op,op'] [b,c]=false:=by with_unfolding_all rfl):PE X (.Compare a [op,op'] [b,c] pos) (tR r r' ta tb tc):=by
 intro aa s Y H Q I h;refine Compare_chain (bY (ha aa s Y H _ I h) λ v s1 ⟨x,H1,I1,r1,q1⟩=>chain_link (bY (hb aa s1 Y H1 _ I1 q1) λ u s2 ⟨y,H2,I2,r2,q2⟩=>
  bY (ho aa s2 Y H2 x y v u _ I2 r1 r2 q2) λ d s3 ⟨z,H3,I3,r3,k,e,q3⟩=>?_)) hm
 subst e;cases r3;refine Ra ?_;cases k with
 | false=>exact ite_ff ⟨.bl false,H3,I3,rfl,q3⟩
 | true=>exact ite_tt (chain_last (bY (hc aa s3 Y H3 _ I3 q3) λ w' s4 ⟨z',H4,I4,r4,q4⟩=>ho' aa s4 Y H4 y z' u w' Q I4 r2 r4 q4))
theorem yN{op':CmpOp}{r r':R2}(ho:ie X (compareOp op) r)(ho':ie X (compareOp op') r')(ha:PE X a ta)(hb:PE X b tb)(hc:PE X c tc)
  (hm:lastMarks [op,op'] [b,c]=false:=by with_unfolding_all rfl):PT X (.Compare a [op,op'] [b,c] pos) (Ea (tR r r' ta tb tc)):=by
 intro aa s Y H Q I h;refine isTrue_chain (bY (ha aa s Y H _ I h) λ v s1 ⟨x,H1,I1,r1,q1⟩=>test_link (bY (hb aa s1 Y H1 _ I1 q1) λ u s2 ⟨y,H2,I2,r2,q2⟩=>
  bY (ho aa s2 Y H2 x y v u _ I2 r1 r2 q2) λ d s3 ⟨z,H3,I3,r3,k,e,q3⟩=>?_)) hm
 subst e;cases r3;refine Ra ?_;cases k with
 | false=>
  let⟨k',e',q'⟩:=q3;cases e';exact ite_ff ⟨H3,I3,q'⟩
 | true=>
  refine ite_tt (test_last (bY (hc aa s3 Y H3 _ I3 q3) λ w' s4 ⟨z',H4,I4,r4,q4⟩=>bY (ho' aa s4 Y H4 y z' u w' _ I4 r2 r4 q4) λ d' s5 ⟨z2,H5,I5,r5,k2,e2,q5⟩=>?_));subst e2;cases r5;exact Ra ⟨H5,I5,q5⟩
def F8(K:PySem.W.Frag)(x:V)(H:Hp)(k:Bool):Prop:=
 match x with
 | .non=>k=false
 | .bl b=>k=b
 | .int i=>k=(i != 0)
 | .str y=>y.length<=sizeLine/\k=((y.length:Int) != 0)
 | .byt y=>y.size<=sizeLine/\k=((y.size:Int) != 0)
 | .ref p=>(∃xs,gE K H p xs/\k=!xs.isEmpty)\/(∃xs,dI K H p xs/\k=!xs.isEmpty)\/∃kvs,H p=some (.dK kvs)/\k=!kvs.isEmpty
 | _=>False
theorem tS{κ:Type}{kvs:List (κ×V)}{vs:List (κ×Value)}(r:KV kvs vs):(!vs.isEmpty)=!kvs.isEmpty:=by
 cases r<;>rfl
theorem lY{xs:List V}{its:List Value}(r:Vals xs its):(!its.toArray.isEmpty)=!xs.isEmpty:=by
 cases r<;>simp
theorem jr:(sizeLine:Nat) < 2^63:=by rw[RN];decide
theorem F9:MO X (λ x H Q=>∃k,F8 X.K x H k/\Q k H):=by
 intro aa s Y H x v Q I rx h;let⟨k,e,q⟩:=h;have hl:=jr;have hs:sizeLine=16777216:=RN;cases x with
 | non=>
  cases rx;have e':k=false:=e;subst e';exact truthy_none ⟨H,I,q⟩
 | bl b=>
  cases rx;have e':k=b:=e;subst e';exact Ra ⟨H,I,q⟩
 | int i=>
  let⟨t,rfl⟩:=rx;have e':k=(i != 0):=e;subst e';exact PySem.P.truthy_int ⟨H,I,q⟩
 | str y=>
  let⟨t,rfl⟩:=rx;obtain⟨hy,e'⟩:y.length<=sizeLine/\k=((y.length:Int) != 0):=e;subst e';exact PySem.P.truthy_str 'o' ⟨H,I.tok _,q⟩
 | byt y=>
  let⟨t,rfl⟩:=rx;obtain⟨hy,e'⟩:y.size<=sizeLine/\k=((y.size:Int) != 0):=e;subst e';exact PySem.W.truthy_bytes 'o' ⟨H,I.tok _,q⟩
 | ref p=>
  cases rx;have e':(∃xs,gE X.K H p xs/\k=!xs.isEmpty)\/(∃xs,dI X.K H p xs/\k=!xs.isEmpty)\/∃kvs,H p=some (.dK kvs)/\k=!kvs.isEmpty:=e;rcases e' with⟨xs,hx,e'⟩ | ⟨xs,hx,e'⟩ | ⟨kvs,hx,e'⟩
  .subst e';let⟨its,r,pl,hz⟩:=I.list hx;have hlen:=r.length;exact wpAny_truthy_list pl.isList (by erw[Qq];omega) ⟨H,I.tok _,by rw[lY r];exact q⟩
  .subst e';let⟨its,r,pl,hz⟩:=I.tuple hx;have hlen:=r.length;exact truthy_tuple pl (by erw[Qq];omega) ⟨H,I.tok _,by rw[lY r];exact q⟩
  .subst e';obtain⟨hz,hS,vs,r,m⟩:kvs.length<=sizeLine/\(p==sysModules)=false/\∃vs,KV kvs vs/\s.heap.DictOf (bT X.prog X.w) p vs:=I.hok p _ hx;have hlen:kvs.length=vs.length:=Paired.length r;exact wpAny_truthy_dict hS m 'o' ⟨H,I.tok _,by rw[tS r];exact q⟩
 | _=>exact(show False from e).elim
theorem yO(ha:PE X a ta)(he:∀whole,isTrue a X.env whole=(do let v <-whole;standAt a.pos;holding [v] (truthy v))) :
  PT X a (fun Y H Q=>ta Y H λ x H'=>∃k,F8 X.K x H' k/\Q k H'):=by
 intro aa s Y H Q I h;exact isTrue_plain (bY (ha aa s Y H _ I h) λ v s1 ⟨x,H1,I1,r1,q1⟩=>F9 aa s1 Y H1 x v Q I1 r1 q1) (he _)
theorem tT:ie X (binaryOp .Add) (λ x y H Q=>∃i j,x=.str i/\y=.str j/\i.length+j.length<=sizeLine/\Q (.str (i++j)) H):=by
 intro aa s Y H x y v u Q I rx ry h;let⟨i,j,rfl,rfl,hz,q⟩:=h;let⟨t,rfl⟩:=rx;let⟨t',rfl⟩:=ry;exact add_str (λ t' tk=>⟨.str (i++j),H,I.tok _,⟨_,rfl⟩,q⟩) hz
theorem vals1{x:V}{us:List Value}(r:Vals [x] us):∃u,us=[u]/\RelV x u:=by
 cases r with
 | cons r1 r2=>cases r2;exact⟨_,rfl,r1⟩
theorem vals2{x y:V}{us:List Value}(r:Vals [x,y] us):∃u w',us=[u,w']/\RelV x u/\RelV y w':=by
 cases r with
 | cons r1 r2=>
  cases r2 with
  | cons r3 r4=>cases r4;exact⟨_,_,rfl,r1,r3⟩
theorem yP:bB X (.builtin "abs") (λ xs H Q=>∃i,xs=[.int i]/\Q (.int (if i < 0 then -i else i)) H):=by
 intro aa s Y H xs us Q I r h;let⟨i,rfl,q⟩:=h;let⟨u,rfl,t,rfl⟩:=vals1 r;exact call_abs_int λ u tk=>⟨.int (if i < 0 then -i else i),H,I.tok _,⟨_,rfl⟩,q⟩
theorem wX(hc:X.calm=true):bB X (.builtin "max") (λ xs H Q=>∃i j,xs=[.int i,.int j]/\Q (.int (if j>i then j else i)) H):=by
 intro aa s Y H xs us Q I r h;let⟨i,j,rfl,q⟩:=h;let⟨u,w',rfl,⟨t,rfl⟩,⟨t',rfl⟩⟩:=vals2 r;refine max_two_ints (I.ok.hd hc) λ h' tk k=>⟨_,H,I.kept k,?_,q⟩
 by_cases hj:j>i
 .rw[Qs hj,Qs hj];exact⟨_,rfl⟩
 .rw[Qz hj,Qz hj];exact⟨_,rfl⟩
theorem wY(hc:X.calm=true):bB X (.builtin "min") (λ xs H Q=>∃i j,xs=[.int i,.int j]/\Q (.int (if j < i then j else i)) H):=by
 intro aa s Y H xs us Q I r h;let⟨i,j,rfl,q⟩:=h;let⟨u,w',rfl,⟨t,rfl⟩,⟨t',rfl⟩⟩:=vals2 r;refine min_two_ints (I.ok.hd hc) λ h' tk k=>⟨_,H,I.kept k,?_,q⟩
 by_cases hj:j < i
 .rw[Qs hj,Qs hj];exact⟨_,rfl⟩
 .rw[Qz hj,Qz hj];exact⟨_,rfl⟩
theorem oz:bB X (.type "int") (λ xs H Q=>(∃i,xs=[.int i]/\Q (.int i) H)\/∃k,xs=[.bl k]/\Q (.int (if k then 1 else 0)) H):=by
 intro aa s Y H xs us Q I r h;rcases h with⟨i,rfl,q⟩ | ⟨k,rfl,q⟩
 .let⟨u,rfl,t,rfl⟩:=vals1 r;exact call_int_int ⟨.int i,H,I,⟨_,rfl⟩,q⟩
 .let⟨u,rfl,r1⟩:=vals1 r;cases r1;exact call_int_bool ⟨.int (if k then 1 else 0),H,I.tok _,⟨_,rfl⟩,q⟩
theorem q9:bB X (.builtin "divmod") (λ xs H Q=>∃i j,xs=[.int i,.int j]/\Jr i j/\∀p,H p=none->Q (.ref p) (upd H p (.tup [.int (i / j),.int (i%j)]))):=by
 intro aa s Y H xs us Q I r h;let⟨i,j,rfl,⟨h1,h2⟩,q⟩:=h;let⟨u,w',rfl,⟨t,rfl⟩,⟨t',rfl⟩⟩:=vals2 r;refine divmod_int 'o' ?_ (.inl (PyProof.noPylong_small 'o'));rw[Int.fdiv_eq_ediv_of_nonneg i 'o',Int.fmod_eq_emod_of_nonneg i 'o'];have hn:H s.heap.objs.size=none:=I.hok.fresh (Qk _);refine⟨.ref s.heap.objs.size,_,?_,rfl,q _ hn⟩;refine I.laid (λ b o e=>Qc _ e) (Qk _) ⟨by erw[QB,RS];rw[RN];decide,[.int (i / j) s.toks,.int (i%j) (s.toks+1)],.cons ⟨_,rfl⟩ %[|⟨_,rfl⟩],?_⟩;exact⟨_,Qm s.heap rfl,rfl,0,rfl⟩
end
end L2
namespace L2
open PySem PySem.Spec PyProof.Rows List
variable{C:Addr}
structure rm(h:Heap)(x dx C:Addr)(mA:Str->Option Value):Prop where
 obj:h.get? x=@(PySem.W.instObj C dx)
 ns:h.Ns1 dx mA
 ne:dx≠x
theorem wZ{h:Heap}{dx:Addr}{mA:Str->Option Value}(n:h.Ns1 dx mA):∃od,h.get? dx=some od/\∀name,PySem.W.lookIn name od=some (mA name):=by
 let⟨o,es,ep,ho,hd,hk,_,hm⟩:=n;refine⟨o,ho,λ name=>?_⟩;have e:=hm name;unfold nsFind findBy at e;rw[<-Array.find?_toList] at e;unfold PySem.W.lookIn;rw[hd];dsimp only;split
 .ext y q;rw[q] at e;exact RM some e
 .ext q;rw[q] at e;have a:es.toList.any (·.refKey)=false:=by
   rw[any_eq_false];intro y hy;let⟨z,t,hkey⟩:=hk y (Array.mem_toList_iff.mp hy);simp[DictEntry.refKey,hkey]
  have a':¬es.toList.any (·.refKey)=true:=by rw[a];exact Rc
  rw[Qz a'];exact RM some e
theorem rm.look{h:Heap}{x dx:Addr}{mA:Str->Option Value}(I:rm h x dx C mA):∃od,PySem.W.InstAt h x (PySem.W.instObj C dx) C (some od)/\∀name,PySem.W.lookIn name od=some (mA name):=
 let ⟨od,ho,hl⟩:=wZ I.ns
 ⟨od,⟨I.obj,rfl,rfl,ho⟩,hl⟩
section
variable{prog:Program}{w:World}{A:Around}{E:Value->Shared->Prop}{s:Shared}{K:PySem.W.Frag}{x dx C f:Addr}{mA:Str->Option Value}{name:Str}{v:Value}
theorem get_map{expr:Bool}{Q:Value->Shared->Prop}(X:K.In s.heap)(I:rm s.heap x dx C mA)(hg:PySem.W.plainGet K C name=true)(hh:PySem.W.hasDictIn K C=true)
  (ha:PySem.W.findIn K (.ref C) name=some none) (hv:mA name=some v) (hv':PySem.W.handedIn v=true) (h:Q v {s with toks:=s.toks+1}) :
  wpAny (model prog w) A (getAttr (.ref x) name expr) Q E s:=by
 let⟨od,P9,hl⟩:=I.look;exact PySem.W.get_value X P9 (PySem.W.plainGet_of hg).1 (PySem.W.findObj_own hh ha rfl (by rw[hl,hv])) hv' h
theorem yQ{pl:Sem Bool}{Q:Value×List Value->Shared->Prop}(X:K.In s.heap)(I:rm s.heap x dx C mA)(hg:PySem.W.plainGet K C name=true)
  (hf:PySem.W.findIn K (.ref C) name=@(some (.ref f))) (ht:PySem.W.isFn K (.ref f)=true) (hv:mA name=none) (h:Q (.ref f,[.ref x]) s) :
  wpAny (model prog w) A (getMethod (.ref x) name pl) Q E s:=by
 let⟨od,P9,hl⟩:=I.look;exact PySem.W.method_fn X P9 (PySem.W.plainGet_of hg).1 (PySem.W.plainGet_of hg).2 hf (Ro.mp ht) (by show (PySem.W.lookIn name od).map (·.isSome)=some false;rw[hl,hv];rfl) h
theorem BZ{ns:List Str}{Q:Unit->Shared->Prop}(X:K.In s.heap)(I:rm s.heap x dx C mA)
  (hs:PySem.W.findIn K (.ref C) "__setattr__"=@(some (.builtin "object.__setattr__"))) (hp:PySem.W.plainOver K C=true) (ht:PySem.W.takerIn K C name=some none) (hh:PySem.W.hasDictIn K C=true)
  (hw:PySem.Within mA ns) (hsz:ns.length<=sizeLine)
  (h:∀h',rm h' x dx C (λ y=>if y=name then some v else mA y)->Heap.SameBut dx s.heap h'->Q () {s with heap:=h',toks:=s.toks+2}) :
  wpAny (model prog w) A (setAttr (.ref x) name v) Q E s:=by
 let⟨od,P9,hl⟩:=I.look;refine PySem.W.set_plain X P9 hs (PySem.W.osa_open (s:={s with toks:=s.toks+1}) (r:=none) X P9 hp ht λ b=>?_);let⟨cd,hc,hd'⟩:=PySem.W.any_some hh;have hx:s.heap.get? x=some ⟨.ref C,some dx,.plain,#[]⟩:=I.obj;refine Qa (Qg (Qa (Qa (wpAny_loadPart hx (Qa (PySem.W.Looks.here (s:={s with toks:=s.toks+1}) (PySem.W.looks_clsIn X hc) ?_))))));rw[hd'];refine Qg (a:=some dx) (Qa (Qg (Qa ?_)));refine wpAny_nsSet1 (s:={s with toks:=s.toks+1}) I.ns λ h' hn2 hs2=>?_;let⟨oD,esD,epD,hoD,hdD,hcD⟩:=hn2.count (PySem.Within.cons name v hw);refine Qa (wpAny_lookBehind hoD (by rw[hdD];exact pastItsLine_dict (QC hcD (by rw[QB];omega))) ?_);exact Qg (h _ ⟨(hs2.2 _ (Ne.symm I.ne)).trans I.obj,hn2,I.ne⟩ hs2)
theorem yR{R:Result->Shared->Prop}{vs:List Value}{kw:List (Str×Value)}(X:K.In s.heap)(hm:PySem.W.makesIn K C=true)
  (hi:PySem.W.findIn K (.ref C) "__init__"=@(some (.ref f))) (hf:PySem.W.typeIn K (.ref f)=@(.type "function"))
  (h:codeAny (model prog w) (A.under (.builtin "type.__call__" ⟨.ref C::vs,kw⟩)) (.call (.ref f) ⟨.ref (s.heap.objs.size+1)::vs,kw⟩) (PySem.W.InitBack (s.heap.objs.size+1) R)
   {s with heap:=(s.heap.push PySem.W.emptyDict).push (PySem.W.instObj C s.heap.objs.size)}) :
  codeAny (model prog w) A (.call (.ref C) ⟨vs,kw⟩) R s:=by
 let⟨hh,g,d,t,os⟩:=s;exact PySem.W.make_core (PySem.W.makes_of X hm) (PySem.W.looks_findIn X hi) (λ self=>PySem.W.bind_fn X self hf) (.inl rfl) h
end
def gj(f:Str)(v:V):List (Str×V)->List (Str×V)
 | []=>[(f,v)]
 | (g,x)::r=>if g=f then (g,v)::r else (g,x)::gj f v r
theorem kK(f g:Str)(v:V):∀fs:List (Str×V),(gj f v fs).lookup g=if g=f then some v else fs.lookup g
 | []=>by
  show List.lookup g [(f,v)]=_
  by_cases h:g=f
  .have hb:(g==f)=true:=Ro.mpr h;erw[List.lookup,hb,Qs h]
  .have hb:(g==f)=false:=beq_eq_false_iff_ne.mpr h;erw[List.lookup,hb,Qz h]
 | (k,x)::r=>by
  have ih:=kK f g v r;rw[show gj f v ((k,x)::r)=(if k=f then (k,v)::r else (k,x)::gj f v r) from rfl]
  by_cases hk:k=f
  .rw[Qs hk]
   by_cases h:g=k
   .have hb:(g==k)=true:=Ro.mpr h;erw[List.lookup,hb,Qs (h.trans hk)]
   .have hb:(g==k)=false:=beq_eq_false_iff_ne.mpr h;erw[List.lookup,hb,Qz (λ e:g=f=>h (e.trans hk.symm))]
  .rw[Qz hk]
   by_cases h:g=k
   .have hb:(g==k)=true:=Ro.mpr h;erw[List.lookup,hb,Qz (λ e:g=f=>hk (h.symm.trans e))]
   .have hb:(g==k)=false:=beq_eq_false_iff_ne.mpr h;erw[List.lookup,hb];exact ih
theorem j0(f:Str)(v:V):∀fs:List (Str×V),f∈(gj f v fs).map (·.1)/\∀g,g∈fs.map (·.1)->g∈(gj f v fs).map (·.1)
 | []=>⟨by simp[gj],λ g h=>by simp at h⟩
 | (k,x)::r=>by
  let⟨i1,i2⟩:=j0 f v r;rw[show gj f v ((k,x)::r)=(if k=f then (k,v)::r else (k,x)::gj f v r) from rfl]
  by_cases hk:k=f
  .rw[Qs hk];subst hk;exact⟨by simp,λ g h=>by simpa using h⟩
  .rw[Qz hk];refine⟨?_,λ g h=>?_⟩
   .rw[QM];exact Qj _ i1
   .rw[QM] at h ⊢;rcases Qp.mp h with e | e
    .exact Qp.mpr (.inl e)
    .exact Qj _ (i2 g e)
theorem kL(f:Str)(v:V):∀fs:List (Str×V),(gj f v fs).length<=fs.length+1
 | []=>by simp[gj]
 | (k,x)::r=>by
  have ih:=kL f v r;rw[show gj f v ((k,x)::r)=(if k=f then (k,v)::r else (k,x)::gj f v r) from rfl]
  by_cases hk:k=f
  .rw[Qs hk,QB,QB];omega
  .rw[Qz hk,QB,QB];omega
theorem iF.some_of{v:V}{o:Option Value}(r:iF (some v) o):∃u,o=some u/\RelV v u:=by
 cases o with
 | none=>exact(show False from r).elim
 | some u=>exact⟨u,rfl,r⟩
theorem iF.none_of{o:Option Value}(r:iF none o):o=none:=by
 cases o with
 | none=>rfl
 | some u=>exact(show False from r).elim
theorem w4{v:V}{u:Value}(r:RelV v u):PySem.W.handedIn u=true:=by
 cases v with
 | non=>cases (show u=Value.none from r);rfl
 | bl b=>cases (show u=Value.bool b from r);rfl
 | int i=>let⟨t,e⟩:=(show ∃t,u=Value.int i t from r);cases e;rfl
 | str x=>let⟨t,e⟩:=(show ∃t,u=Value.str x t from r);cases e;rfl
 | byt b=>let⟨t,e⟩:=(show ∃t,u=Value.bytes b t from r);cases e;rfl
 | flt b=>let⟨t,e⟩:=(show ∃t,u=Value.float b t from r);cases e;rfl
 | ref a=>cases (show u=Value.ref a from r);rfl
 | ty n=>cases (show u=Value.type n from r);rfl
section
variable{P:Program}{w:World}{H H':Hp}{h h':Heap}{a C dx:Addr}{fs fs':List (Str×V)}
theorem B0(hok:iG P w H h)(e:H a=@(.ins C dx fs)):∃mA,rm h a dx C mA/\(∀f,iF (fs.lookup f) (mA f))/\PySem.Within mA (fs.map (·.1))/\fs.length<=1000/\H dx=some (.own a):=by
 let⟨d,z,ne,ob,mA,n,r,q⟩:=(show bU P w H h a (.ins C dx fs) from hok a _ e);exact⟨mA,⟨ob,n,ne⟩,r,q,z,d⟩
end
structure yt(K:PySem.W.Frag)(C:Addr):Prop where
 pg:PySem.W.plainGet K C Str.empty=true
 hd:PySem.W.hasDictIn K C=true
 po:PySem.W.plainOver K C=true
 sa:PySem.W.findIn K (.ref C) "__setattr__"=@(some (.builtin "object.__setattr__"))
theorem yt.get{K:PySem.W.Frag}(c:yt K C)(f:Str):PySem.W.plainGet K C f=true:=c.pg
def iJ(K:PySem.W.Frag)(C:Addr)(f:Str):Prop:=PySem.W.findIn K (.ref C) f=some none
theorem iJ.Jx{K:PySem.W.Frag}{f:Str}(n:iJ K C f):PySem.W.takerIn K C f=some none:=by
 unfold PySem.W.takerIn;rw[show PySem.W.findIn K (.ref C) f=some none from n];rfl
structure Meth(K:PySem.W.Frag)(C:Addr)(m:Str)(f:Addr):Prop where
 at_:PySem.W.findIn K (.ref C) m=@(some (.ref f))
 fn:PySem.W.isFn K (.ref f)=true
 kp:PySem.W.keepIn K (.ref f)=true
section
variable{X:Cx}{aa:List (Addr×Obj)}{Y:St}{H:Hp}{s:Shared}{a C dx:Addr}{fs:List (Str×V)}{f:Str}{v:V}{A:Around}{E:Value->Shared->Prop}
theorem tU{y:V}{u:Value}{Q:Unit->Shared->Prop}(I:Inv X aa Y H s)(e:H a=@(.ins C dx fs))(c:yt X.K C)(n:iJ X.K C f)(hl:fs.length < 1000)(ry:RelV y u)
  (h:∀s',Inv X aa Y (upd H a (.ins C dx (gj f y fs))) s'->Q () s'):wpAny (model X.prog X.w) A (setAttr (.ref a) f u) Q E s:=by
 let⟨mA,O,r,wi,_,ho⟩:=B0 I.hok e;have hz:(fs.map (·.1)).length<=sizeLine:=by rw[Qi,RN];omega
 refine BZ I.tN O c.sa c.po n.Jx c.hd wi hz λ h' O' sb=>h _ ?_;have hd:∃o,h'.get? dx=some o:=let ⟨o,_,_,e',_⟩:=O'.ns;⟨o,e'⟩;refine I.write (x:=a) (e:=dx) (by rw[e];exact True.intro) (.inr ho) (λ b q hb z=>(sb.2 b hb).trans z) hd ?_;refine⟨by rw[aq O.ne];exact ho,?_,O.ne,O'.obj,_,O'.ns,λ g=>?_,λ g hg=>?_⟩
 .have:=kL f y fs;omega
 .show iF ((gj f y fs).lookup g) (if g=f then some u else mA g);rw[kK]
  by_cases q:g=f
  .rw[Qs q,Qs q];exact ry
  .rw[Qz q,Qz q];exact r g
 .by_cases q:g=f
  .rw[q];exact(j0 f y fs).1
  .refine(j0 f y fs).2 g (wi g λ z=>hg ?_);show (if g=f then some u else mA g)=none;rw[Qz q];exact z
theorem Inv.made(I:Inv X aa Y H s):Inv X aa Y (upd (upd H s.heap.objs.size (.own (s.heap.objs.size+1))) (s.heap.objs.size+1) (.ins C s.heap.objs.size []))
  {s with heap:=(s.heap.push PySem.W.emptyDict).push (PySem.W.instObj C s.heap.objs.size)}:=by
 have e1:(s.heap.push PySem.W.emptyDict).get? s.heap.objs.size=some PySem.W.emptyDict:=Qm s.heap rfl;have e2:((s.heap.push PySem.W.emptyDict).push (PySem.W.instObj C s.heap.objs.size)).get? (s.heap.objs.size+1)=some (PySem.W.instObj C s.heap.objs.size):=by
  have:=Qm (s.heap.push PySem.W.emptyDict) (o:=PySem.W.instObj C s.heap.objs.size) rfl
  rwa [QJ] at this
 have e3:(s.heap.push PySem.W.emptyDict).Ns s.heap.objs.size (λ _=>none):=⟨PySem.W.emptyDict,#[],_,e1,rfl,(λ e he=>absurd he 's'),λ _=>rfl⟩;have I1:=I.laid (a:=s.heap.objs.size) (o:=.own (s.heap.objs.size+1)) (h':=s.heap.push PySem.W.emptyDict) (t':=s.toks) (λ b u q=>Qc _ q) (Qk _) ⟨_,e1⟩;refine I1.laid (a:=s.heap.objs.size+1) (o:=.ins C s.heap.objs.size []) (t':=s.toks) (λ b u q=>Qc _ q) (Nat.le_of_eq (QJ _ _)) ?_;have ne:s.heap.objs.size≠s.heap.objs.size+1:=Ql (RE _);refine⟨by rw[aq ne,aJ],RC _,ne,e2,λ _=>none,(Heap.Ns1.of_empty e3).at λ o q=>Qc _ q,λ _=>True.intro,λ y hy=>absurd rfl hy⟩
theorem B3{prog:Program}{w:World}{env:Env}{e:Expr}{pos:Pos}{Q:Value->Shared->Prop}(hb:attributeBase e f env (eval e env)=eval e env)
  (h:wpAny (model prog w) A (eval e env) (λ o s₁=>wpAny (model prog w) A (getAttr o f true) Q E s₁) E s):wpAny (model prog w) A (eval (.Attribute e f pos) env) Q E s:=
 Attribute_any_ h (by rw[arm_eval_Attribute,hb])
end
def MP(K:PySem.W.Frag)(ta tv:TE)(f:Str):TS:=λ D Y H=>tv Y H λ y H1=>ta Y H1 λ x H2=>∃a C dx fs,x=.ref a/\H2 a=some (.ins C dx fs)/\yt K C/\iJ K C f/\fs.length < 1000/\
 D.nx Y (upd H2 a (.ins C dx (gj f y fs)))
section
variable{X:Cx}{o e value:Expr}{f:Str}{pos pos' tpos:Pos}{ta tv:TE}
theorem Ga(ha:PE X o ta)(hv:PE X value tv)(hs:swapsWith value @(.Attribute o f pos') pos.line X.env=pure false):PS X (.Assign [.Attribute o f pos'] value pos) (MP X.K ta tv f):=by
 intro aa s Y H D I h;refine plainObj_wpAny_Assign_Attribute (bY (hv aa s Y H _ I h) λ u s1 ⟨y,H1,I1,ry,q⟩=>bY (ha aa s1 Y H1 _ I1 q) λ ov s2 ⟨x,H2,I2,rx,a,C,dx,fs,ex,ea,c,n,l,q2⟩=>?_) hs;subst ex;obtain rfl:ov=Value.ref a:=rx;exact tU I2 ea c n l ry λ s3 I3=>⟨Y,_,I3,q2⟩
end
end L2
namespace L2
open PySem PySem.Spec PyProof.Rows List
variable{C f:Addr}{H:Hp}{K:PySem.W.Frag}{P:Program}{Q:VK}{base:Heap}{kindOf:Str->Option NameKind}{kw:List (Str×Value)}{mg:Str->Option Value}{s:Shared}{us:List Value}{vs:List V}{w:World}
structure eK(k:Nat)(A:Around):Prop where
 hd:A.handled=none
 dp:A.depth+3*k+5 < recursionLimit
 un:A.units+16*k+200 < cLine
 gd:A.guards=some []:=by rfl
theorem eK.mono{j k:Nat}{A:Around}(r:eK k A)(h:j<=k):eK j A:=⟨r.hd,by have:=r.dp;omega,by have:=r.un;omega,r.gd⟩
theorem eK.deeper{k:Nat}{A:Around}(r:eK (k+1) A)(env:Env):eK k (A.deeper env):=
 ⟨r.hd,by have:=r.dp;show A.depth+1+3*k+5 < _;omega,by have:=r.un;show A.units+3+16*k+200 < _;omega,r.gd⟩
theorem tV{A:Around}:(A.under (.builtin "type.__call__" ⟨.ref C::us,kw⟩)).depth=A.depth+1:=by
 first | rfl | simp[Around.under,Code.weight,Code.isCreation,Code.isGuard,Code.isCaller,Code.frames,Code.isFrame,guardIds]
theorem tX{A:Around}:(A.under (.builtin "type.__call__" ⟨.ref C::us,kw⟩)).units=A.units+1:=by
 first | rfl | simp[Around.under,Code.cUnits,Code.frames,Code.isFrame]
theorem rq{A:Around}:(A.under (.builtin "type.__call__" ⟨.ref C::us,kw⟩)).guards=A.guards:=by
 first | rfl | (simp[Around.under,Code.guards,Code.isGuard,guardIds,pushGuards];done) | (cases h:A.guards<;>simp[Around.under,Code.guards,Code.isGuard,guardIds,pushGuards,h])
theorem eK.make{k:Nat}{A:Around}(r:eK (k+1) A)(C:Addr)(us:List Value)(kw:List (Str×Value)):eK k (A.under (.builtin "type.__call__" ⟨.ref C::us,kw⟩)):=
 ⟨r.hd,by have:=r.dp;rw[tV];omega,by have:=r.un;rw[tX];omega,by rw[rq];exact r.gd⟩
theorem eK.depth{k:Nat}{A:Around}(r:eK k A):A.depth < recursionLimit:=by have:=r.dp;omega
theorem eK.units{k:Nat}{A:Around}(r:eK k A):A.units+64 < cLine:=by have:=r.un;omega
def B4:TA:=λ _ H Q=>Q [] H
def Ec(ta:TE)(tr:TA):TA:=fun Y H Q=>ta Y H λ x H1=>tr Y H1 λ xs H2=>Q (x::xs) H2
section
variable{X:Cx}{e:Expr}{es:List Expr}{te:TE}{t:TA}{pos:Pos}
theorem gJ:PA X [] B4:=λ _ _ _ _ H Q I h=>Calls.spliced_nil ⟨[],H,I,.nil,h⟩
theorem ee(ha:PE X e te)(hr:PA X es t)(hs:starEach (e::es) X.env=(false,eval e X.env)::starEach es X.env:=by rfl):PA X (e::es) (Ec te t):=by
 intro pos aa s Y H Q I h;rw[hs];show wpAny _ _ (spliced ((false,eval e X.env)::backTo pos (starEach es X.env))) _ _ s;refine Calls.spliced_cons (bY (ha aa s Y H _ I h) λ u s1 ⟨x,H1,I1,r1,q1⟩=>?_);exact bY (hr pos aa s1 Y H1 _ I1 q1) λ us s2 ⟨xs,H2,I2,r2,q2⟩=>⟨x::xs,H2,I2,.cons r1 r2,q2⟩
def MQ(t:TA):TE:=fun Y H Q=>t Y H λ xs H1=>xs.length<=sizeLine/\∀p,H1 p=none->Q (.ref p) (upd H1 p (.tup xs))
def MR(t:TA):TE:=fun Y H Q=>t Y H λ xs H1=>xs.length<=sizeLine/\∀p,H1 p=none->Q (.ref p) (upd H1 p (.lst xs))
theorem Gb{x1}(h:PA X es t):PE X (.Tuple es x1 pos) (MQ t):=by
 intro aa s Y H Q I hq;refine wpAny_Tuple_spliced (bY (h pos aa s Y H _ I hq) λ us s1 ⟨xs,H1,I1,r,z,q⟩=>⟨by rw[<-r.length];exact z,?_⟩);have hf:H1 s1.heap.objs.size=none:=I1.hok.fresh (Qk _);refine⟨.ref s1.heap.objs.size,upd H1 s1.heap.objs.size (.tup xs),I1.laid (t':=s1.toks) (λ b u e=>Qc _ e) (Qk _) ?_,rfl,q _ hf⟩;exact⟨z,us,r,⟨_,Qm _ rfl,rfl,_,rfl⟩⟩
theorem Gd(h:PA X es t):PE X (.List es pos) (MR t):=by
 intro aa s Y H Q I hq;refine wpAny_List_spliced (bY (h pos aa s Y H _ I hq) λ us s1 ⟨xs,H1,I1,r,z,q⟩=>⟨by rw[<-r.length];exact z,?_⟩);have hf:H1 s1.heap.objs.size=none:=I1.hok.fresh (Qk _);refine⟨.ref s1.heap.objs.size,upd H1 s1.heap.objs.size (.lst xs),I1.laid (t':=s1.toks) (λ b u e=>Qc _ e) (Qk _) ?_,rfl,q _ hf⟩;exact⟨z,us,0,r,Qm _ rfl⟩
end
abbrev Sp:=List V->Hp->VK->XK->Prop
abbrev yu:=List Env->Hp->Shared->XK->Value->Shared->Prop
structure tY(P:Program)(w:World)(K:PySem.W.Frag)(mg:Str->Option Value)(base:Heap)(A:Around)(outer:List Env)(s:Shared)(H:Hp):Prop where
 frames:A.frames=some outer
 mod:Mod K mg base
 bs:∀b o,base.get? b=some o->s.heap.get? b=some o/\H b=none
 bsz:base.objs.size<=s.heap.objs.size
 kY:s.heap.FunFrames base outer
 frf:∀b∈frs outer,H b=none
 hok:iG P w H s.heap
 bare:AllBare s.gens
def CE(outer:List Env)(P:Program)(w:World)(H:Hp)(s:Shared)(Q:VK)(u:Value)(s':Shared):Prop:=
 ∃v H',s'.os=s.os/\AllBare s'.gens/\Un (frs outer) [] H H' s.heap s'.heap/\iG P w H' s'.heap/\RelV v u/\Q v H'
def CR(CX:yu)(outer:List Env)(P:Program)(w:World)(H:Hp)(s:Shared)(Q:VK)(E:XK)(r:Result)(s':Shared):Prop:=
 match r with
 | .ok (.ret u)=>CE outer P w H s Q u s'
 | .ok _=>False
 | .error e=>CX outer H s E e s'
structure gX(P:Program)(w:World)(K:PySem.W.Frag)(mg:Str->Option Value)(base:Heap)(CX:yu)(k:Nat)(f:Addr)(fd:FuncData)(ps:List Str)(sp:Sp):Prop where
 len:∀vs H Q E,sp vs H Q E->vs.length=ps.length
 run:∀(A:Around) (outer:List Env) (s:Shared) (H:Hp) (args:Args) (us:List Value) (vs:List V) (Q:VK) (E:XK),eK k A->tY P w K mg base A outer s H->BindsTo s fd args (ps.zip us)->Vals vs us->sp vs H Q E->
  codeAny (model P w) A (.call (.ref f) args) (CR CX outer P w H s Q E) s
theorem gX.imp{CX:yu}{k:Nat}{fd:FuncData}{ps:List Str}{sp N5:Sp}(F:gX P w K mg base CX k f fd ps sp)
  (h:∀vs H Q E,N5 vs H Q E->sp vs H Q E):gX P w K mg base CX k f fd ps N5:=
 ⟨λ vs H Q E q=>F.len vs H Q E (h _ _ _ _ q),λ A outer s H args us vs Q E hr he hb hv hs=>F.run A outer s H args us vs Q E hr he hb hv (h _ _ _ _ hs)⟩
theorem tY.make{A:Around}{outer:List Env}(e:tY P w K mg base A outer s H)(C:Addr)(us:List Value)(kw:List (Str×Value)) :
  tY P w K mg base (A.under (.builtin "type.__call__" ⟨.ref C::us,kw⟩)) outer s H:=⟨by first | exact e.frames | (simpa[Around.under,Code.envs,Code.isFrame,pushEnvs] using e.frames),e.mod,e.bs,e.bsz,e.kY,e.frf,e.hok,e.bare⟩
section
variable{X:Cx}{aa:List (Addr×Obj)}{Y:St}{H:Hp}{s s':Shared}
theorem Inv.Jy(I:Inv X aa Y H s):tY X.prog X.w X.K X.mg X.base X.A X.stack s H:=
 ⟨I.ok.frames,I.ok.mod,I.bs,QC I.ok.bsz I.sz,I.stack,I.u7,I.hok,I.bare⟩
theorem Inv.after{u:Value}(I:Inv X aa Y H s)(h:CE X.stack X.prog X.w H s Q u s'):EP X aa Y Q u s':=by
 let⟨v,H',os,bare,un,hok,r,q⟩:=h;let⟨hh,g,d,t,os'⟩:=s';obtain rfl:os'=s.os:=os;exact⟨v,H',I.call (h':=hh) (g':=g) (d':=d) (t':=t) (ch:=[]) un hok bare (λ b z=>absurd z 's'),r,q⟩
end
def Ed(sp:Sp)(rC:List V)(E:XK)(t:TA):TE:=fun Y H Q=>t Y H λ vs H1=>sp (vs++rC) H1 Q E
def Jz(C:Addr)(sp:Sp)(rC:List V)(E:XK)(t:TA):TE:=fun Y H Q=>t Y H λ vs H1=>∀x dx,H1 x=none->H1 dx=none->dx≠x->
 sp (.ref x::(vs++rC)) (upd (upd H1 dx (.own x)) x (.ins C dx [])) (λ v H2=>v=.non/\Q (.ref x) H2) E
def Binds(K:PySem.W.Frag)(fd:FuncData)(ps:List Str)(ds:List Value):Prop:=
 ∀(s:Shared) (us:List Value),K.In s.heap->(us++ds).length=ps.length->BindsTo s fd ⟨us,[]⟩ (ps.zip (us++ds))
theorem Binds.all{fd:FuncData}{ps:List Str}(h:∀us:List Value,us.length=ps.length->bindArgs fd ⟨us,[]⟩=pure (ps.zip us)):Binds K fd ps []:=λ s us _ hl=>by
 rw[append_nil] at hl ⊢;exact .of_eq (h us hl)
def Passes(CX:yu)(X:Cx)(E:XK):Prop:=∀(aa:List (Addr×Obj)) (Y:St) (H:Hp) (s:Shared) (e:Value) (s':Shared),Inv X aa Y H s->CX X.stack H s E e s'->X.xe e s'
section
variable{X:Cx}{CX:yu}{k:Nat}{f C:Addr}{fd:FuncData}{ps:List Str}{sp:Sp}{rC:List V}{ds:List Value}{E:XK}{x m:Str}{p pos apos:Pos}{e o:Expr}{es:List Expr}{ta:TE}{t:TA}
theorem pK{aa:List (Addr×Obj)}{Y:St}(F:gX X.prog X.w X.K X.mg X.base CX k f fd ps sp)(hr:eK k X.A)(hb:Binds X.K fd ps ds)(hd:Vals rC ds)(hx:Passes CX X E)
  (I:Inv X aa Y H s) (r:Vals vs us) (h:sp (vs++rC) H Q E):wpAny (model X.prog X.w) X.A (call (.ref f) us) (EP X aa Y Q) X.xe s:=by
 have r2:Vals (vs++rC) (us++ds):=r.append hd;have hl:(us++ds).length=ps.length:=by rw[<-r2.length];exact F.len _ _ _ _ h
 refine wpAny_call (RU (F.run X.A X.stack s H ⟨us,[]⟩ (us++ds) (vs++rC) Q E hr I.Jy (hb s us I.tN hl) r2 h) λ r s' hq=>?_);cases r with
 | error e=>exact hx aa Y H s e s' I hq
 | ok fl=>
  cases fl with
  | ret u=>exact I.after hq
  | next=>exact False.elim hq
  | brk=>exact False.elim hq
  | cont=>exact False.elim hq
theorem B5(F:gX X.prog X.w X.K X.mg X.base CX k f fd ps sp)(hr:eK k X.A)(hg:Gl X x)(hm:X.mg x=@(.ref f))(hk:PySem.W.keepIn X.K (.ref f)=true)(hb:Binds X.K fd ps ds)(hd:Vals rC ds)(hx:Passes CX X E)
  (ha:PA X (e::es) t) (hdb:(x==("__debug__":Str))=false:=by decide) (he:starEach (e::es) X.env=(false,eval e X.env)::starEach es X.env:=by rfl) (hpl:(backTo pos (starEach es X.env)).any (·.1)=false:=by rfl) :
  PE X (.Call (.Name x p) (e::es) [] pos) (Ed sp rC E t):=by
 intro aa s Y H Q I h;refine RG (lE I hg hm ?_ hdb);refine PySem.W.callWith_K (h₀:=X.base) I.ok.mod.kin hk (bY (ha pos aa s Y H _ I h) λ us s1 ⟨vs,H1,I1,r,q⟩=>⟨I1.tN,?_⟩) he hpl;exact pK F hr hb hd hx I1 r q
theorem yS(F:gX X.prog X.w X.K X.mg X.base CX k f fd ps sp)(hr:eK k X.A)(hg:Gl X x)(hm:X.mg x=@(.ref f))(hk:PySem.W.keepIn X.K (.ref f)=true)(hb:Binds X.K fd ps ds)(hd:Vals rC ds)(hx:Passes CX X E)
  (hdb:(x==("__debug__":Str))=false:=by decide):PE X (.Call (.Name x p) [] [] pos) (Ed sp rC E B4):=by
 intro aa s Y H Q I h;refine RG (lE I hg hm ?_ hdb);exact PySem.W.callWith_K0 I.tN hk (pK (us:=[]) F hr hb hd hx I .nil h)
structure Mk(K:PySem.W.Frag)(C f:Addr):Prop where
 makes:PySem.W.makesIn K C=true
 init:PySem.W.findIn K (.ref C) "__init__"=@(some (.ref f))
 fn:PySem.W.isFn K (.ref f)=true
 kp:PySem.W.keepIn K (.ref C)=true
theorem yT{aa:List (Addr×Obj)}{Y:St}(M:Mk X.K C f)(F:gX X.prog X.w X.K X.mg X.base CX k f fd ps sp)(hr:eK (k+1) X.A)(hb:Binds X.K fd ps ds)(hd:Vals rC ds)
  (hx:Passes CX X E) (I:Inv X aa Y H s) (r:Vals vs us)
  (h:∀x dx,H x=none->H dx=none->dx≠x->sp (.ref x::(vs++rC)) (upd (upd H dx (.own x)) x (.ins C dx [])) (λ v H2=>v=.non/\Q (.ref x) H2) E) :
  wpAny (model X.prog X.w) X.A (call (.ref C) us) (EP X aa Y Q) X.xe s:=by
 have hq:=h (s.heap.objs.size+1) s.heap.objs.size (I.hok.fresh (Nat.le_succ _)) (I.hok.fresh (Qk _)) (Ql (RE _));have I2:=Inv.made (C:=C) I;have r2:Vals (V.ref (s.heap.objs.size+1)::(vs++rC)) (Value.ref (s.heap.objs.size+1)::(us++ds)):=.cons rfl (r.append hd);have hl:(Value.ref (s.heap.objs.size+1)::us++ds).length=ps.length:=by
  have e:=r2.length;rw[F.len _ _ _ _ hq] at e;exact e.symm
 refine wpAny_call (yR (f:=f) I.tN M.makes M.init (Ro.mp M.fn) (RU (F.run _ X.stack _ _ ⟨Value.ref (s.heap.objs.size+1)::us,[]⟩ (Value.ref (s.heap.objs.size+1)::(us++ds)) _ _ E (hr.make C us [])
  (I2.Jy.make C us []) (hb _ (Value.ref (s.heap.objs.size+1)::us) I2.tN hl) r2 hq) λ r s' hq'=>?_))
 cases r with
 | error e=>exact hx aa Y _ _ e s' I2 hq'
 | ok fl=>
  cases fl with
  | ret u=>
   let⟨v,H',I3,rv,ev,q3⟩:=I2.after hq';subst ev;exact⟨rv,⟨V.ref (s.heap.objs.size+1),H',I3,rfl,q3⟩⟩
  | next=>exact False.elim hq'
  | brk=>exact False.elim hq'
  | cont=>exact False.elim hq'
theorem B6(M:Mk X.K C f)(F:gX X.prog X.w X.K X.mg X.base CX k f fd ps sp)(hr:eK (k+1) X.A)(hg:Gl X x)(hm:X.mg x=@(.ref C))(hb:Binds X.K fd ps ds)(hd:Vals rC ds)(hx:Passes CX X E)
  (ha:PA X (e::es) t) (hdb:(x==("__debug__":Str))=false:=by decide) (he:starEach (e::es) X.env=(false,eval e X.env)::starEach es X.env:=by rfl) (hpl:(backTo pos (starEach es X.env)).any (·.1)=false:=by rfl) :
  PE X (.Call (.Name x p) (e::es) [] pos) (Jz C sp rC E t):=by
 intro aa s Y H Q I h;refine RG (lE I hg hm ?_ hdb);refine PySem.W.callWith_K (h₀:=X.base) I.ok.mod.kin M.kp (bY (ha pos aa s Y H _ I h) λ us s1 ⟨vs,H1,I1,r,q⟩=>⟨I1.tN,?_⟩) he hpl;exact yT M F hr hb hd hx I1 r q
end
def PK(X:Cx)(kws:List Keyword)(t:TA):Prop:=
 ∀(pos:Pos) (aa:List (Addr×Obj)) (s:Shared) (Y:St) (H:Hp) (Q:List V->Hp->Prop),Inv X aa Y H s->t Y H Q->wpAny (model X.prog X.w) X.A (evalAll ((backToKw pos (keywordEach kws X.env)).map (·.2))) (AP X aa Y Q) X.xe s
section
variable{X:Cx}{CX:yu}{k:Nat}{f C:Addr}{fd:FuncData}{ps ks:List Str}{sp:Sp}{E:XK}{x m:Str}{p pos apos kpos:Pos}{e o:Expr}{es:List Expr}{kws:List Keyword}{te ta:TE}{t tk:TA}{nm:Option Str}
theorem Ge:PK X [] B4:=λ _ _ _ _ H Q I h=>wpAny_evalAll_nil ⟨[],H,I,.nil,h⟩
theorem B7(ha:PE X e te)(hr:PK X kws t):PK X (⟨nm,e,kpos⟩::kws) (Ec te t):=by
 intro pos aa s Y H Q I h;show wpAny _ _ (evalAll ((do let v <-eval e X.env;standAt pos;pure v)::(backToKw pos (keywordEach kws X.env)).map (·.2))) _ _ s;refine wpAny_evalAll_cons (Qa (bY (ha aa s Y H _ I h) λ u s1 ⟨x,H1,I1,r1,q1⟩=>Qa (RK (Qg ?_))));exact bY (hr pos aa s1 Y H1 _ I1 q1) λ us s2 ⟨xs,H2,I2,r2,q2⟩=>⟨x::xs,H2,I2,.cons r1 r2,q2⟩
variable{g:List Value->List Value->List Value}{gV:List V->List V->List V}
end
structure lF(N P:List Str)(sc:Scope):Prop where
 kind:sc.kind=.function
 co:sc.isCoroutine=false
 gen:sc.isGenerator=false
 nd:N.Nodup
 pre:N.take P.length=P
 par:∀x∈P,sc.names.lookup x=some .local\/sc.names.lookup x=some .cell
 nofree:∀y∈sc.names,y.2≠.free
theorem oA{x:Str}:∀{binds:List (Str×Value)} {m:Str->Option Value},(∀v,(x,v)∉binds)->bindL kindOf binds m x=m x
 | [],_,_=>rfl
 | (n,v)::r,m,h=>by
  unfold bindL;rw[oA λ w hw=>h w (Qj _ hw)];split
  .have:x≠n:=by rintro rfl;exact h v Qu
   simp[this]
  .rfl
theorem oB{x:Str}:∀{binds:List (Str×Value)} {m:Str->Option Value},(∀v,(x,v)∉binds)->bindC kindOf binds m x=m x
 | [],_,_=>rfl
 | (n,v)::r,m,h=>by
  unfold bindC;rw[oB λ w hw=>h w (Qj _ hw)];split
  .rfl
  .have:x≠n:=by rintro rfl;exact h v Qu
   simp[this]
theorem oE{x:Str}{v:Value}:∀{P:List Str} {vs:List Value} {i:Nat} {m:Str->Option Value},P.Nodup->P[i]?=some x->vs[i]?=some v->kindOf x=some .local->
  bindL kindOf (P.zip vs) m x=some v
 | [],_,_,_,_,h,_,_=>by simp at h
 | _::_,[],_,_,_,_,h,_=>by simp at h
 | p::P,w::vs,0,m,nd,h1,h2,hk=>by
  simp at h1 h2;subst h1;subst h2;show bindL kindOf ((p,w)::P.zip vs) m p=_;unfold bindL;rw[oA λ v hv=>(RT.mp nd).1 (of_mem_zip hv).1,Qs hk];simp
 | p::P,w::vs,i+1,m,nd,h1,h2,hk=>by
  show bindL kindOf ((p,w)::P.zip vs) m x=_;unfold bindL;exact oE (i:=i) (RT.mp nd).2 (by simpa using h1) (by simpa using h2) hk
theorem oF{x:Str}{v:Value}:∀{P:List Str} {vs:List Value} {i:Nat} {m:Str->Option Value},P.Nodup->P[i]?=some x->vs[i]?=some v->kindOf x≠some .local->
  bindC kindOf (P.zip vs) m x=some v
 | [],_,_,_,_,h,_,_=>by simp at h
 | _::_,[],_,_,_,_,h,_=>by simp at h
 | p::P,w::vs,0,m,nd,h1,h2,hk=>by
  simp at h1 h2;subst h1;subst h2;show bindC kindOf ((p,w)::P.zip vs) m p=_;unfold bindC;rw[oB λ v hv=>(RT.mp nd).1 (of_mem_zip hv).1,Qz hk];simp
 | p::P,w::vs,i+1,m,nd,h1,h2,hk=>by
  show bindC kindOf ((p,w)::P.zip vs) m x=_;unfold bindC;exact oF (i:=i) (RT.mp nd).2 (by simpa using h1) (by simpa using h2) hk
def start(N:List Str)(vs:List V):St:=vs.map some++List.replicate (N.length - vs.length) none
def tZ(CX:yu)(P:Program)(w:World)(K:PySem.W.Frag)(mg:Str->Option Value)(base:Heap)(N:List Str)(qual:Str)(scope:Scope)(f:Addr)(cd:Value)(A:Around)(outer:List Env)(s:Shared)(H:Hp)(E:XK):Cx where
 prog:=P
 w:=w
 K:=K
 mg:=mg
 base:=base
 A:=A.deeper (envOfC qual scope s.heap.objs.size f cd)
 N:=N
 s₀:=s
 H₀:=H
 env:=envOfC qual scope s.heap.objs.size f cd
 outer:=outer
 stack:=envOfC qual scope s.heap.objs.size f cd::outer
 ex:=[]
 calm:=true
 fn:=λ _=>true
 pn:=[]
 xe:=λ e s'=>wpAny (model P w) (A.deeper (envOfC qual scope s.heap.objs.size f cd)) (leaving (envOfC qual scope s.heap.objs.size f cd) e) (λ _ s''=>CX outer H s E e s'') (λ e' s''=>CX outer H s E e' s'') s'
theorem rE{sc:Scope}{n:Nat}{x:Str}(h:sc.names.lookup x=some .cell):∃c,(cellsFrom n sc.names []).lookup x=some c:=by
 have q:=PySem.W.cellsFrom_some sc.names n [] (.inl h);exact Option.isSome_iff_exists.mp q
theorem w9{CX:yu}{N ps:List Str}{qual:Str}{scope:Scope}{cd:Value}{A:Around}{outer:List Env}{s1:Shared}{E:XK}
  (S:lF N ps scope) (hd:A.handled=none) (e0:tY P w K mg base A outer s H) (hl:vs.length=ps.length) (r:Vals vs us)
  (x:InCallC s s.heap.objs.size (bindL (envOfC qual scope s.heap.objs.size f cd).kindOf (ps.zip us) λ _=>none) (cellsFrom (s.heap.objs.size+1) scope.names []) (bindC (envOfC qual scope s.heap.objs.size f cd).kindOf (ps.zip us) λ _=>none) s1) :
  Inv (tZ CX P w K mg base N qual scope f cd A outer s H E) [] (start N vs) H s1:=by
 have hpl:ps.length<=N.length:=by have:=RM List.length S.pre;rw[Ri] at this;omega
 let⟨h1,tk,rfl,hk⟩:=x.done;have JA:∀b:Addr,b∉(tZ CX P w K mg base N qual scope f cd A outer s H E).ex:=λ b z=>absurd (show b∈([]:List Addr) from z) 's';refine⟨⟨e0.mod,S.kind,rfl,rfl,Qk _,λ y z c h1 h2=>?_,λ y hy=>?_,λ y c _ h=>?_,λ _=>hd,Around.frames_deeper e0.frames,.inr ⟨rfl,rfl⟩,λ b z=>absurd z (JA b),e0.bs,e0.bsz,λ b _ _=>JA b,λ b z=>absurd z (JA b),e0.kY,e0.frf⟩,
  rfl,e0.bare,Un.kept hk,⟨_,x.toInCall.ns,λ i y v h1 h2 h3=>?_⟩,λ y c h=>⟨_,x.cell y c h⟩,e0.hok.fresh (Qk _),λ y c h=>?_,λ p hp=>absurd (show p∈([]:List (Addr×Obj)) from hp) 's',e0.hok.kept hk,?_⟩
 .exact name_of_addr x.apart (Rg h1) (Rg h2)
 .have hy:scope.names.lookup y=some .cell\/scope.names.lookup y=some .free:=hy;rcases hy with hy | hy
  .exact rE hy
  .exact absurd rfl (S.nofree _ (Rg hy))
 .exact Nat.le_of_lt (x.above y c (Rg h))
 .have hi:i < vs.length:=by
   unfold start at h2
   by_cases hi:i < vs.length
   .exact hi
   .rw[QH (by simpa using hi)] at h2;rw[getElem?_replicate] at h2;split at h2<;>cases h2
  have ha:vs[i]?=some v:=by
   unfold start at h2;rw[Qw (by simpa using hi),getElem?_map] at h2;cases e:vs[i]? with
   | none=>rw[e] at h2;cases h2
   | some a=>rw[e] at h2;cases h2;rfl
  let⟨u,hu,rv⟩:=r.get ha;have hp:ps[i]?=some y:=by
   rw[<-S.pre,getElem?_take_of_lt 'o'];exact h1
  have N6:ps.Nodup:=by rw[<-S.pre];exact S.nd.sublist (take_sublist _ _)
  refine⟨u,rv,?_⟩;rcases S.par y (QX hp) with k | k
  .exact .inl ⟨k,oE N6 hp hu k⟩
  .let⟨c,e⟩:=rE (n:=s.heap.objs.size+1) k;refine .inr ⟨.inl k,c,e,?_⟩;have q:=x.cell y c e;rw[oF N6 hp hu (by show scope.names.lookup y≠_;rw[k];decide)] at q;exact q
 .exact e0.hok.fresh (Nat.le_of_lt (x.above y c (Rg h)))
 .unfold start;show _=N.length;rw[Q5,Qi,length_replicate];omega
theorem JB{CX:yu}{k:Nat}{name qual:Str}{params:Arguments}{body:List Stmt}{scope:Scope}{dV kV doc pm cdv ct oc:Value}{an od:Option Addr}
  {osl:Array (Option Value)} {N ps:List Str} {sp:Sp} (lk:K.lookup f=some ⟨oc,od,.func (PySem.W.fnOf name qual params body scope dV kV doc pm an cdv ct),osl⟩) (hcd:PySem.W.codeIn K cdv qual=true) (S:lF N ps scope)
  (len:∀vs H Q E,sp vs H Q E->vs.length=ps.length)
  (hbody:∀(A:Around) (outer:List Env) (s:Shared) (H:Hp) (vs:List V) (Q:VK) (E:XK),eK k (A.deeper (envOfC qual scope s.heap.objs.size f cdv))->sp vs H Q E->
   ∃t,lV (tZ CX P w K mg base N qual scope f cdv A outer s H E) body t/\t {nx:=λ _ H'=>Q .non H',rt:=Q} (start N vs) H) :
  gX P w K mg base CX (k+1) f (PySem.W.fnOf name qual params body scope dV kV doc pm an cdv ct) ps sp:=by
 refine⟨len,λ A outer s H args us vs Q E hr e0 hb r t6=>?_⟩;have hl:=len _ _ _ _ t6;have KX:K.In s.heap:=e0.mod.kin.keeps λ b o e=>(e0.bs b o e).1;have lim:s.heap.NoLimit:=e0.mod.nolimit.keeps λ b o e=>(e0.bs b o e).1;have hkind:∀y∈ps.zip us,scope.names.lookup y.1=some .local\/(scope.names.lookup y.1=some .cell/\((cellsFrom (s.heap.objs.size+1) scope.names []).lookup y.1).isSome=true):=λ ⟨n,v⟩ hy=>by
  rcases S.par n (of_mem_zip hy).1 with q | q
  .exact .inl q
  .exact .inr ⟨q,PySem.W.cellsFrom_some _ _ _ (.inl q)⟩
 refine codeAny_call_function hr.depth (KX _ _ lk) rfl S.co S.gen rfl (PySem.W.codeRec_of KX hcd) (hb _ _ _ _ ?_);refine wpAny_newFunctionEnv_cells S.kind hkind λ env he s1 x=>?_;subst he;refine⟨lim.keeps x.toInCall.keep,codeAny_func ?_⟩;let⟨t,ht,hq⟩:=hbody A outer s H vs Q E (hr.deeper _) t6;have I:Inv (tZ CX P w K mg base N qual scope f cdv A outer s H E) [] (start N vs) H s1:=w9 S hr.hd e0 hl r x;refine QF (ht [] s1 (start N vs) H _ I hq) (λ fl s' hs=>?_) λ e s' hs=>hs;have fin:∀{σ':St} {H':Hp} {v:V} {u:Value},Inv (tZ CX P w K mg base N qual scope f cdv A outer s H E) [] σ' H' s'->RelV v u->Q v H'->CE outer P w H s Q u s':=
  λ {σ' H' v u} P9 rv q=>⟨v,H',P9.os,P9.bare,P9.base,P9.hok,rv,q⟩
 cases fl with
 | ret u=>
  let⟨v,σ',H',P9,rv,q⟩:=hs;exact fin P9 rv q
 | next=>
  let⟨σ',H',P9,q⟩:=hs;exact fin (v:=V.non) (u:=Value.none) P9 rfl q
 | brk=>
  let⟨_,_,_,q⟩:=hs;exact False.elim q
 | cont=>
  let⟨_,_,_,q⟩:=hs;exact False.elim q
end L2
namespace L2
open PySem PySem.Spec PyProof.Rows List
section
variable{X:Cx}{x:Str}{p pos:Pos}{e:Expr}{es:List Expr}{t:TA}{id T:String}{r:List V->Hp->VK->Prop}
def MS(r:List V->Hp->VK->Prop)(t:TA):TE:=fun Y H Q=>t Y H λ vs H1=>r vs H1 Q
theorem rG(hc:bB X (.builtin id) r)(hg:Gl X x)(hm:X.mg x=none)(hv:bootBuiltins x=@(.builtin id))(ha:PA X (e::es) t)(hn:x≠"__name__":=by decide)(hdb:(x==("__debug__":Str))=false:=by decide)
  (he:starEach (e::es) X.env=(false,eval e X.env)::starEach es X.env:=by rfl) (hpl:(backTo pos (starEach es X.env)).any (·.1)=false:=by rfl):PE X (.Call (.Name x p) (e::es) [] pos) (MS r t):=by
 intro aa s Y H Q I h;refine RG (g9 I hg hm hv ?_ hn hdb);exact PyProof.Rows.callWith_builtin1 (bY (ha pos aa s Y H _ I h) λ us s1 ⟨vs,H1,I1,r1,q1⟩=>hc aa s1 Y H1 vs us Q I1 r1 q1) he hpl
theorem iZ(hc:bB X (.type T) r)(hg:Gl X x)(hm:X.mg x=none)(hv:bootBuiltins x=@(.type T))(ha:PA X (e::es) t)(hn:x≠"__name__":=by decide)(hdb:(x==("__debug__":Str))=false:=by decide)
  (he:starEach (e::es) X.env=(false,eval e X.env)::starEach es X.env:=by rfl) (hpl:(backTo pos (starEach es X.env)).any (·.1)=false:=by rfl):PE X (.Call (.Name x p) (e::es) [] pos) (MS r t):=by
 intro aa s Y H Q I h;refine RG (g9 I hg hm hv ?_ hn hdb);exact Rh (bY (ha pos aa s Y H _ I h) λ us s1 ⟨vs,H1,I1,r1,q1⟩=>hc aa s1 Y H1 vs us Q I1 r1 q1) he hpl
theorem t7(hc:bB X (.type T) r)(hg:Gl X x)(hm:X.mg x=none)(hv:bootBuiltins x=@(.type T))(hn:x≠"__name__":=by decide)(hdb:(x==("__debug__":Str))=false:=by decide) :
  PE X (.Call (.Name x p) [] [] pos) (MS r B4):=by
 intro aa s Y H Q I h;refine RG (g9 I hg hm hv ?_ hn hdb);exact PyProof.Rows.callWith_type0 (hc aa s Y H [] [] Q I .nil h)
end
end L2
namespace HT
open PySem PyProof.Rows List
variable{Q:Value->Shared->Prop}
def lexLt:List Int->List Int->Bool
 | [],[]=>false
 | [],_::_=>true
 | _::_,[]=>false
 | x::xs,y::ys=>if x=y then lexLt xs ys else decide (x < y)
theorem gq(x y:Int)(xs ys:List Int):lexLt (x::xs) (y::ys)=if x=y then lexLt xs ys else decide (x < y):=rfl
theorem nN:lexLt [] []=false:=rfl
theorem lZ(y:Int)(ys:List Int):lexLt [] (y::ys)=true:=rfl
theorem l8(x:Int)(xs:List Int):lexLt (x::xs) []=false:=rfl
theorem yU(A:Around)(s:Shared)(a:Int)(t:Tok)(c:Int)(u:Tok):∃e,SeqAt.EqAt A s (.int a t) (.int c u) e/\(e=true↔a=c):=
 ⟨(a==c),SeqAt.EqAt.int_int a t c u,by simp⟩
theorem yV(A:Around)(s:Shared)(a:Int)(t:Tok)(c:Int)(u:Tok)(prog:Program)(w:World)(E:Value->Shared->Prop)(Q:Value->Shared->Prop)(h:Q (.bool (decide (a < c))) s) :
  wpAny (model prog w) A (richCompare .Lt (.int a t) (.int c u)) Q E s:=
 (PyProof.Rows.lt_int h:wpAny (model prog w) A (compareOp .Lt (.int a t) (.int c u)) Q E s)
section
open PySem.SeqAt List
open PySem.AutoSeq1 (wpAny_loadPart')
open PySem.MeetsSeq PySem.MeetsSeq2 PySem.MeetsSeq3 List
theorem nO(l b:Addr)(items items2:Array Value)(n n2:Nat)(dd dd2:Option Addr)(sl sl2:Array (Option Value))(ns ms:List Int)(hi:IntsAre items.toList ns)(hj:IntsAre items2.toList ms) :
  Meets (Builtin.«tuple.__lt__» ⟨[.ref l,.ref b],[]⟩)
   (λ _ R s=>s.heap.get? l=some {cls:=.type "tuple",dict:=dd,data:=.seq items n,slots:=sl}/\s.heap.get? b=some {cls:=.type "tuple",dict:=dd2,data:=.seq items2 n2,slots:=sl2}/\
    R (.ok (.ret (.bool (lexLt ns ms)))) s):=
 .of_wp λ prog w A R s h=>by
  let⟨hp,g,d,tk,os⟩:=s;let⟨hl,hb,h⟩:=h;have f2:=AutoSeq1.sub_tuple_tuple;have z1:items.size=ns.length:=by rw[<-hi.length];simp
  have z2:items2.size=ms.length:=by rw[<-hj.length];simp
  wp_walk using wpAny_loadPart' hl,wpAny_loadPart' hb,wpAny_forIn_list _ (λ rest b s'=>b.1=none/\s'=⟨hp,g,d,tk,os⟩/\∃(vs ws:List Value) (ns' ms':List Int),rest=vs.zip ws/\
   IntsAre vs ns'/\IntsAre ws ms'/\ns'.length+items2.size=ms'.length+items.size/\R (.ok (.ret (.bool (lexLt ns' ms')))) ⟨hp,g,d,tk,os⟩) _
  case turn=>
   rintro⟨y,x⟩ rest b s' ⟨hb',rfl,vs,ws,ns',ms',hz,hvi,hwi,hlen,hR⟩;cases hvi with
   | nil=>rw[zip_nil_left] at hz;cases hz
   | cons a t hvi'=>
    cases hwi with
    | nil=>rw[zip_nil_right] at hz;cases hz
    | cons c u hwi'=>
     rw[zip_cons_cons] at hz;injection hz with hyx hrest
     injection hyx with hy hx
     subst hy hx;rw[gq] at hR;erw[QB] at hlen;let⟨e,he,hiff⟩:=yU A.in1 ⟨hp,g,d,tk,os⟩ a t c u;refine Qa (he prog w _ _ ?_);cases e with
     | true=>
      rw[Qs (hiff.mp rfl)] at hR
      wp_walk
      exact⟨rfl,rfl,_,_,_,_,hrest,hvi',hwi',by omega,hR⟩
     | false=>
      rw[Qz (λ q=>absurd (hiff.mpr q) Rc)] at hR;have ON:=yV A.in1 ⟨hp,g,d,tk,os⟩ a t c u prog w
      wp_walk using ON
      exact⟨_,rfl,by simpa using hR⟩
  case fin=>
   rintro⟨b1,b2⟩ s' ⟨hb',rfl,vs,ws,ns',ms',hz,hvi,hwi,hlen,hR⟩;simp only at hb';subst hb';have hv:lexLt ns' ms'=decide (items.size < items2.size):=by
    cases hvi with
    | nil=>
     cases hwi with
     | nil=>
      erw[RS] at hlen;rw[nN];exact(QE 'o').symm
     | cons c u hw=>
      erw[RS,QB] at hlen;rw[lZ];exact(Q2 'o').symm
    | cons a t hv=>
     cases hwi with
     | nil=>
      erw[RS,QB] at hlen;rw[l8];exact(QE 'o').symm
     | cons c u hw=>
      rw[zip_cons_cons] at hz;cases hz
   rw[hv] at hR
   wp_walk
   exact⟨_,rfl,by simpa[Builtin.Tuple.tupleCompareSizes] using hR⟩
  case h=>
   exact⟨rfl,rfl,items.toList,items2.toList,ns,ms,rfl,hi,hj,by omega,h⟩
end
section
variable{prog:Program}{w:World}{A:Around}{E:Value->Shared->Prop}{s:Shared}
theorem t8{l b:Addr}{items items2:Array Value}{ns ms:List Int}(hl:IsTup s.heap l items)(hb:IsTup s.heap b items2)(hi:IntsAre items.toList ns)(hj:IntsAre items2.toList ms)
  (hu:A.units < cLine) (h:Q (.bool (lexLt ns ms)) s):wpAny (model prog w) A (compareOp .Lt (.ref l) (.ref b)) Q E s:=by
 let⟨⟨cls,dd,data,sl⟩,ho,hc,n,hd⟩:=id hl;let⟨⟨cls2,dd2,data2,sl2⟩,ho2,hc2,n2,hd2⟩:=id hb;simp only at hc hd hc2 hd2;subst hc hd hc2 hd2;exact richCompare_meets_room (op:=.Lt) ⟨_,ho,rfl⟩ ⟨_,ho2,rfl⟩ PySem.F.slot_tuple_lt PySem.F.entry_tuple_lt (PySem.F.args_tuple_lt_2 _ _) (nO l b items items2 n n2 dd dd2 sl sl2 ns ms hi hj)
  ⟨ho,ho2,show Value.bool (lexLt ns ms)≠Value.notImplemented/\Q (.bool (lexLt ns ms)) s from⟨(λ x=>nomatch x),h⟩⟩ hu
theorem B8{t b:Addr}{vs ws:List Value}(ht:IsTup s.heap t vs.toArray)(hb:IsTup s.heap b ws.toArray)(hv:vs≠[])
  (h1:ws=[]->Q (.ref t) s) (h2:ws≠[]->Q (.ref s.heap.objs.size) {s with heap:=s.heap.push {cls:=.type "tuple",data:=.seq (vs++ws).toArray}})
  (hsz:vs.length+ws.length<=sizeLine):wpAny (model prog w) A (binaryOp .Add (.ref t) (.ref b)) Q E s:=by
 let⟨⟨cls,dd,data,sl⟩,ho,hc,n,hd⟩:=id ht;let⟨⟨cls2,dd2,data2,sl2⟩,ho2,hc2,n2,hd2⟩:=id hb;simp only at hc hd hc2 hd2;subst hc hd hc2 hd2;have e:vs.toArray++ws.toArray=(vs++ws).toArray:=by simp
 by_cases hw:ws=[]
 .exact concat_meets ⟨_,ho,rfl⟩ ⟨_,ho2,rfl⟩ noFill_tuple_add seq_tuple_add PySem.F.slot_tuple_add PySem.F.entry_tuple_add (PySem.F.args_tuple_add_2 _ _)
   (tuple_addW1 t b vs.toArray ws.toArray n n2 dd dd2 sl sl2 (by simpa using hv) (by simp[hw])) ⟨ho,ho2,h1 hw⟩
 .refine concat_meets ⟨_,ho,rfl⟩ ⟨_,ho2,rfl⟩ noFill_tuple_add seq_tuple_add PySem.F.slot_tuple_add PySem.F.entry_tuple_add (PySem.F.args_tuple_add_2 _ _)
   (tuple_addW2 t b vs.toArray ws.toArray n n2 dd dd2 sl sl2 (by simpa using hv) (by simpa using hw) (by rw[Qq,Qq];exact hsz)) ⟨ho,ho2,?_⟩
  rw[e];exact h2 hw
def cZ(n d:Nat):Option Int->Nat
 | none=>d
 | some v=>if v < 0 then (v+(n:Int)).toNat else min v.toNat n
theorem Gf(n d:Nat)(hd:d<=n)(o:Option Int):cZ n d o<=n:=by
 cases o with
 | none=>exact hd
 | some v=>
  show (if v < 0 then (v+(n:Int)).toNat else min v.toNat n)<=n
  by_cases hv:v < 0
  .rw[Qs hv];omega
  .rw[Qz hv];exact Nat.min_le_right _ _
theorem vd(v:Int)(n d:Nat):(if v < 0 then max (v+(n:Int)) 0 else min v (n:Int))=((cZ n d (some v):Nat):Int):=by
 show (if v < 0 then max (v+(n:Int)) 0 else min v (n:Int))=(((if v < 0 then (v+(n:Int)).toNat else min v.toNat n):Nat):Int)
 by_cases hv:v < 0
 .erw[Qs hv];omega
 .erw[Qz hv];omega
theorem t9(lo hi:Option Int)(n:Nat):Builtin.Slice.sliceAdjust lo hi 1 (n:Int)=(((cZ n 0 lo:Nat):Int),((cZ n n hi:Nat):Int)):=by
 have h1:¬((1:Int) < 0):=by omega
 unfold Builtin.Slice.sliceAdjust;erw[h1,QK];refine Prod.ext ?_ ?_
 .cases lo with
  | none=>rfl
  | some v=>exact vd v n 0
 .cases hi with
  | none=>rfl
  | some v=>exact vd v n n
theorem ua(i j:Nat):Builtin.Slice.slicePlaces (i:Int) (j:Int) 1=j - i:=by
 unfold Builtin.Slice.slicePlaces;have h1:(1:Int)>0:=by omega
 erw[h1,QL,Int.ediv_one];split<;>omega
theorem l9{v:Value}{o:Option Int}{Q:Option Int->Shared->Prop}(p:IsPart v o)(h:Q o s):wpAny (model prog w) A (Builtin.Slice.slicePartIndex v) Q E s:=by
 cases p with
 | none=>exact slicePart_none h
 | int i t=>exact slicePart_int h
theorem gY{sl:Addr}{vl vu:Value}{lo hi:Option Int}{n:Nat}{Q:Int×Int×Nat->Shared->Prop}(hs:s.heap.IsSliceOf sl vl vu .none)(pl:IsPart vl lo)(pu:IsPart vu hi)
  (h:Q (((cZ n 0 lo:Nat):Int),1,cZ n n hi - cZ n 0 lo) s):wpAny (model prog w) A (Builtin.Slice.sliceApplied (.ref sl) (pure (n:Int))) Q E s:=by
 let⟨os,hos,hcs,hds⟩:=id hs;unfold Builtin.Slice.sliceApplied Builtin.Slice.sliceFields;refine Qa (Qa (Q4 hos hds (x:=vl) rfl (Qa (Q4 hos hds (x:=vu) rfl (Qa (Q4 hos hds (x:=.none) rfl (Qg ?_)))))));refine Qa (slicePart_none ?_);show wpAny _ _ (if ((1:Int)==0)=true then _ else _) _ _ s;rw[Qz 'd'];refine Qa (l9 pl (Qa (l9 pu (Qa (Qg ?_)))));show wpAny _ _ (match Builtin.Slice.sliceAdjust lo hi 1 (n:Int) with | (lo,hi)=>pure (lo,(1:Int),Builtin.Slice.slicePlaces lo hi 1)) _ _ s;rw[t9 lo hi n];show wpAny _ _ (pure (((cZ n 0 lo:Nat):Int),(1:Int),Builtin.Slice.slicePlaces ((cZ n 0 lo:Nat):Int) ((cZ n n hi:Nat):Int) 1)) _ _ s;rw[ua];exact Qg h
theorem yW(xs:Array Value)(i k:Nat):((List.range k).filterMap λ (m:Nat)=>xs[((i:Int)+(m:Int)*1).toNat]?).toArray=((xs.toList.drop i).take k).toArray:=by
 have e:(λ (m:Nat)=>xs[((i:Int)+(m:Int)*1).toNat]?)=λ m=>xs[i+m]?:=by
  funext m;have:((i:Int)+(m:Int)*1).toNat=i+m:=by omega
  rw[this]
 rw[e];have:=pick_run xs i k;rw[filterMap_map] at this;have e2:((λ x=>xs[x]?)∘λ x=>i+x)=λ m=>xs[i+m]?:=rfl;rw[e2] at this;rw[this]
theorem jG{t sl:Addr}{items:Array Value}{vl vu:Value}{lo hi:Option Int}(ht:IsTup s.heap t items)(hs:s.heap.IsSliceOf sl vl vu .none)(pl:IsPart vl lo)(pu:IsPart vu hi)
  (hw:¬(cZ items.size 0 lo=0/\cZ items.size items.size hi=items.size))
  (h:Q (.ref s.heap.objs.size) {s with heap:=s.heap.push {cls:=.type "tuple",data:=.seq ((items.toList.drop (cZ items.size 0 lo)).take (cZ items.size items.size hi - cZ items.size 0 lo)).toArray}})
  (hsz:items.size<=sizeLine):wpAny (model prog w) A (getItem (.ref t) (.ref sl)) Q E s:=by
 have ve:sizeOk (.seq ((items.toList.drop (cZ items.size 0 lo)).take (cZ items.size items.size hi - cZ items.size 0 lo)).toArray):=by
  show ((items.toList.drop (cZ items.size 0 lo)).take (cZ items.size items.size hi - cZ items.size 0 lo)).toArray.size<=sizeLine;rw[Qq,Ri,length_drop,Array.length_toList];omega
 have hj:cZ items.size items.size hi<=items.size:=Gf _ _ (Qk _) hi;let⟨os,hos,hcs,hds⟩:=id hs;have MT:s.TypeIs (.ref sl) "slice":=⟨os,hos,hcs⟩;unfold getItem
 try with_reducible refine QV ?_
 first | refine Qa (Qg ?_) | skip
 refine Qa (wpAny_sequenceKey ht.typeIs 'd' ?_);refine Qa (Q9 (name:=Str.ofString "__getitem__") ht.typeIs PyProof.Rows.slot_tuple_getitem
  (RH PyProof.Rows.slot_tuple_getitem ht.typeIs entry_tuple_getitem ?_ (args_tuple_getitem _ _)))
 show wpAny _ _ (Builtin.Tuple.tupleItemsOf (.ref t) >>= _) _ _ s;refine Qa (tupleItemsOf_ ht ?_);refine Qa (wpAny_typeOf MT ?_);rw[Qs 'd'];refine Qa (gY hs pl pu ?_);have hno:¬((((cZ items.size 0 lo:Nat):Int)==0&&(1:Int)==1&&(cZ items.size items.size hi - cZ items.size 0 lo)==items.size)=true):=by
  intro q;rw[Qn,Qn] at q;have q1:((cZ items.size 0 lo:Nat):Int)=0:=eq_of_beq q.1.1;have q2:cZ items.size items.size hi - cZ items.size 0 lo=items.size:=eq_of_beq q.2;exact hw ⟨by omega,by omega⟩
 show wpAny _ _ (if (((cZ items.size 0 lo:Nat):Int)==0&&(1:Int)==1&&(cZ items.size items.size hi - cZ items.size 0 lo)==items.size)=true then _ else _) _ _ s;rw[Qz hno,yW]
 first
  | exact Qa (m:=Builtin.Tuple.tupleExact _) (RQ (Qg ⟨_,rfl,Qg h⟩) ve)
  | exact Qa (m:=Builtin.Tuple.tupleExact _) (RQ (Qa (Qg (Qg ⟨_,rfl,Qg h⟩))) ve)
  | exact Qa (Qa (m:=Builtin.Tuple.tupleExact _) (RQ (Qg (Qg ⟨_,rfl,Qg h⟩)) ve))
  | exact Qa (Qa (m:=Builtin.Tuple.tupleExact _) (RQ (Qg ⟨_,rfl,Qg h⟩) ve))
end
end HT
namespace L2
open PySem PySem.Spec PyProof.Rows List
abbrev TO:=St->Hp->(Option Int->Hp->Prop)->Prop
def PO(X:Cx)(e:Option Expr)(t:TO):Prop:=
 ∀(aa:List (Addr×Obj)) (s:Shared) (Y:St) (H:Hp) (Q:Option Int->Hp->Prop),Inv X aa Y H s->t Y H Q->
  wpAny (model X.prog X.w) X.A (evalPart e X.env) (λ u s'=>∃o H',Inv X aa Y H' s'/\IsPart u o/\Q o H') X.xe s
def B9:TO:=λ _ H Q=>Q none H
def JC(t:TE):TO:=fun Y H Q=>t Y H λ x H1=>∃i,x=.int i/\Q (some i) H1
theorem intsAre_of{ns:List Int}:∀{us:List Value},Vals (ns.map V.int) us->IntsAre us ns:=by
 induction ns with
 | nil=>intro us r;rw[map_nil] at r;cases r;exact .nil
 | cons n ns ih=>
  intro us r;rw[QM] at r;cases r with
  | cons r1 r2=>
   let⟨t,e⟩:=r1;subst e;exact .cons n t (ih r2)
section
variable{X:Cx}{e:Expr}{te:TE}{lo hi:Option Expr}{tl th:TO}{pos p2:Pos}
theorem Ca:PO X none B9:=by
 intro aa s Y H Q I h;rw[evalPart_none];exact Qg ⟨none,H,I,.none,h⟩
theorem Cb(h:PE X e te):PO X (some e) (JC te):=by
 intro aa s Y H Q I hw;rw[evalPart_some];refine bY (h aa s Y H _ I hw) λ u s1 ⟨x,H1,I1,r1,q1⟩=>?_;let⟨i,rfl,q⟩:=q1;let⟨t,rfl⟩:=r1;exact⟨some i,H1,I1,.int i t,q⟩
def IL(X:Cx)(r:V->Option Int->Option Int->Hp->VK->Prop):Prop:=
 ∀(aa:List (Addr×Obj)) (s:Shared) (Y:St) (H:Hp) (x:V) (v vl vu:Value) (lo hi:Option Int) (sl:Addr) (Q:VK),Inv X aa Y H s->RelV x v->s.heap.IsSliceOf sl vl vu .none->IsPart vl lo->IsPart vu hi->r x lo hi H Q->
  ∃T id,typeLookup (.type T) "__getitem__"=pure @(.builtin id)/\s.TypeIs v T/\wpAny (model X.prog X.w) X.A (getItem v (.ref sl)) (EP X aa Y Q) X.xe s
def OO(r:V->Option Int->Option Int->Hp->VK->Prop)(te:TE)(tl th:TO):TE:=fun Y H Q=>te Y H λ x H1=>tl Y H1 λ l H2=>th Y H2 λ u H3=>r x l u H3 Q
theorem yX{r:V->Option Int->Option Int->Hp->VK->Prop}(hr:IL X r)(he:PE X e te)(hl:PO X lo tl)(hu:PO X hi th):PE X (.Subscript e (.Slice lo hi none p2) pos) (OO r te tl th):=by
 intro aa s Y H Q I h;refine Subscript_ (bY (he aa s Y H _ I h) λ v s1 ⟨x,H1,I1,r1,q1⟩=>?_);refine wpAny_Slice (bY (hl aa s1 Y H1 _ I1 q1) λ vl s2 ⟨l,H2,I2,pl,q2⟩=>bY (hu aa s2 Y H2 _ I2 q2) λ vu s3 ⟨u,H3,I3,pu,q3⟩=>?_);rw[evalPart_none];refine Qg ?_;have I4:Inv X aa Y H3 {s3 with heap:=s3.heap.push {cls:=.type "slice",data:=.fields #[vl,vu,.none]}}:=I3.kept (t':=s3.toks) λ b ob q=>Qc _ q;let⟨T,id,hT,ht,hg⟩:=hr aa {s3 with heap:=s3.heap.push {cls:=.type "slice",data:=.fields #[vl,vu,.none]}} Y H3 x v vl vu l u s3.heap.objs.size Q I4 r1 (Heap.IsSliceOf.new ..) pl pu q3;show wpAny (model X.prog X.w) X.A (subscriptTail e (.Slice lo hi none p2) v (.ref s3.heap.objs.size)) (EP X aa Y Q) X.xe {s3 with heap:=s3.heap.push {cls:=.type "slice",data:=.fields #[vl,vu,.none]}};exact tail_any (ops:=[.ref s3.heap.objs.size,v]) ht hT hg (by with_unfolding_all rfl)
def pM(xs:List V)(lo hi:Option Int):List V:=(xs.drop (HT.cZ xs.length 0 lo)).take (HT.cZ xs.length xs.length hi - HT.cZ xs.length 0 lo)
theorem kM(xs:List V)(lo hi:Option Int):(pM xs lo hi).length<=xs.length:=by
 unfold pM;rw[Ri,length_drop];omega
def MU(K:PySem.W.Frag):V->Option Int->Option Int->Hp->VK->Prop:=λ x lo hi H Q=>∃a xs,x=.ref a/\dI K H a xs/\
 ¬(HT.cZ xs.length 0 lo=0/\HT.cZ xs.length xs.length hi=xs.length)/\∀p,H p=none->Q (.ref p) (upd H p (.tup (pM xs lo hi)))
theorem Gg:IL X (MU X.K):=by
 intro aa s Y H x v vl vu lo hi sl Q I rx hs pl pu h;let⟨a,xs,rfl,hx,hw,q⟩:=h;cases rx;let⟨its,r,ht,hz⟩:=I.tuple hx;have hlen:its.toArray.size=xs.length:=by rw[Qq];exact r.length.symm
 refine⟨"tuple",_,PyProof.Rows.slot_tuple_getitem.lookup,ht.typeIs,?_⟩;refine HT.jG ht hs pl pu (by rw[hlen];exact hw) ?_ (by rw[hlen];exact hz);rw[hlen];refine⟨.ref s.heap.objs.size,_,I.laid (t':=s.toks) (o:=.tup (pM xs lo hi)) (λ b ob q=>Qc _ q) (Qk _) ?_,rfl,q _ (I.hok.fresh (Qk _))⟩;exact⟨QC (kM xs lo hi) hz,_,(r.drop (HT.cZ xs.length 0 lo)).take (HT.cZ xs.length xs.length hi - HT.cZ xs.length 0 lo),IsTup.new _ _⟩
def JD(K:PySem.W.Frag):R2:=λ x y H Q=>∃a b xs ys,x=.ref a/\y=.ref b/\dI K H a xs/\dI K H b ys/\xs≠[]/\xs.length+ys.length<=sizeLine/\
 (ys=[]->Q (.ref a) H)/\(ys≠[]->∀p,H p=none->Q (.ref p) (upd H p (.tup (xs++ys))))
theorem Vals.pN{xs:List V}{us:List Value}(r:Vals xs us):us=[]↔xs=[]:=by
 cases r with
 | nil=>simp
 | cons _ _=>simp
theorem Cd:ie X (binaryOp .Add) (JD X.K):=by
 intro aa s Y H x y v u Q I rx ry h;let⟨a,b,xs,ys,rfl,rfl,ha,hb,hx,hz,q1,q2⟩:=h;cases rx;cases ry;let⟨its,r1,p1,_⟩:=I.tuple ha;let⟨its2,r2,p2,_⟩:=I.tuple hb;refine HT.B8 p1 p2 (λ z=>hx (r1.pN.mp z)) (λ z=>⟨.ref a,H,I,rfl,q1 (r2.pN.mp z)⟩) (λ z=>?_) (by rw[<-r1.length,<-r2.length];exact hz);refine⟨.ref s.heap.objs.size,_,I.laid (t':=s.toks) (o:=.tup (xs++ys)) (λ b ob q=>Qc _ q) (Qk _) ?_,rfl,q2 (λ w=>z (r2.pN.mpr w)) _ (I.hok.fresh (Qk _))⟩;exact⟨by rw[Q5];exact hz,_,r1.append r2,IsTup.new _ _⟩
end
end L2
namespace L2
open PySem PySem.Spec PyProof.Rows List
variable{H:Hp}{aa:List (Addr×Obj)}{s:Shared}{v:Value}{Y:St}
def nP(n:Nat)(i:Int):Option Nat:=if 0<=i then (if i < n then some i.toNat else none) else if -(n:Int)<=i then some (i+n).toNat else none
def kZ{α:Type}(xs:List α)(i:Int):Option α:=(nP xs.length i).bind λ j=>xs[j]?
theorem vf{n:Nat}{i:Int}{j:Nat}(h:nP n i=some j):seqIndex? i n=some j/\j < n/\-(n:Int)<=i/\i < n:=by
 unfold nP at h
 by_cases h0:0<=i
 .rw[Qs h0] at h
  by_cases h1:i < n
  .rw[Qs h1] at h;have e:i.toNat=j:=Ru h;exact⟨by rw[seqIndex_of h0 h1,e],by omega,by omega,h1⟩
  .rw[Qz h1] at h;cases h
 .rw[Qz h0] at h
  by_cases h1:-(n:Int)<=i
  .rw[Qs h1] at h;have e:(i+n).toNat=j:=Ru h;exact⟨by rw[seqIndex_neg 'o' h1,e],by omega,h1,by omega⟩
  .rw[Qz h1] at h;cases h
theorem pO{α:Type}{xs:List α}{i:Int}{v:α}(h:kZ xs i=some v):∃j,seqIndex? i xs.length=some j/\xs[j]?=some v/\j < xs.length/\-(xs.length:Int)<=i/\i < xs.length:=by
 unfold kZ at h;cases e:nP xs.length i with
 | none=>rw[e] at h;cases h
 | some j=>
  rw[e] at h;let⟨h1,h2,h3,h4⟩:=vf e;exact⟨j,h1,h,h2,h3,h4⟩
def pP(b:Expr):Prop:=∀o i,subscripted b false o i=operate [o,i] (getItem o i)
def IM(X:Cx)(r:R2):Prop:=
 ∀(value slice:Expr) (aa:List (Addr×Obj)) (s:Shared) (Y:St) (H:Hp) (x y:V) (v u:Value) (Q:VK),Inv X aa Y H s->RelV x v->RelV y u->r x y H Q->
  subscripted slice false v u=operate [v,u] (getItem v u)->wpAny (model X.prog X.w) X.A (subscriptTail value slice v u) (EP X aa Y Q) X.xe s
def Gh(X:Cx)(id:String)(r:V->List V->Hp->VK->Prop):Prop:=
 ∀(aa:List (Addr×Obj)) (s:Shared) (Y:St) (H:Hp) (x:V) (xs:List V) (v:Value) (us:List Value) (Q:VK),Inv X aa Y H s->RelV x v->Vals xs us->r x xs H Q->
  wpAny (model X.prog X.w) X.A (call (.builtin id) (v::us)) (EP X aa Y Q) X.xe s
section
variable{X:Cx}{a b:Expr}{ta tb:TE}{pos:Pos}
theorem JE{r:R2}(hr:IM X r)(ha:PE X a ta)(hb:PE X b tb)(hs:pP b):PE X (.Subscript a b pos) (LB r ta tb):=by
 intro aa s Y H Q I h;exact Subscript_ (FN ha hb I h λ v u s2 x y H2 I2 rx ry q=>hr a b aa s2 Y H2 x y v u Q I2 rx ry q (hs _ _))
def MV(K:PySem.W.Frag):R2:=λ x y H Q=>∃p xs i v,x=.ref p/\y=.int i/\gE K H p xs/\kZ xs i=some v/\Q v H
def MW(K:PySem.W.Frag):R2:=λ x y H Q=>∃p xs i v,x=.ref p/\y=.int i/\dI K H p xs/\kZ xs i=some v/\Q v H
def MX:R2:=λ x y H Q=>∃z i c,x=.str z/\y=.int i/\z.length<=sizeLine/\kZ z.cps.toList i=some c/\Q (.str ⟨#[c]⟩) H
theorem Ce:IM X (MV X.K):=by
 intro value slice aa s Y H x y v u Q I rx ry h hs;let⟨p,xs,i,z,rfl,rfl,hq,he,q⟩:=h;cases rx;let⟨t,rfl⟩:=ry;let⟨its,r,pl,hz⟩:=I.list hq;let⟨j,h1,h2,h3,h4,h5⟩:=pO he;let⟨w,ew,rw'⟩:=r.get h2;have hl:=r.length;have hn:=jr;have fin:EP X aa Y Q w s:=⟨z,H,I,rw',q⟩
 by_cases h0:0<=i
 .have hj:i.toNat=j:=by
   rw[seqIndex_of h0 h5] at h1;exact Ru h1
  exact item_listR pl.isList h0 'o' (by rw[hj];simpa using ew) fin hs
 .have hj:(i+(its.toArray.size:Int)).toNat=j:=by
   rw[seqIndex_neg 'o' h4] at h1;rw[Qq,<-hl];exact Ru h1
  exact subscriptTail_builtinR (x:=w) pl.isList.typeIs slot_list_getitem.lookup
   (wpAny_getItem_list_neg (Q:=λ r s'=>r=w/\EP X aa Y Q r s') pl.isList 'o' (by rw[Qq]<;>omega) 'o' (by rw[hj];simpa using ew) ⟨rfl,fin⟩) hs
theorem Gi:IM X (MW X.K):=by
 intro value slice aa s Y H x y v u Q I rx ry h hs;let⟨p,xs,i,z,rfl,rfl,hq,he,q⟩:=h;cases rx;let⟨t,rfl⟩:=ry;let⟨its,r,pl,hz⟩:=I.tuple hq;let⟨j,h1,h2,h3,h4,h5⟩:=pO he;let⟨w,ew,rw'⟩:=r.get h2;have hl:=r.length;have hn:=jr;have fin:EP X aa Y Q w s:=⟨z,H,I,rw',q⟩;exact subscriptTail_builtinR (x:=w) pl.typeIs slot_tuple_getitem.lookup
  (getItem_tuple (j:=j) (Q:=λ r s'=>r=w/\EP X aa Y Q r s') pl 'o' 'o' (by rw[Qq,<-hl];exact h1) (by simpa using ew) ⟨rfl,fin⟩) hs
theorem Gj:IM X MX:=by
 intro value slice aa s Y H x y v u Q I rx ry h hs;let⟨z,i,c,rfl,rfl,hz,he,q⟩:=h;let⟨t,rfl⟩:=rx;let⟨t',rfl⟩:=ry;let⟨j,h1,h2,h3,h4,h5⟩:=pO he;have hl:z.cps.toList.length=z.length:=by simp[Str.length]
 rw[hl] at h1 h4 h5;have hn:=jr;exact tail_any (typeIs_str s z t) slot_str_getitem.lookup (getItem_str (c:=c) (by
  have e1:decide (i < -(2^63:Int))=false:=QE 'o';have e2:decide (i≥2^63)=false:=QE 'o';rw[e1,e2,Bool.or_false]) (by rw[h1];simpa using h2) ⟨.str ⟨#[c]⟩,H,I.tok _,⟨_,rfl⟩,q⟩) hs
theorem uc(its:List Value)(n j:Nat)(u:Value):Obj.mapSeq (·.setIfInBounds j u) {cls:=.type "list",data:=.seq its.toArray n}={cls:=.type "list",data:=.seq (its.set j u).toArray n}:=by
 simp[Obj.mapSeq]
theorem Inv.lst{p:Addr}{xs:List V}(I:Inv X aa Y H s)(h:H p=@(.lst xs)) :
  ∃(its:List Value) (n:Nat),Vals xs its/\s.heap.get? p=some {cls:=.type "list",data:=.seq its.toArray n}/\xs.length<=sizeLine:=by
 let⟨z,its,n,r,e⟩:=I.hok p _ h;exact⟨its,n,r,e,z⟩
theorem Inv.Gk{p:Addr}{xs ys:List V}{its its':List Value}{n n':Nat}{f:Obj->Obj}(I:Inv X aa Y H s)(h:H p=@(.lst xs))
  (ho:s.heap.get? p=some {cls:=.type "list",data:=.seq its.toArray n}) (hf:f {cls:=.type "list",data:=.seq its.toArray n}={cls:=.type "list",data:=.seq its'.toArray n'}) (r:Vals ys its') (hz:ys.length<=sizeLine) (t:Nat) :
  Inv X aa Y (upd H p (.lst ys)) {s with heap:=s.heap.update p f,toks:=t}:=by
 have e:(s.heap.update p f).get? p=some {cls:=.type "list",data:=.seq its'.toArray n'}:=by
  rw[Q3 f ho (by rw[hf]<;>rfl),hf]
 refine I.write (x:=p) (e:=p) (by rw[h];trivial) (.inl rfl) (λ b u hb q=>(Heap.get?_update_other _ _ (Ne.symm hb)).trans q) ⟨_,e⟩ ?_;exact⟨hz,its',n',r,e⟩
def JF:V->V->V->Hp->(Hp->Prop)->Prop:=λ o i v H Q=>∃p xs k j,o=.ref p/\i=.int k/\H p=some (.lst xs)/\nP xs.length k=some j/\Q (upd H p (.lst (xs.set j v)))
theorem set_list:FE X JF:=by
 intro aa s Y H o i v ov iv u Q I ro ri rv h;let⟨p,xs,k,j,rfl,rfl,hp,hj,q⟩:=h;cases ro;let⟨t,rfl⟩:=ri;let⟨its,n,r,ho,hz⟩:=I.lst hp;let⟨h1,h2,h3,h4⟩:=vf hj;have hl:=r.length;have hn:=jr;have I':Inv X aa Y (upd H p (.lst (xs.set j v))) {s with heap:=s.heap.update p (Obj.mapSeq (·.setIfInBounds j u))}:=
  I.Gk hp ho (uc its n j u) (r.set rv j) (by rw[length_set];exact hz) s.toks
 by_cases h0:0<=k
 .have hk:k.toNat=j:=by
   rw[seqIndex_of h0 h4] at h1;exact Ru h1
  exact PySem.W.ki_setAt ho h0 'o' (by rw[Qq,<-hl];exact h4) (by rw[hk];exact⟨_,I',q⟩)
 .have hk:(k+(its.toArray.size:Int)).toNat=j:=by
   rw[seqIndex_neg 'o' h3] at h1;rw[Qq,<-hl];exact Ru h1
  exact PySem.W.ki_setBack ho 'o' (by rw[Qq,<-hl];exact h3) 'o' (by rw[hk];exact⟨_,I',q⟩)
theorem pQ(lo hi:Option Int)(n:Nat):(sliceBounds lo hi none n).1=((HT.cZ n 0 lo:Nat):Int)/\(sliceBounds lo hi none n).2.1=((HT.cZ n n hi:Nat):Int)/\(sliceBounds lo hi none n).2.2=1:=by
 refine⟨?_,?_,rfl⟩
 .cases lo with
  | none=>simp[sliceBounds,HT.cZ]
  | some i=>
   erw[sliceBounds,HT.cZ,Option.getD_none,show (1:Int)>0 by decide,QL]
   by_cases h:i < 0
   .erw[h,QL]<;>omega
   .erw[h,QK]<;>omega
 .cases hi with
  | none=>simp[sliceBounds,HT.cZ]
  | some i=>
   erw[sliceBounds,HT.cZ,Option.getD_none,show (1:Int)>0 by decide,QL]
   by_cases h:i < 0
   .erw[h,QL]<;>omega
   .erw[h,QK]<;>omega
theorem nQ(its:List Value)(lo hi:Option Int):slicePick its.toArray lo hi none=((its.drop (HT.cZ its.length 0 lo)).take (HT.cZ its.length its.length hi - HT.cZ its.length 0 lo)).toArray:=by
 let⟨h1,h2,h3⟩:=pQ lo hi its.toArray.size;unfold slicePick;rw[h1,h2,h3];erw[sliceRange_one,pick_run,Qq]<;>rfl
def MY(K:PySem.W.Frag):V->Option Int->Option Int->Hp->VK->Prop:=λ x lo hi H Q=>∃a xs,x=.ref a/\gE K H a xs/\∀p,H p=none->Q (.ref p) (upd H p (.lst (pM xs lo hi)))
theorem Cg:IL X (MY X.K):=by
 intro aa s Y H x v vl vu lo hi sl Q I rx hs pl pu h;let⟨a,xs,rfl,hx,q⟩:=h;cases rx;let⟨its,r,ht,hz⟩:=I.list hx;have hlen:=r.length;refine⟨"list",_,slot_list_getitem.lookup,ht.isList.typeIs,?_⟩;refine wpAny_getItem_list_slice ht.isList hs pl pu .none 's' ?_ (by rw[Qq]<;>omega);rw[nQ,<-hlen];refine⟨.ref s.heap.objs.size,_,I.laid (t':=s.toks) (o:=.lst (pM xs lo hi)) (λ b ob q=>Qc _ q) (Qk _) ?_,rfl,q _ (I.hok.fresh (Qk _))⟩;exact⟨QC (kM xs lo hi) hz,_,0,(r.drop (HT.cZ xs.length 0 lo)).take (HT.cZ xs.length xs.length hi - HT.cZ xs.length 0 lo),Qm _ rfl⟩
def mh:V->Bool
 | .non=>true
 | .bl _=>true
 | .int _=>true
 | .str _=>true
 | _=>false
def yY:V->V->Bool
 | .non,.non=>true
 | .bl a,.bl b=>a==b
 | .bl a,.int b=>(if a then 1 else 0)==b
 | .int a,.bl b=>a==(if b then 1 else 0)
 | .int a,.int b=>a==b
 | .str a,.str b=>a==b
 | _,_=>false
theorem Gm{A:Around}{y x:V}{u:Value}(ry:RelV y u)(rx:RelV x v)(fy:mh y=true)(fx:mh x=true):SeqAt.EqAt A s u v (yY y x):=by
 cases y with
 | non=>
  cases ry;cases x with
  | non=>cases rx;exact SeqAt.EqAt.same _
  | bl b=>cases rx;exact SeqAt.EqAt.none_bool b
  | int b=>let⟨t,rfl⟩:=rx;exact SeqAt.EqAt.none_int b t
  | str b=>let⟨t,rfl⟩:=rx;exact SeqAt.EqAt.none_str b t
  | _=>exact absurd (show false=true from fx) Rc
 | bl a=>
  cases ry;cases x with
  | non=>cases rx;exact SeqAt.EqAt.bool_none a
  | bl b=>cases rx;exact SeqAt.EqAt.bool_bool a b
  | int b=>let⟨t,rfl⟩:=rx;exact SeqAt.EqAt.bool_int a b t
  | str b=>let⟨t,rfl⟩:=rx;exact SeqAt.EqAt.bool_str a b t
  | _=>exact absurd (show false=true from fx) Rc
 | int a=>
  let⟨t',rfl⟩:=ry;cases x with
  | non=>cases rx;exact SeqAt.EqAt.int_none a t'
  | bl b=>cases rx;exact SeqAt.EqAt.int_bool a t' b
  | int b=>let⟨t,rfl⟩:=rx;exact SeqAt.EqAt.int_int a t' b t
  | str b=>let⟨t,rfl⟩:=rx;exact SeqAt.EqAt.int_str a t' b t
  | _=>exact absurd (show false=true from fx) Rc
 | str a=>
  let⟨t',rfl⟩:=ry;cases x with
  | non=>cases rx;exact SeqAt.EqAt.str_none a t'
  | bl b=>cases rx;exact SeqAt.EqAt.str_bool a t' b
  | int b=>let⟨t,rfl⟩:=rx;exact SeqAt.EqAt.str_int a t' b t
  | str b=>let⟨t,rfl⟩:=rx;exact SeqAt.EqAt.str_str a t' b t
  | _=>exact absurd (show false=true from fx) Rc
 | _=>exact absurd (show false=true from fy) Rc
def LC(x:V)(u:Value):Bool:=match u with
 | .none=>yY .non x
 | .bool b=>yY (.bl b) x
 | .int i _=>yY (.int i) x
 | .str z _=>yY (.str z) x
 | _=>false
theorem yZ{x y:V}{u:Value}(r:RelV y u)(f:mh y=true):LC x u=yY y x:=by
 cases y with
 | non=>cases r;rfl
 | bl b=>cases r;rfl
 | int i=>let⟨t,rfl⟩:=r;rfl
 | str z=>let⟨t,rfl⟩:=r;rfl
 | _=>exact absurd (show false=true from f) Rc
theorem rH{A:Around}{x:V}(rx:RelV x v)(fx:mh x=true):∀{xs:List V} {us:List Value},Vals xs us->xs.all mh=true->∀u∈us,SeqAt.EqAt A s u v (LC x u)
 | _,_,.nil,_=>λ u hu=>by cases hu
 | y::xs,u::us,.cons r t,f=>λ u' hu=>by
  rw[all_cons,Qn] at f;rcases Qp.mp hu with rfl | hu
  .rw[yZ r f.1];exact Gm r rx f.1 fx
  .exact rH rx fx t f.2 u' hu
theorem pR:bB X (.builtin "len") (λ xs H Q=>∃p ys,xs=[.ref p]/\(gE X.K H p ys\/dI X.K H p ys)/\Q (.int ys.length) H):=by
 intro aa s Y H xs us Q I r h;let⟨p,ys,rfl,hq,q⟩:=h;let⟨u,rfl,rx⟩:=vals1 r;cases rx;have hn:=jr;rcases hq with hq | hq
 .let⟨its,r',pl,hz⟩:=I.list hq;have hlen:=r'.length;exact Calls.call_len_list pl.isList (by erw[Qq]<;>omega) ⟨.int ys.length,H,I.tok _,⟨s.toks+1,by rw[Qq,hlen]⟩,q⟩
 .let⟨its,r',pl,hz⟩:=I.tuple hq;have hlen:=r'.length;exact len_tuple pl (by erw[Qq]<;>omega) ⟨.int ys.length,H,I.tok _,⟨s.toks+1,by rw[Qq,hlen]⟩,q⟩
theorem pT:bB X (.builtin "len") (λ xs H Q=>∃z,xs=[.str z]/\z.length<=sizeLine/\Q (.int z.length) H):=by
 intro aa s Y H xs us Q I r h;let⟨z,rfl,hz,q⟩:=h;let⟨u,rfl,t,rfl⟩:=vals1 r;have hn:=jr;exact len_str 'o' ⟨.int z.length,H,I.tok _,⟨_,rfl⟩,q⟩
theorem pU:bB X (.type "list") (λ xs H Q=>∃p ys,xs=[.ref p]/\(gE X.K H p ys\/dI X.K H p ys)/\∀l,H l=none->Q (.ref l) (upd H l (.lst ys))):=by
 intro aa s Y H xs us Q I r h;let⟨p,ys,rfl,hq,q⟩:=h;let⟨u,rfl,rx⟩:=vals1 r;cases rx;have fin:∀(its:List Value),Vals ys its->ys.length<=sizeLine->∀(h':Heap) (c':Nat),(∀b o',s.heap.get? b=some o'->h'.get? b=some o')->
   h'.get? s.heap.objs.size=some {cls:=.type "list",dict:=none,data:=.seq its.toArray c',slots:=#[]}->EP X aa Y Q (.ref s.heap.objs.size) {s with heap:=h'}:=λ its r' hz h' c' kp e=>
  ⟨.ref s.heap.objs.size,_,I.laid (t':=s.toks) kp (Qk _) (show bU X.prog X.w _ h' _ (.lst ys) from⟨hz,its,c',r',e⟩),rfl,q _ (I.hok.fresh (Qk _))⟩
 rcases hq with hq | hq
 .let⟨its,r',pl,hz⟩:=I.list hq;have hlen:=r'.length;let⟨o,ho,hc,n,hd⟩:=pl.isList;exact call_list_seq p (.inl rfl) ho hc hd (λ h' c' kp e=>fin its r' hz h' c' kp e) (by erw[Qq]<;>omega)
 .let⟨its,r',pl,hz⟩:=I.tuple hq;have hlen:=r'.length;let⟨o,ho,hc,n,hd⟩:=pl;exact call_list_seq p (.inr rfl) ho hc hd (λ h' c' kp e=>fin its r' hz h' c' kp e) (by erw[Qq]<;>omega)
theorem nR:bB X (.type "tuple") (λ xs H Q=>∃p ys,xs=[.ref p]/\((gE X.K H p ys/\∀l,H l=none->Q (.ref l) (upd H l (.tup ys)))\/(dI X.K H p ys/\Q (.ref p) H))):=by
 intro aa s Y H xs us Q I r h;let⟨p,ys,rfl,h⟩:=h;let⟨u,rfl,rx⟩:=vals1 r;cases rx;rcases h with⟨hq,q⟩ | ⟨hq,q⟩
 .let⟨its,r',pl,hz⟩:=I.list hq;have hlen:=r'.length;refine call_tuple_list pl.isList (λ h' kp=>?_) (by erw[Qq]<;>omega);have I1:Inv X aa Y H {s with heap:=h'}:=I.kept (t':=s.toks) kp;have I2:Inv X aa Y (upd H h'.objs.size (.tup ys)) {s with heap:=h'.push {cls:=.type "tuple",data:=.seq its.toArray}}:=
   I1.laid (t':=s.toks) (λ b o e=>Qc _ e) (Qk _) (show bU X.prog X.w _ _ _ (.tup ys) from⟨hz,its,r',IsTup.new _ _⟩)
  exact⟨.ref h'.objs.size,_,I2,rfl,q _ (I1.hok.fresh (Qk _))⟩
 .let⟨its,r',pl,hz⟩:=I.tuple hq;exact call_tuple_same pl ⟨.ref p,H,I,rfl,q⟩
def OP(K:PySem.W.Frag)(T:String)(x:V)(H:Hp):Prop:=match x with
 | .str _=>T="str"
 | .int _=>T="int"
 | .ref p=>(T="list"/\∃xs,gE K H p xs)\/(T="tuple"/\∃o,K.lookup p=some o/\o.cls=.type "tuple"/\o.dict=none)\/
   (T="dict"/\((∃kvs,H p=@(.dK kvs))\/∃kvs,H p=@(.dT kvs)))\/(T="set"/\∃S n,H p=@(.set S n))
 | _=>False
theorem ud{T:String}{x:V}(I:Inv X aa Y H s)(r:RelV x v)(ty:OP X.K T x H) :
  s.TypeIs v T/\∀a,v=.ref a->∃ob,s.heap.get? a=some ob/\ob.dict=none:=by
 cases x with
 | str z=>
  let⟨t,rfl⟩:=r;cases (show T="str" from ty);exact⟨typeIs_str s z t,λ _ e=>nomatch e⟩
 | int i=>
  let⟨t,rfl⟩:=r;cases (show T="int" from ty);exact⟨typeIs_int s i t,λ _ e=>nomatch e⟩
 | ref p=>
  cases r;rcases ty with⟨rfl,xs,hq⟩ | ⟨rfl,o,hk,hc,hd⟩ | ⟨rfl,hk⟩ | ⟨rfl,S,n,hk⟩
  .let⟨its,_,pl,_⟩:=I.list hq;refine⟨pl.isList.typeIs,λ a e=>?_⟩;cases e;let⟨o,n,e,c,hd,_⟩:=pl;exact⟨o,e,hd⟩
  .refine⟨⟨o,I.tN p o hk,hc⟩,λ a e=>?_⟩;cases e;exact⟨o,I.tN _ o hk,hd⟩
  .have z:∃o,s.heap.get? p=some o/\o.ExactDict:=by
    rcases hk with⟨kvs,hk⟩ | ⟨kvs,hk⟩
    .let⟨_,_,_,_,o,_,_,e,ex,_⟩:=I.hok p _ hk;exact⟨o,e,ex⟩
    .let⟨_,_,_,_,o,_,_,e,ex,_⟩:=I.hok p _ hk;exact⟨o,e,ex⟩
   let⟨o,e,ex⟩:=z;refine⟨⟨o,e,ex.1⟩,λ a e2=>?_⟩;cases e2;exact⟨o,e,ex.2.1⟩
  .let⟨o,_,_,_,e,ex,_⟩:=I.hok p _ hk;refine⟨⟨o,e,ex.1⟩,λ a e2=>?_⟩;cases e2;exact⟨o,e,ex.2.1⟩
 | _=>exact False.elim ty
variable{o e:Expr}{es:List Expr}{to:TE}{t:TA}{name:Str}{apos cpos:Pos}{T id:String}{r:V->List V->Hp->VK->Prop}
end
end L2
namespace L2
open PySem PySem.Spec PyProof.Rows List
def JG(X:Cx)(id:String)(r:V->List V->Hp->VK->Prop):Prop:=
 ∀(aa:List (Addr×Obj)) (s:Shared) (Y:St) (H:Hp) (x:V) (xs:List V) (v:Value) (us:List Value) (Q:VK),Inv X aa Y H s->RelV x v->Vals xs us->r x xs H Q->
  wpAny (model X.prog X.w) X.A (call (.builtin id) (v::us)) (EP X aa Y Q) X.xe s
theorem Vals.one{x:V}{us:List Value}(h:Vals [x] us):∃u,us=[u]/\RelV x u:=by
 cases h with | cons r t=>cases t;exact⟨_,rfl,r⟩
theorem Vals.zero:∀{us:List Value},Vals [] us->us=[]
 | _,.nil=>rfl
theorem Vals.dropLast{xs:List V}{us:List Value}(h:Vals xs us):Vals xs.dropLast us.dropLast:=by
 induction h with
 | nil=>exact .nil
 | cons r t ih=>
  cases t with
  | nil=>exact .nil
  | cons q t'=>exact .cons r ih
theorem Vals.eraseIdx:∀{xs:List V} {us:List Value} (i:Nat),Vals xs us->Vals (xs.eraseIdx i) (us.eraseIdx i)
 | _,_,_,.nil=>.nil
 | _,_,0,.cons _ t=>t
 | _,_,i+1,.cons r t=>.cons r (Vals.eraseIdx i t)
theorem ue{α:Type}(l:List α):l.eraseIdx (l.length - 1)=l.dropLast:=by
 induction l with
 | nil=>rfl
 | cons a r ih=>
  cases r with
  | nil=>rfl
  | cons b r=>
   have e:(a::b::r).length - 1=((b::r).length - 1)+1:=by
    have h1:(a::b::r).length=r.length+2:=rfl;have h2:(b::r).length=r.length+1:=rfl;omega
   rw[e,eraseIdx_cons_succ,ih]
   all_goals rfl
theorem oG{α:Type}:∀(l:List α) (i:Nat),(l.eraseIdx i).length<=l.length
 | [],_=>Qk _
 | _::_,0=>Nat.le_succ _
 | _::r,i+1=>Nat.succ_le_succ (oG r i)
section
variable{X:Cx}{aa:List (Addr×Obj)}{Y:St}{H:Hp}{s:Shared}{l b:Addr}{xs ys zs:List V}
theorem Inv.pV{its its':List Value}{n:Nat}{f:Array Value->Array Value}{t':Nat}(I:Inv X aa Y H s)(hH:H l=@(.lst xs))
  (e:s.heap.get? l=some {cls:=.type "list",data:=.seq its.toArray n}) (hf:f its.toArray=its'.toArray) (hv:Vals ys its') (hz:ys.length<=sizeLine) :
  Inv X aa Y (upd H l (.lst ys)) {s with heap:=s.heap.update l (Obj.mapSeq f),toks:=t'}:=by
 have q:=PySem.IsL.update e f;rw[hf] at q;refine I.write (x:=l) (e:=l) (by rw[hH];exact trivial) (.inl rfl) (λ b' u hb hu=>(Heap.get?_update_other s.heap (Obj.mapSeq f) (Ne.symm hb)).trans hu) ⟨_,q⟩ ?_;exact⟨hz,its',_,hv,q⟩
theorem Inv.JH{its:List Value}{t':Nat}(I:Inv X aa Y H s)(hv:Vals ys its)(hz:ys.length<=sizeLine) :
  Inv X aa Y (upd H s.heap.objs.size (.lst ys)) {s with heap:=s.heap.push {cls:=.type "list",data:=.seq its.toArray},toks:=t'}:=
 I.laid (λ _ _ q=>Qc _ q) (Qk _) ⟨hz,its,0,hv,Qm _ rfl⟩
theorem Inv.fresh(I:Inv X aa Y H s):H s.heap.objs.size=none:=I.hok.fresh (Qk _)
theorem Inv.Gn(I:Inv X aa Y H s)(hH:H l=@(.lst xs)):xs.length<=sizeLine/\∃(its:List Value) (n:Nat),Vals xs its/\xs.length=its.length/\s.heap.get? l=some {cls:=.type "list",data:=.seq its.toArray n}:=by
 let⟨z,its,n,r,e⟩:=I.hok l _ hH;exact⟨z,its,n,r,r.length,e⟩
end
section
variable{X:Cx}
def Cj:V->List V->Hp->VK->Prop:=λ x vs H Q=>∃l xs y,x=.ref l/\vs=[y]/\H l=some (.lst xs)/\xs.length < sizeLine/\Q .non (upd H l (.lst (xs++[y])))
theorem oH:JG X "list.append" Cj:=by
 intro aa s Y H x vs v us Q I rx rv h;let⟨l,xs,y,rfl,rfl,hH,hz,q⟩:=h;cases rx;let⟨u,rfl,ru⟩:=rv.one;let⟨z,its,n,r,hl,e⟩:=I.Gn hH;refine call_meets F.slot_list_append ⟨_,e,rfl⟩ F.entry_list_append (F.args_list_append_2 _ _) (PySem.list_append l its.toArray n u (by rw[Qq];omega)) ⟨e,?_⟩;refine⟨.non,_,I.pV (its':=its++[u]) hH e 's' (r.append %[|ru]) ?_,rfl,q⟩;rw[Q5,length_singleton];omega
def MZ:V->List V->Hp->VK->Prop:=λ x vs H Q=>∃l xs y,x=.ref l/\vs=[]/\H l=some (.lst xs)/\xs[xs.length - 1]?=some y/\Q y (upd H l (.lst xs.dropLast))
theorem Gp:JG X "list.pop" MZ:=by
 intro aa s Y H x vs v us Q I rx rv h;let⟨l,xs,y,rfl,rfl,hH,hy,q⟩:=h;cases rx;have M0:=rv.zero;subst M0;let⟨z,its,n,r,hl,e⟩:=I.Gn hH;let⟨u,hu,ru⟩:=r.get hy;have hy':its.toArray[its.toArray.size - 1]?=some u:=by
  show its.toArray[its.length - 1]?=some u;rw[<-Array.getElem?_toList,<-hl];exact hu
 refine call_meets F.slot_list_pop ⟨_,e,rfl⟩ F.entry_list_pop (F.args_list_pop_1 _) (MeetsSeq.list_pop_last l its.toArray n u hy' (by rw[Qq];omega)) ⟨e,?_⟩;refine⟨y,_,I.pV (its':=its.dropLast) hH e ?_ r.dropLast ?_,ru,q⟩
 .show its.toArray.eraseIdxIfInBounds (its.toArray.size - 1)=its.dropLast.toArray;rw[Qq,eraseIdxIfInBounds_toArray,ue]
 .rw[length_dropLast];omega
def Gq:V->List V->Hp->VK->Prop:=λ x vs H Q=>∃l xs i k y,x=.ref l/\vs=[.int i]/\H l=some (.lst xs)/\-(2^63)<=i/\i < 2^63/\seqIndex? i xs.length=some k/\xs[k]?=some y/\Q y (upd H l (.lst (xs.eraseIdx k)))
theorem y9:JG X "list.pop" Gq:=by
 intro aa s Y H x vs v us Q I rx rv h;let⟨l,xs,i,k,y,rfl,rfl,hH,h1,h2,hk,hy,q⟩:=h;cases rx;let⟨u,rfl,ru⟩:=rv.one;let⟨t,rfl⟩:=ru;let⟨z,its,n,r,hl,e⟩:=I.Gn hH;let⟨w,hw,rw'⟩:=r.get hy;refine call_meets F.slot_list_pop ⟨_,e,rfl⟩ F.entry_list_pop (F.args_list_pop_2 _ _)
  (MeetsSeq.list_pop_at l its.toArray n i t k w (fitsIndex_both h1 h2) (by rw[Qq,<-hl];exact hk) (by rw[<-Array.getElem?_toList];exact hw) (by rw[Qq];omega)) ⟨e,?_⟩
 refine⟨y,_,I.pV (its':=its.eraseIdx k) hH e ?_ (r.eraseIdx k) ?_,rw',q⟩
 .show its.toArray.eraseIdxIfInBounds k=(its.eraseIdx k).toArray;rw[eraseIdxIfInBounds_toArray]
 .have:=oG xs k;omega
end
end L2
namespace L2
open PySem PySem.Spec PyProof.Rows List
variable{H:Hp}{P:Program}{w:World}
section
variable{κ:Type}[DecidableEq κ]
def k9(kvs:List (κ×V))(k:κ):Option V:=(kvs.find? λ kv=>decide (kv.1=k)).map (·.2)
def putK(kvs:List (κ×V))(k:κ)(v:V):List (κ×V):=
 if (kvs.any λ kv=>decide (kv.1=k))=true then kvs.map (λ kv=>if kv.1=k then (kv.1,v) else kv) else kvs++[(k,v)]
theorem rJ{p:κ×V}{r:List (κ×V)}{k:κ}(e:p.1=k):k9 (p::r) k=some p.2:=by simp[k9,find?_cons,e]
theorem rK{p:κ×V}{r:List (κ×V)}{k:κ}(e:¬p.1=k):k9 (p::r) k=k9 r k:=by simp[k9,find?_cons,e]
theorem iF.i0{o:Option V}{u:Option Value}(r:iF o u):o.isSome=u.isSome:=by
 cases o with
 | none=>cases u with
  | none=>rfl
  | some _=>exact(show False from r).elim
 | some _=>cases u with
  | none=>exact(show False from r).elim
  | some _=>rfl
theorem KV.val{kvs:List (κ×V)}{vs:List (κ×Value)}(r:KV kvs vs)(k:κ):iF (k9 kvs k) (valueAt vs k):=by
 unfold KV at r
 induction r with
 | nil=>exact True.intro
 | @cons p q ps qs h t ih=>
  let⟨h1,h2⟩:=h
  by_cases e:p.1=k
  .have e':q.1=k:=h1.symm.trans e;have b:valueAt (q::qs) k=some q.2:=by simp[valueAt,find?_cons,e']
   rw[rJ e,b];exact h2
  .have e':¬q.1=k:=λ z=>e (h1.trans z);have b:valueAt (q::qs) k=valueAt qs k:=by simp[valueAt,find?_cons,e']
   rw[rK e,b];exact ih
end
theorem vg{k:Key}{u:Value}(r:RelV (kV k) u):(bT P w).is k u=true:=by
 cases k with
 | inl i=>let⟨t,e⟩:=(show ∃t,u=Value.int i t from r);subst e;exact qU P w i t
 | inr x=>let⟨t,e⟩:=(show ∃t,u=Value.str x t from r);subst e;exact qV P w x t
theorem oJ:∀{ks:List Key} {us:List Value},Vals (ks.map kV) us->ItemsAre (bT P w) ks us
 | [],_,r=>by rw[map_nil] at r;cases r;exact .nil
 | k::ks,_,r=>by
  rw[QM] at r;cases r with
  | cons h t=>exact .cons (vg h) (oJ t)
abbrev KT(H:Hp):List (List Key×V)->List (List Key×Addr×Value)->Prop:=Paired λ p q=>p.1=q.1/\H q.2.1=some (.tup (p.1.map kV))/\RelV p.2 q.2.2
theorem KT.val{kvs:List (List Key×V)}{xs:List (List Key×Addr×Value)}(r:KT H kvs xs)(k:List Key):iF (k9 kvs k) ((atKey xs k).map (·.2)):=by
 induction r with
 | nil=>exact True.intro
 | @cons p q ps qs h t ih=>
  let⟨h1,_,h2⟩:=h
  by_cases e:p.1=k
  .have e':q.1=k:=h1.symm.trans e;have b:atKey (q::qs) k=some q.2:=by simp[atKey,find?_cons,e']
   rw[rJ e,b];exact h2
  .have e':¬q.1=k:=λ z=>e (h1.trans z);have b:atKey (q::qs) k=atKey qs k:=by simp[atKey,find?_cons,e']
   rw[rK e,b];exact ih
section
variable{P:Program}{w:World}{H:Hp}{h:Heap}{a:Addr}
theorem Ef{u:HO}(ok:iG P w H h)(e:Rd H a u):bU P w H h a u:=e.ok ok
theorem za{kvs:List (Key×V)}(ok:iG P w H h)(e:Rd H a (.dK kvs)):kvs.length<=sizeLine/\(a==sysModules)=false/\∃vs,KV kvs vs/\h.DictOf (bT P w) a vs:=
 show bU P w H h a (.dK kvs) from Ef ok e
theorem uf{ks:List Key}(ok:iG P w H h)(e:H a=@(.tup (ks.map kV))):(tupleKind (bT P w)).is h ks a:=by
 let⟨_,its,r,o,h1,h2,n,h3⟩:=(show bU P w H h a (.tup (ks.map kV)) from ok a _ e);exact⟨o,its.toArray,n,h1,h2,h3,by simpa using oJ r⟩
theorem Eg{kvs:List (List Key×V)}(ok:iG P w H h)(e:Rd H a (.dT kvs)):kvs.length<=sizeLine/\(a==sysModules)=false/\
  ∃xs,KT H kvs xs/\h.DictOfH (tupleKind (bT P w)) a xs:=by
 let⟨z,y,xs,r,o,es,ep,h1,h2,h3,h4,h5⟩:=(show bU P w H h a (.dT kvs) from Ef ok e);refine⟨z,y,xs,r,o,es,ep,h1,h2,h3,h4,λ x hx=>?_,h5⟩;have all:∀{l:List (List Key×V)} {m:List (List Key×Addr×Value)},KT H l m->∀x∈m,(tupleKind (bT P w)).is h x.1 x.2.1:=by
  intro l m q
  induction q with
  | nil=>intro x hx;exact nomatch hx
  | @cons p q ps qs hq t ih=>
   intro x hx;rcases Qp.mp hx with e | hx
   .subst e;exact uf ok (by rw[<-hq.1];exact hq.2.1)
   .exact ih x hx
 exact all r x hx
end
def Ck(H:Hp)(a:Addr)(y:V)(r:Option V):Prop:=
 (∃kvs k,Rd H a (.dK kvs)/\y=kV k/\r=k9 kvs k)\/∃kvs k b,Rd H a (.dT kvs)/\y=.ref b/\H b=some (.tup (k.map kV))/\r=k9 kvs k
theorem Ck.k{a:Addr}{kvs:List (Key×V)}{k:Key}(e:H a=@(.dK kvs)):Ck H a (kV k) (k9 kvs k):=.inl ⟨kvs,k,.inl e,rfl,rfl⟩
section
variable{X:Cx}{aa:List (Addr×Obj)}{Y:St}{H:Hp}{s:Shared}{a:Addr}{y v:V}{u r:Value}{o:Option V}{A:Around}{E:Value->Shared->Prop}
theorem Inv.big(I:Inv X aa Y H s):sysModules < s.heap.objs.size:=by
 have h:mainGlobals < s.heap.objs.size:=(I.mod.glob.keeps I.bk).lt;exact Nat.lt_trans 'd' h
theorem M3{Q:Value->Shared->Prop}(hu:A.units+1 < cLine)(I:Inv X aa Y H s)(g:Ck H a y o)(ry:RelV y u)(h:∀s',Inv X aa Y H s'->Q (.bool o.isSome) s') :
  wpAny (model X.prog X.w) A (compareOp .In u (.ref a)) Q E s:=by
 rcases g with⟨kvs,k,e,ey,l⟩ | ⟨kvs,k,b,e,ey,eb,l⟩
 .subst ey;let⟨z,hd,vs,rel,dd⟩:=za I.hok e;refine wpAny_in_of (vg ry) hd dd.mapOf ?_;rw[<-(rel.val k).i0,<-l];exact h _ (I.tok _)
 .subst ey;cases (show u=Value.ref b from ry);let⟨z,hd,xs,rel,dd⟩:=Eg I.hok e;refine wpAny_in_heap (tupleKind_room_in1 hu) (uf I.hok eb) hd dd ?_;have q:=(rel.val k).i0;rw[Option.isSome_map] at q;rw[<-q,<-l];exact h _ (I.tok _)
theorem Co{Q:Value->Shared->Prop}(hu:A.units+1 < cLine)(I:Inv X aa Y H s)(g:Ck H a y o)(ry:RelV y u)(h:∀s',Inv X aa Y H s'->Q (.bool (!o.isSome)) s') :
  wpAny (model X.prog X.w) A (compareOp .NotIn u (.ref a)) Q E s:=by
 rcases g with⟨kvs,k,e,ey,l⟩ | ⟨kvs,k,b,e,ey,eb,l⟩
 .subst ey;let⟨z,hd,vs,rel,dd⟩:=za I.hok e;refine wpAny_notIn_of (vg ry) hd dd.mapOf ?_;rw[<-(rel.val k).i0,<-l];exact h _ (I.tok _)
 .subst ey;cases (show u=Value.ref b from ry);let⟨z,hd,xs,rel,dd⟩:=Eg I.hok e;refine wpAny_notIn_heap (tupleKind_room_in1 hu) (uf I.hok eb) hd dd ?_;have q:=(rel.val k).i0;rw[Option.isSome_map] at q;rw[<-q,<-l];exact h _ (I.tok _)
end
theorem zb(h:Heap)(hb:sysModules < h.objs.size):bU P w H (h.push {cls:=.type "dict",data:=.dict #[]}) h.objs.size (.dK []):=
 ⟨RC _,beq_eq_false_iff_ne.mpr (Ne.symm (Ql hb)),[],.nil,Heap.DictOf.new h⟩
def Gr(kvs more:List (Key×V)):List (Key×V):=more.foldl (λ acc kv=>putK acc kv.1 kv.2) kvs
end L2
namespace Att
open PySem PySem.W PySem.Calls PyProof.Rows List
theorem lg{P:Params}{h:Heap}:∀(ns:List Int) (vs:List Value),WellAll P h vs (ns.map WData.int)->IntsAre vs ns:=by
 intro ns
 induction ns with
 | nil=>
  intro vs w;rw[map_nil] at w;cases w;exact .nil
 | cons n ns ih=>
  intro vs w;rw[QM] at w;cases w with
  | cons a b=>
   cases a;exact .cons _ _ (ih _ b)
theorem xg{l:OpenLaw}{n:Nat}(hn:l.most=some n){P:Params}{h:Heap}{args:List WData}{vals:List Value}
  (hpre:l.row.toRowW.claim.pre args=true) (hwl:WellAll P h vals args) :
  ∃a vs ns,vals=[Value.ref a]/\args=[WData.list (ns.map WData.int)]/\h.get? a=some {cls:=.type "list",data:=.seq vs.toArray}/\IntsAre vs ns/\ns.length<=n:=by
 have hsh:WShape.hasAll [] args [.list .int]=true:=(pre_splitW hpre).1;have hc:l.pre.holds [] {args:=args}=true:=(pre_splitW hpre).2;let⟨d,r,rfl,h1,h2⟩:=hasAllW_cons hsh;obtain rfl:=hasAllW_nil h2;let⟨xs,rfl,h3⟩:=hasW_list h1;let⟨ns,rfl⟩:=items_int h3;have hlen:ns.length<=n:=by
  unfold OpenLaw.pre at hc;have h4:(WTm.not (.lt (.lit (.int (n:Int))) (.len (.arg 0)))).holds [] {args:=[.list (ns.map .int)]}=true:=by
   have h4:=(holds_andW hc).1;rw[hn] at h4;exact h4
  have h5:=condW_of h4 (w_not (w_lt w_lit (w_len_list (w_arg rfl))));rw[Qi] at h5;refine Nat.le_of_not_lt λ q=>?_;have q':(n:Int) < ((ns.length:Nat):Int):=by omega
  first
   | (rw[Q2 q'] at h5;exact absurd h5 'd')
   | (simp at h5;omega)
 cases hwl with
 | cons w1 w2=>
  cases w2;cases w1 with
  | list ho hall=>exact⟨_,_,ns,rfl,rfl,ho,lg ns _ hall,hlen⟩
theorem xh(l:OpenLaw)(args:List WData):l.row.toRowW.claim.post args (.bool true) args=true:=
 postW_of (r:=l.row.toRowW) (X:=(true==true))
  (show WShape.has [] (.bool true) .bool=true by first | rfl | decide | simp[WShape.has,WShape.arms,WShape.armsAll])
  (show (WTm.eq .res (.lit (.bool true))).value [] {args:=args,res:=@(.bool true),after:=args}=some (.bool (true==true)) from w_eq_bool (w_res rfl) w_lit) rfl
theorem rL{l:OpenLaw}{n:Nat}{q:Program}{loose:List Str}{XP:(Str->Option Value)->Heap->Prop}{YP:World->Heap->Prop}{d:DefRec}
  (hn:l.most=some n) (hdf:d.params.defaults=[])
  (call:∀(w:World) (s₀ s₁:Shared) (mg mb:Str->Option Value) (fa:Addr) (o:Obj) (pm cd doc:Value) (a:Addr) (vs:List Value) (ns:List Int),
   Ground q loose [] XP w s₀ mg mb s₁.heap->YP w s₁.heap->
   s₁.heap.get? fa=some o->o.data=.func (docDef d.name d.params d.body d.scope pm cd doc)->s₁.heap.CodeRec cd d.name->mg d.name=some (.ref fa)->
   s₁.heap.get? a=some {cls:=.type "list",data:=.seq vs.toArray}->IntsAre vs ns->ns.length<=n->s₁.gens=#[]->
   codeAny (model l.prog w) callerA (.call (.ref fa) ⟨[.ref a],[]⟩) (λ r s'=>r=.ok (.ret (.bool true))/\OldK s₁.heap s'.heap/\s'.os=s₁.os/\AllBare s'.gens) s₁) :
  WalkO q loose XP YP l.row.toRowW d [] (λ f vs=>PySem.call f vs):=by
 intro w s₀ s₁ mg mb G P8 fa o pm cd doc dV kV ho hd hcd hD hmg hg args vals as hpre hlay hrd hwl hlo;obtain rfl:dV=.none:=Dflts.none hD hdf;obtain rfl:kV=.none:=Dflts.noKw hD;let⟨a,vs,ns,rfl,rfl,hobj,hints,hlen⟩:=xg hn hpre hwl;refine enter_call (RU (call w s₀ s₁ mg mb fa o pm cd doc a vs ns G P8 ho (fd_plain hd) hcd hmg hobj hints hlen hg) λ r s' hq=>?_);let⟨rfl,h2,h3,h4⟩:=hq;exact⟨.inl ⟨.bool true,.bool true,[],rfl,λ _=>rfl,.bool true,xh l _,λ _=>⟨List.Pairwise.nil,λ _ hm=>(nomatch hm)⟩⟩,h2,h3,h4⟩
end Att
namespace L2
open PySem PySem.Spec PyProof.Rows List
theorem oK:∀{vs:List Value} {ns:List Int},IntsAre vs ns->Vals (ns.map V.int) vs
 | _,_,.nil=>.nil
 | _,_,.cons n t h=>.cons ⟨t,rfl⟩ (oK h)
def Gs(H:Hp):Prop:=∀b,H b=none\/∃o xs,H b=@(.frz o (.lst xs))
theorem zc{P:Program}{w:World}{K:PySem.W.Frag}{mg mb:Str->Option Value}{CX:yu}{k:Nat}{fa a:Addr}{fd:FuncData}{x:Str}{sp:Sp}{s₁:Shared}{vs:List Value}{ns:List Int}
  (KX:K.In s₁.heap) (hns:s₁.heap.Ns mainGlobals mg) (hb:s₁.heap.Ns builtinsNs mb) (N7:∀x:Str,x≠"__name__"->mb x=bootBuiltins x) (hlim:s₁.heap.NoLimit) (hg:s₁.gens=#[])
  (ha:s₁.heap.get? a=some {cls:=.type "list",data:=.seq vs.toArray}) (hi:IntsAre vs ns) (hl:ns.length<=sizeLine) (hr:eK k callerA)
  (F:∀base:Heap,K.In base->base.Ns mainGlobals mg->gX P w K mg base CX k fa fd [x] sp) (hbind:∀(s:Shared) (u:Value),BindsTo s fd ⟨[u],[]⟩ [(x,u)])
  (t6:∀H:Hp,Gs H->gE K H a (ns.map V.int)->sp [.ref a] H (λ v _=>v=.bl true) λ _ _ _=>False)
  (M4:∀H e s',CX [] H s₁ (λ _ _ _=>False) e s'->False) :
  codeAny (model P w) callerA (.call (.ref fa) ⟨[.ref a],[]⟩) (λ r s'=>r=.ok (.ret (.bool true))/\OldK s₁.heap s'.heap/\s'.os=s₁.os/\AllBare s'.gens) s₁:=by
 have rv:=oK hi;have M5:=hi.length;have core:∀H:Hp,Gs H->gE K H a (ns.map V.int)->iG P w H s₁.heap->(∀b,H b≠none->b=a)->(H a≠none->K.lookup a=none)->
   codeAny (model P w) callerA (.call (.ref fa) ⟨[.ref a],[]⟩) (λ r s'=>r=.ok (.ret (.bool true))/\OldK s₁.heap s'.heap/\s'.os=s₁.os/\AllBare s'.gens) s₁:=by
  intro H hO hS hok hA hK;have vh:∀{b:Addr} {o:Obj},s₁.heap.get? b=some o->H b=none->(pF s₁.heap H).get? b=some o:=λ e n=>yC e n;have JA:∀{b:Addr} {o:Obj} {es:Array DictEntry} {ep:Nat},s₁.heap.get? b=some o->o.data=.dict es ep->H b=none:=λ {b o es ep} e d=>by
   cases q:H b with
   | none=>rfl
   | some u=>
    have e':b=a:=hA b (by rw[q];simp);subst e';rw[ha] at e;cases e;have d':Data.seq vs.toArray _=Data.dict es ep:=d;cases d'
  have LD:∀{b:Addr} {m:Str->Option Value},s₁.heap.Ns b m->(pF s₁.heap H).Ns b m:=λ {b m} ⟨o,es,ep,e,d,r⟩=>⟨o,es,ep,vh e (JA e d),d,r⟩;have N8:K.In (pF s₁.heap H):=λ b o e=>vh (KX b o e) (by
   cases q:H b with
   | none=>rfl
   | some u=>
    have e':b=a:=hA b (by rw[q];simp);subst e';rw[hK (by rw[q];simp)] at e;cases e)
  have hM:Mod K mg (pF s₁.heap H):=⟨N8,LD hns,⟨mb,LD hb,N7⟩,let ⟨mc,h1,h2⟩:=hlim;⟨mc,LD h1,h2⟩⟩;have e0:tY P w K mg (pF s₁.heap H) callerA [] s₁ H:=⟨rfl,hM,λ b o e=>BG e,Nat.le_of_eq (wO _ _),trivial,λ b hb=>absurd (show b∈([]:List Addr) from hb) 's',hok,.of_eq hg⟩;refine RU ((F _ N8 (LD hns)).run callerA [] s₁ H ⟨[.ref a],[]⟩ [.ref a] [.ref a] _ _ hr e0 (hbind s₁ (.ref a)) %[|rfl] (t6 H hO hS)) λ r s' h=>?_;cases r with
  | error e=>exact(M4 H e s' h).elim
  | ok fl=>
   cases fl with
   | next=>exact False.elim h
   | brk=>exact False.elim h
   | cont=>exact False.elim h
   | ret u=>
    let⟨v,H',os,bare,un,hok',r',q⟩:=h;have q':v=.bl true:=q;subst q';obtain rfl:u=Value.bool true:=r';refine⟨rfl,OldK.of_keep λ b o e=>?_,os,bare⟩;cases q:H b with
    | none=>exact un.keep b o e q (by intro z;exact absurd (show b∈([]:List Addr) from z) 's') 's'
    | some u=>
     rcases hO b with z | ⟨ob,xs,z⟩
     .rw[q] at z;cases z
     .have z2:=un.kX b ob _ z;let⟨e1,_⟩:=hok b _ z;let⟨e2,_⟩:=hok' b _ z2;rw[e] at e1;cases e1;exact e2
 cases hk:K.lookup a with
 | some o=>
  have e:=KX a o hk;rw[ha] at e;cases e;refine core (λ _=>none) (λ _=>.inl rfl) (.inr ⟨_,vs.toArray,_,hk,rfl,rfl,rfl,by rw[Qq,M5];exact hl,by simpa using rv⟩) (λ b u z=>by have z':(none:Option HO)=some u:=z;cases z') (λ b z=>absurd rfl z) λ z=>absurd rfl z
 | none=>
  refine core (λ b=>if b=a then some (.frz {cls:=.type "list",data:=.seq vs.toArray} (.lst (ns.map V.int))) else none) (λ b=>?_) (.inl (.inr ⟨{cls:=.type "list",data:=.seq vs.toArray},Qs rfl⟩)) (λ b u z=>?_) (λ b z=>?_) λ _=>hk
  .by_cases hb:b=a
   .exact .inr ⟨_,_,Qs hb⟩
   .exact .inl (Qz hb)
  .by_cases hb:b=a
   .have z':=(Qs hb).symm.trans z;cases z';subst hb;exact⟨ha,by rw[Qi];exact hl,vs,_,rv,ha⟩
   .have z':=(Qz hb).symm.trans z;cases z'
  .by_cases hb:b=a
   .exact hb
   .exact absurd (Qz hb) z
end L2
namespace L2
open PySem PySem.Spec PyProof.Rows List
theorem Cp{l:PySem.W.OpenLaw}{n k:Nat}{q:Program}{loose:List Str}{XP:(Str->Option Value)->Heap->Prop}{YP:World->Heap->Prop}{d:DefRec}{K:Params->PySem.W.Frag}{CX:World->yu}{sp:World->Sp}{x:Str}
  (hn:l.most=some n) (hn2:n<=sizeLine) (hdf:d.params.defaults=[]) (hr:eK k callerA)
  (hY:∀(w:World) (h:Heap),YP w h->(K w.params).In h)
  (F:∀(w:World) (mg:Str->Option Value) (fa:Addr) (h:Heap),(K w.params).In h->h.Ns mainGlobals mg->mg d.name=some (.ref fa)->
   ∃fd:FuncData,(∀(s:Shared) (u:Value),BindsTo s fd ⟨[u],[]⟩ [(x,u)])/\
    ∀base:Heap,(K w.params).In base->base.Ns mainGlobals mg->gX l.prog w (K w.params) mg base (CX w) k fa fd [x] (sp w))
  (t6:∀(w:World) (H:Hp) (a:Addr) (ns:List Int),ns.length<=n->Gs H->gE (K w.params) H a (ns.map V.int)->sp w [.ref a] H (λ v _=>v=.bl true) λ _ _ _=>False)
  (M4:∀(w:World) (H:Hp) (s:Shared) (e:Value) (s':Shared),CX w [] H s (λ _ _ _=>False) e s'->False) :
  PySem.W.WalkO q loose XP YP l.row.toRowW d [] (λ f vs=>PySem.call f vs):=by
 refine Att.rL hn hdf λ w s₀ s₁ mg mb fa o pm cd doc a vs ns G P8 ho hd hcd hmg hobj hints hlen hg=>?_;have KX:=hY w _ P8;let⟨fd,hb,hF⟩:=F w mg fa _ KX G.T.g hmg;exact zc KX G.T.g G.T.b G.T.builtins G.T.nolimit hg hobj hints (QC hlen hn2) hr hF hb (λ H hO hS=>t6 w H a ns hlen hO hS) λ H e s'=>M4 w H s₁ e s'
end L2
namespace L2
open PySem PySem.Spec PyProof.Rows List
def inClass(s:Stmt)(j:Nat):Stmt:=match s with
 | .ClassDef _ _ _ body _ _ _ _ _ _ _=>body.getD j (.Pass ⟨0,0,0,0⟩)
 | _=>.Pass ⟨0,0,0,0⟩
def i6(s:Stmt):Arguments:=match s with
 | .FunctionDef _ a _ _ _ _ _ _ _ _=>a
 | _=>{posonlyargs:=[],args:=[],vararg:=none,kwonlyargs:=[],kw_defaults:=[],kwarg:=none,defaults:=[]}
def gm(s:Stmt):List Stmt:=match s with
 | .FunctionDef _ _ b _ _ _ _ _ _ _=>b
 | _=>[]
def bf(s:Stmt):Scope:=match s with
 | .FunctionDef _ _ _ _ _ _ sc _ _ _=>sc
 | _=>{kind:=.function,names:=[],isGenerator:=false,isCoroutine:=false}
abbrev xj:yu:=λ _ _ _ _ _ _=>False
abbrev E0:XK:=λ _ _ _=>False
theorem rM{X:Cx}:Passes xj X E0:=λ _ _ _ _ _ _ _ h=>h.elim
structure LF(K:PySem.W.Frag)(x qual:Str)(st:Stmt)(f:Addr)(fd:FuncData):Prop where
 ex:∃(oc:Value) (od:Option Addr) (kV doc pm:Value) (an:Option Addr) (cdv ct:Value) (osl:Array (Option Value)),
  fd=PySem.W.fnOf x qual (i6 st) (gm st) (bf st) .none kV doc pm an cdv ct/\K.lookup f=some ⟨oc,od,.func fd,osl⟩/\PySem.W.codeIn K cdv qual=true
 kp:PySem.W.keepIn K (.ref f)=true
section
variable{P:Program}{w:World}{K:PySem.W.Frag}{mg:Str->Option Value}{base:Heap}
theorem LF.ok{x qual:Str}{st:Stmt}{f:Addr}{fd:FuncData}{N ps:List Str}{k:Nat}{sp:Sp}(F:LF K x qual st f fd)(S:lF N ps (bf st))(len:∀vs H Q E,sp vs H Q E->vs.length=ps.length)
  (hbody:∀(cdv:Value) (A:Around) (outer:List Env) (s:Shared) (H:Hp) (vs:List V) (Q:VK) (E:XK),eK k (A.deeper (envOfC qual (bf st) s.heap.objs.size f cdv))->sp vs H Q E->
   ∃t,lV (tZ xj P w K mg base N qual (bf st) f cdv A outer s H E).Je (gm st) t/\t {nx:=λ _ H'=>Q .non H',rt:=Q} (start N vs) H):gX P w K mg base xj (k+1) f fd ps sp:=by
 let⟨oc,od,kV,doc,pm,an,cdv,ct,osl,rfl,lk,hcd⟩:=F.ex;refine JB lk hcd S len λ A outer s H vs Q E hr t6=>?_;let⟨t,h,q⟩:=hbody cdv A outer s H vs Q E hr t6;exact⟨t,h.Je,q⟩
theorem Gu{x qual:Str}{st:Stmt}{f:Addr}{oc:Value}{od an:Option Addr}{osl:Array (Option Value)}{kV doc pm cdv ct:Value}(l:K.lookup f=some ⟨oc,od,.func (PySem.W.fnOf x qual (i6 st) (gm st) (bf st) .none kV doc pm an cdv ct),osl⟩)
  (c:PySem.W.codeIn K cdv qual=true) (k:PySem.W.keepIn K (.ref f)=true):LF K x qual st f (PySem.W.fnOf x qual (i6 st) (gm st) (bf st) .none kV doc pm an cdv ct):=⟨⟨oc,od,kV,doc,pm,an,cdv,ct,osl,rfl,l,c⟩,k⟩
end
end L2
end
section
namespace L2
open PySem PySem.Spec PyProof.Rows List
variable{P:Program}{env:Env}{its:Array Value}{n:Nat}{w:World}
def br:List Nat->St->St
 | [],Y=>Y
 | j::r,Y=>br r (Y.set j none)
theorem vj:∀(js:List Nat) (Y:St),(br js Y).length=Y.length
 | [],_=>rfl
 | j::r,Y=>by rw[br,vj r,length_set]
theorem rN:∀{js:List Nat} {Y:St} {i:Nat} {v:V},(br js Y)[i]?=some (some v)->Y[i]?=some (some v)/\i∉js
 | [],_,_,_,h=>⟨h,by simp⟩
 | j::r,Y,i,v,h=>by
  let⟨h1,h2⟩:=rN (js:=r) h
  by_cases e:j=i
  .subst e;rw[getElem?_set] at h1;rw[Qs rfl] at h1;split at h1<;>cases h1
  .rw[QT e] at h1;exact⟨h1,λ hm=>(Qp.mp hm).elim (λ q=>e q.symm) h2⟩
def eU(env:Env):List (Str×NameKind)->List (Str×Addr)->List (Str×Addr)
 | [],acc=>acc
 | (n,k)::r,acc=>eU env r (if k==.free then (match env.cells.lookup n with | some c=>(n,c)::acc | none=>acc) else acc)
theorem jh:∀(names:List (Str×NameKind)) (acc:List (Str×Addr)),(∀y∈names,y.2=.free->∃c,env.cells.lookup y.1=some c)->
  (forIn (m:=Sem) names acc λ x r=>match x with | (name,kind)=>if (kind==NameKind.free)=true then do let a <-cellOf env name;pure (ForInStep.yield ((name,a)::r)) else pure (ForInStep.yield r))=pure (eU env names acc)
 | [],acc,_=>rfl
 | (n,k)::r,acc,h=>by
  rw[forIn_cons];have hr:=λ acc=>jh r acc λ y hy=>h y (Qj _ hy)
  by_cases hk:k=.free
  .subst hk;let⟨c,e⟩:=h (n,.free) Qu rfl;have e:env.cells.lookup n=some c:=e;erw[Rw,QL,cellOf,e,pure_bind,eU];exact hr _
  .have hb:(k==NameKind.free)=false:=by simpa using hk
   erw[hb,Qv,QK,pure_bind,eU];exact hr _
theorem nT{scope:Scope}(h:∀y∈scope.names,y.2=.free->∃c,env.cells.lookup y.1=some c):closureFor scope env=pure (eU env scope.names []):=by
 have q:=jh (env:=env) scope.names [] h;erw[closureFor]
 first
  | (rw[q];rfl)
  | (erw[pure_bind,bind_pure_comp,map_pure] at q ⊢;rw[q];rfl)
  | exact(RM (· >>= pure) q)
  | trace_state
theorem j3{x:Str}{c:Addr}:∀(names:List (Str×NameKind)) (acc:List (Str×Addr)),(∀c,acc.lookup x=some c->env.cells.lookup x=some c)->(eU env names acc).lookup x=some c->env.cells.lookup x=some c
 | [],acc,h,e=>h _ e
 | (n,k)::r,acc,h,e=>by
  refine j3 r _ ?_ e;intro c' e';split at e'
  .split at e'
   .ext c2 e2
    by_cases hx:x=n
    .subst hx;erw[Qy,Rw] at e';cases e';exact e2
    .have hb:(x==n)=false:=by simpa using hx
     erw[Qy,hb] at e';exact h _ e'
   .exact h _ e'
  .exact h _ e'
theorem oM{x:Str}:∀(names:List (Str×NameKind)) (acc:List (Str×Addr)),(∃c,acc.lookup x=some c)->∃c,(eU env names acc).lookup x=some c
 | [],acc,h=>h
 | (n,k)::r,acc,h=>by
  refine oM r _ ?_;split
  .split
   .ext c2 e2
    by_cases hx:x=n
    .subst hx;exact⟨c2,by simp[Qy]⟩
    .have hb:(x==n)=false:=by simpa using hx
     let⟨c,e⟩:=h;exact⟨c,by erw[Qy,hb];exact e⟩
   .exact h
  .exact h
theorem j4{x:Str}:∀(names:List (Str×NameKind)) (acc:List (Str×Addr)),(x,NameKind.free)∈names->(∃c,env.cells.lookup x=some c)->∃c,(eU env names acc).lookup x=some c
 | (n,k)::r,acc,hm,⟨c,e⟩=>by
  rcases Qp.mp hm with q | q
  .cases q;refine oM r _ ⟨c,?_⟩;erw[Rw,QL,e,Qy]
  .exact j4 r _ q ⟨c,e⟩
structure ig(N:List Str)(js:List Nat)(scope N9:Scope):Prop where
 kind:scope.kind=.function
 cell:∀y∈scope.names,y.2=.cell->scope.names.lookup y.1=some .cell
 loc:∀y∈scope.names,y.2=.local->scope.names.lookup y.1=some .local
 own:∀p∈N.zipIdx,(scope.names.lookup p.1=some .local\/scope.names.lookup p.1=some .cell)->p.2∈js
 free:∀y∈scope.names,y.2=.free->N9.names.lookup y.1=some .cell\/N9.names.lookup y.1=some .free
theorem gr{env:Env}:∀{names:List (Str×NameKind)} {x:Str} {k':NameKind},
  (names.map λ (n,k)=>if (k==NameKind.free&&env.scope.kind==.function&&env.kindOf n==some .cell) then (n,NameKind.cell) else (n,k)).lookup x=some k'->
  ∃k,names.lookup x=some k/\(k'=k\/(k=.free/\k'=.cell))
 | [],_,_,h=>by simp at h
 | (n,k)::r,x,k',h=>by
  have ih:=@gr env r x k';have h:List.lookup x ((if (k==NameKind.free&&env.scope.kind==.function&&env.kindOf n==some .cell)=true then (n,NameKind.cell) else (n,k))::(r.map λ (n,k)=>if (k==NameKind.free&&env.scope.kind==.function&&env.kindOf n==some .cell) then (n,NameKind.cell) else (n,k)))=some k':=h
  by_cases hc:(k==NameKind.free&&env.scope.kind==.function&&env.kindOf n==some .cell)=true
  .rw[Qs hc] at h;have hk:k=.free:=by
    erw[Qn] at hc;simpa using hc.1.1
   cases hx:x==n with
   | true=>
    erw[Qy,hx] at h;cases h;exact⟨k,by simp[Qy,hx],.inr ⟨hk,rfl⟩⟩
   | false=>
    erw[Qy,hx] at h;let⟨k2,e,r2⟩:=ih h;exact⟨k2,by erw[Qy,hx];exact e,r2⟩
  .rw[Qz hc] at h;cases hx:x==n with
   | true=>
    erw[Qy,hx] at h;cases h;exact⟨k,by simp[Qy,hx],.inl rfl⟩
   | false=>
    erw[Qy,hx] at h;let⟨k2,e,r2⟩:=ih h;exact⟨k2,by erw[Qy,hx];exact e,r2⟩
abbrev Cx.comp(X:Cx)(scope:Scope)(cl:List (Str×Addr))(s₀:Shared)(H₀:Hp)(fp:List Addr)(aa:List (Addr×Obj)):Cx:=
 {X with s₀:=s₀,H₀:=H₀,env:=compEnvC scope cl s₀.heap.objs.size X.env,outer:=X.stack,stack:=X.stack,ex:=fp,fn:=λ x=>scope.names.lookup x==some .cell,pn:=X.pn++aa,xe:=λ _ _=>False}
section
variable{X:Cx}{aa:List (Addr×Obj)}{Y:St}{H:Hp}{s:Shared}{scope:Scope}{js:List Nat}{fp:List Addr}
theorem mj(ok:ig X.N js scope X.env.scope){x:Str}(hx:(relabel scope X.env).names.lookup x=some .cell\/(relabel scope X.env).names.lookup x=some .free) :
  scope.names.lookup x=some .cell\/(scope.names.lookup x=some .free/\(x,NameKind.free)∈scope.names/\(X.env.kindOf x=some .cell\/X.env.kindOf x=some .free)):=by
 have k:∃k',(relabel scope X.env).names.lookup x=some k'/\(k'=.cell\/k'=.free):=by
  rcases hx with h | h
  .exact⟨_,h,.inl rfl⟩
  .exact⟨_,h,.inr rfl⟩
 let⟨k',h,hk⟩:=k;let⟨k,e,r⟩:=gr h;have fr:k=.free->scope.names.lookup x=some .cell\/(scope.names.lookup x=some .free/\(x,NameKind.free)∈scope.names/\(X.env.kindOf x=some .cell\/X.env.kindOf x=some .free)):=λ hf=>by
  subst hf;exact .inr ⟨e,Rg e,ok.free _ (Rg e) rfl⟩
 rcases r with r | r
 .subst r;rcases hk with z | z
  .subst z;exact .inl e
  .exact fr z
 .exact fr r.1
theorem Gv{x:Str}:∀{names:List (Str×NameKind)} {n:Nat} {acc:List (Str×Addr)},(∀y∈names,y.2=.cell->y.1≠x)->(cellsFrom n names acc).lookup x=acc.lookup x:=by
 intro names
 induction names with
 | nil=>intro n acc _;rw[cellsFrom.eq_def]
 | cons y r ih=>
  intro n acc h;rw[cellsFrom.eq_def];let⟨nm,k⟩:=y;have hr:=λ y hy=>h y (Qj _ hy)
  by_cases hk:k=.cell
  .have hb:(k==NameKind.cell)=true:=by simpa using hk
   erw[hb,QL];rw[ih hr];have:=h (nm,k) Qu hk;have hx:(x==nm)=false:=by simpa using this.symm
   erw[Qy,hx]
  .have hb:(k==NameKind.cell)=false:=by simpa using hk
   erw[hb,Qv,QK];exact ih hr
structure zd(n:Nat)(h:Heap)(cells:List (Str×Addr)):Prop where
 below:∀x c,cells.lookup x=some c->c < n
 inj:∀x y c,cells.lookup x=some c->cells.lookup y=some c->x=y
 cell:∀x c,cells.lookup x=some c->∃v,h.IsCell c v
theorem JI{lo:Nat}{base:List (Str×Addr)}:∀{names:List (Str×NameKind)} {h:Heap} {acc:List (Str×Addr)},zd h.objs.size h acc->lo<=h.objs.size->(∀x c,acc.lookup x=some c->base.lookup x=some c\/lo<=c)->
  zd (pushCells h names).objs.size (pushCells h names) (cellsFrom h.objs.size names acc)/\∀x c,(cellsFrom h.objs.size names acc).lookup x=some c->base.lookup x=some c\/lo<=c:=by
 intro names
 induction names with
 | nil=>intro h acc F _ hb;rw[cellsFrom.eq_def,pushCells.eq_def];exact⟨F,hb⟩
 | cons y r ih=>
  intro h acc F hlo hb;rw[cellsFrom.eq_def,pushCells.eq_def];let⟨nm,k⟩:=y
  by_cases hk:k=.cell
  .have M6:(k==NameKind.cell)=true:=by simpa using hk
   erw[M6,QL];have hsz:(h.push {cls:=.type "cell",data:=.cell none}).objs.size=h.objs.size+1:=QJ ..;rw[<-hsz];refine ih ⟨λ x c e=>?_,λ x y c e1 e2=>?_,λ x c e=>?_⟩ (by rw[hsz];omega) λ x c e=>?_
   .rw[hsz]
    by_cases hx:x=nm
    .subst hx;erw[Qy,Rw] at e;cases e;exact RE _
    .have hx:(x==nm)=false:=by simpa using hx
     erw[Qy,hx] at e;exact QU (F.below x c e)
   .by_cases hx:x=nm
    .by_cases hy:y=nm
     .exact hx.trans hy.symm
     .subst hx;have hy:(y==x)=false:=by simpa using hy
      erw[Qy,Rw] at e1;erw[Qy,hy] at e2;cases e1;exact absurd (F.below y _ e2) (Nat.lt_irrefl _)
    .have hx':(x==nm)=false:=by simpa using hx
     erw[Qy,hx'] at e1
     by_cases hy:y=nm
     .subst hy;erw[Qy,Rw] at e2;cases e2;exact absurd (F.below x _ e1) (Nat.lt_irrefl _)
     .have hy:(y==nm)=false:=by simpa using hy
      erw[Qy,hy] at e2;exact F.inj x y c e1 e2
   .by_cases hx:x=nm
    .subst hx;erw[Qy,Rw] at e;cases e;exact⟨none,_,Qm _ rfl,rfl⟩
    .have hx:(x==nm)=false:=by simpa using hx
     erw[Qy,hx] at e;let⟨v,o,ho,hd⟩:=F.cell x c e;exact⟨v,o,Qc _ ho,hd⟩
   .by_cases hx:x=nm
    .subst hx;erw[Qy,Rw] at e;cases e;exact .inr hlo
    .have hx:(x==nm)=false:=by simpa using hx
     erw[Qy,hx] at e;exact hb x c e
  .have M6:(k==NameKind.cell)=false:=by simpa using hk
   erw[M6,Qv,QK];exact ih F hlo hb
theorem Gw{x:Str}{lo:Nat}:∀{names:List (Str×NameKind)} {n:Nat} {acc:List (Str×Addr)} {c:Addr},lo<=n->((x,NameKind.cell)∈names\/∀c,acc.lookup x=some c->lo<=c)->(cellsFrom n names acc).lookup x=some c->lo<=c:=by
 intro names
 induction names with
 | nil=>intro n acc c _ h e;rw[cellsFrom.eq_def] at e;exact(h.resolve_left 's') c e
 | cons y r ih=>
  intro n acc c hn h e;rw[cellsFrom.eq_def] at e;let⟨nm,k⟩:=y
  by_cases hk:k=.cell
  .have hb:(k==NameKind.cell)=true:=by simpa using hk
   erw[hb,QL] at e;refine ih (Nat.le_succ_of_le hn) ?_ e
   by_cases hx:x=nm
   .subst hx;refine .inr λ c e=>?_;erw[Qy,Rw] at e;cases e;exact hn
   .rcases h with h | h
    .rcases Qp.mp h with q | q
     .cases q;exact absurd rfl hx
     .exact .inl q
    .refine .inr λ c e=>h c ?_;have hx:(x==nm)=false:=by simpa using hx
     simpa only[Qy,hx] using e
  .have hb:(k==NameKind.cell)=false:=by simpa using hk
   erw[hb,Qv,QK] at e;refine ih hn ?_ e;rcases h with h | h
   .rcases Qp.mp h with q | q
    .cases q;exact absurd rfl hk
    .exact .inl q
   .exact .inr h
structure CF(X:Cx)(scope:Scope)(n:Nat)(h:Heap)(cells:List (Str×Addr)):Prop where
 inj:∀x y c,cells.lookup x=some c->cells.lookup y=some c->x=y
 cell:∀x c,cells.lookup x=some c->∃v,h.IsCell c v
 old:∀x c,cells.lookup x=some c->X.env.cells.lookup x=some c\/n < c
 has:∀x,scope.names.lookup x=some .cell->∃c,cells.lookup x=some c
 out:∀x,scope.names.lookup x=some .free->cells.lookup x=(eU X.env scope.names []).lookup x
 own:∀x c,scope.names.lookup x=some .cell->cells.lookup x=some c->n<=c
theorem Inv.comp(I:Inv X aa Y H s)(ok:ig X.N js scope X.env.scope)(hf:∀b∈fp,jf X aa H b){h₁:Heap}{m₁:Str->Option Value}{tk:Nat}{cells:List (Str×Addr)}
  (hfs:∀b∈fp,b < s.heap.objs.size) (hn:h₁.Ns s.heap.objs.size m₁) (hk:∀b o,s.heap.get? b=some o->h₁.get? b=some o) (hm:∀x,m₁ x=none) (F:CF X scope s.heap.objs.size h₁ cells) :
  Inv (X.comp scope cells s H fp aa) [] (br js Y) H {s with heap:=h₁,toks:=tk}:=by
 have has:∀x,(x,NameKind.free)∈scope.names->∃c,X.env.cells.lookup x=some c:=λ x hx=>I.ok.has x (ok.free _ hx rfl);have sub:∀x c,(eU X.env scope.names []).lookup x=some c->X.env.cells.lookup x=some c:=λ x c e=>j3 _ _ 's' e;have stk:=I.pH;have hlt:=I.lt;refine⟨⟨I.mod,ok.kind,I.ok.glob,I.ok.blt,Qk _,F.inj,λ x hx=>?_,λ x c z e=>F.own x c (by simpa using z) e,I.ok.hd,I.ok.frames,.inl rfl,λ b hb=>⟨Ql (hfs b hb),λ x c e=>?_⟩,
  λ b o e=>I.bs b o e,QC I.ok.bsz I.sz,λ b o e hb=>?_,λ b hb z=>?_,I.stack,λ b hb=>I.u7 b hb⟩,rfl,I.bare,Un.kept hk,⟨m₁,hn,λ i x v e1 e2 e3=>?_⟩,λ x c e=>F.cell x c e,I.hok.fresh (Qk _),λ x c e=>?_,λ p hp=>?_,I.hok.kept hk,?_⟩
 .rcases mj ok hx with h1 | ⟨h1,h2,h3⟩
  .exact F.has x h1
  .show ∃c,cells.lookup x=some c;rw[F.out x h1];exact j4 _ _ h2 (has x h2)
 .rcases F.old x c e with e | e
  .exact(hf b hb).2.2.2.2.1 x c e
  .exact Q6 (Nat.lt_trans (hfs b hb) e)
 .have q:=(hf b hb).2.2.2.1;rcases q with q | q
  .exact I.ok.noex b o e q
  .exact absurd (Qh e) (Nat.not_lt.mpr (QC I.ok.bsz q))
 .rcases Qp.mp (stk b z) with q | q
  .exact(hf b hb).2.1 q
  .exact(hf b hb).2.2.1 q
 .let⟨c1,c2⟩:=rN e2;have e3:(relabel scope X.env).names.lookup x=some .local\/(relabel scope X.env).names.lookup x=some .cell\/(relabel scope X.env).names.lookup x=some .free:=e3;have Eh:∀{P:Prop},(scope.names.lookup x=some .local\/scope.names.lookup x=some .cell)->P:=λ ek=>absurd (ok.own (x,i) (by rw[mem_zipIdx_iff_getElem?];exact e1) ek) c2;rcases e3 with e3 | e3
  .let⟨k,ek,r⟩:=gr e3;have:k=.local:=by
    rcases r with r | ⟨_,r⟩
    .exact r.symm
    .cases r
   subst this;exact Eh (.inl ek)
  .rcases mj ok e3 with h1 | ⟨h1,h2,h3⟩
   .exact Eh (.inr h1)
   let⟨m,hm0,hl⟩:=I.loc;let⟨u,ru,lu⟩:=hl i x v e1 c1 (.inr h3);refine⟨u,ru,.inr ⟨e3,?_⟩⟩;rcases lu with⟨q,_⟩ | ⟨_,c,q1,q2⟩
   .rcases h3 with z | z<;>(rw[z] at q;cases q)
   .let⟨c',ec⟩:=j4 _ [] h2 (has x h2);have:=sub _ _ ec;rw[q1] at this;cases this;exact⟨c,(F.out x h1).trans ec,q2.keeps hk⟩
 .rcases F.old x c e with e | e
  .exact I.freeC x c e
  .exact I.hok.fresh (Nat.le_of_lt e)
 .rw[append_nil] at hp;let⟨h1,h2,h3,h4,h5⟩:=I.pin p hp;refine⟨hk _ _ h1,h2,Ql (Qh h1),λ z=>?_,h5⟩;rcases Qp.mp (stk _ z) with q | q
  .exact h3 q
  .exact h4 q
 .rw[vj];exact I.len
theorem Inv.enter(I:Inv X aa Y H s)(ok:ig X.N js scope X.env.scope)(hf:∀b∈fp,jf X aa H b)(hfs:∀b∈fp,b < s.heap.objs.size){Q:Env->Shared->Prop}{E:Value->Shared->Prop}
  (h:∀(cells:List (Str×Addr)) (h₁:Heap),(∀b o,s.heap.get? b=some o->h₁.get? b=some o)->CF X scope s.heap.objs.size h₁ cells->Inv (X.comp scope cells s H fp aa) [] (br js Y) H {s with heap:=h₁}->
   Q {scope:=scope,locals:=s.heap.objs.size,globals:=X.env.globals,cells:=cells,qual:=X.env.qual,func:=none,code:=X.env.code,frame:=X.env.frame,builtins:=X.env.builtins} {s with heap:=h₁}) :
  wpAny (model X.prog X.w) X.A (newFunctionEnv scope X.env.globals (eU X.env scope.names []) [] X.env.qual none .none (some X.env)) Q E s:=by
 unfold newFunctionEnv;refine Qa (wpAny_alloc ?_);refine Qa (wpAny_layCells _ (λ _ _ _=>rfl) _ _ _ _ ?_);refine Qa (Qg (Qg ?_));have hsz:(s.heap.push {cls:=.type (if (some X.env).isSome=true then "dict" else "frame"),data:=.dict #[]}).objs.size=s.heap.objs.size+1:=QJ ..;have sub:∀x c,(eU X.env scope.names []).lookup x=some c->X.env.cells.lookup x=some c:=λ x c e=>j3 _ _ 's' e;have cl:∀x c,(eU X.env scope.names []).lookup x=some c->∃v,s.heap.IsCell c v:=λ x c e=>I.cell x c (sub x c e);have F0:zd (s.heap.push {cls:=.type (if (some X.env).isSome=true then "dict" else "frame"),data:=.dict #[]}).objs.size (s.heap.push {cls:=.type (if (some X.env).isSome=true then "dict" else "frame"),data:=.dict #[]}) (eU X.env scope.names []):=by
  refine⟨λ x c e=>?_,λ x y c e1 e2=>I.ok.inj x y c (sub _ _ e1) (sub _ _ e2),λ x c e=>?_⟩
  .let⟨v,o,ho,_⟩:=cl x c e;rw[hsz];exact QU (Qh ho)
  .let⟨v,o,ho,hd⟩:=cl x c e;exact⟨v,o,Qc _ ho,hd⟩
 let⟨F1,F2⟩:=JI (lo:=s.heap.objs.size+1) (base:=X.env.cells) (names:=scope.names) F0 (by rw[hsz];exact Qk _) (λ x c e=>.inl (sub x c e));have old:∀b o,s.heap.get? b=some o->(pushCells (s.heap.push {cls:=.type (if (some X.env).isSome=true then "dict" else "frame"),data:=.dict #[]}) scope.names).get? b=some o:=λ b o e=>pushCells_keeps _ _ _ _ (Qc _ e);have own:∀x,scope.names.lookup x=some .cell->∀c,(cellsFrom (s.heap.push {cls:=.type (if (some X.env).isSome=true then "dict" else "frame"),data:=.dict #[]}).objs.size scope.names (eU X.env scope.names [])).lookup x=some c->s.heap.objs.size<=c:=λ x hx c e=>Gw (by rw[hsz];exact Nat.le_succ _) (.inl (Rg hx)) e;have F:CF X scope s.heap.objs.size (pushCells (s.heap.push {cls:=.type (if (some X.env).isSome=true then "dict" else "frame"),data:=.dict #[]}) scope.names) (cellsFrom (s.heap.push {cls:=.type (if (some X.env).isSome=true then "dict" else "frame"),data:=.dict #[]}).objs.size scope.names (eU X.env scope.names [])):=by
  refine⟨F1.inj,F1.cell,λ x c e=>?_,λ x hx=>?_,λ x hx=>?_,λ x c hx e=>own x hx c e⟩
  .rcases F2 x c e with q | q
   .exact .inl q
   .exact .inr q
  .have:=PySem.W.cellsFrom_some scope.names (s.heap.push {cls:=.type (if (some X.env).isSome=true then "dict" else "frame"),data:=.dict #[]}).objs.size (eU X.env scope.names []) (.inl hx);exact Option.isSome_iff_exists.mp this
  .refine Gv λ y hy hk e=>?_;have:=ok.cell y hy hk;rw[e,hx] at this;cases this
 have hns:(pushCells (s.heap.push {cls:=.type (if (some X.env).isSome=true then "dict" else "frame"),data:=.dict #[]}) scope.names).Ns s.heap.objs.size λ _=>none:=by
  have g:(s.heap.push {cls:=.type (if (some X.env).isSome=true then "dict" else "frame"),data:=.dict #[]}).get? s.heap.objs.size=some {cls:=.type (if (some X.env).isSome=true then "dict" else "frame"),data:=.dict #[]}:=Qm _ rfl;refine⟨_,_,_,pushCells_keeps _ _ _ _ g,rfl,?_,?_⟩
  .intro e he;simp at he
  .intro nm;rfl
 exact h _ _ old F (I.comp (tk:=s.toks) ok hf hfs hns old (λ _=>rfl) F)
theorem iG.off{h h':Heap}{C:Addr}(x:iG P w H h)(hn:H C=none)(k:∀b o,b≠C->h.get? b=some o->h'.get? b=some o):iG P w H h':=λ a o e=>
 (x a o e).stay (λ b u hb q=>k b u (by
  rintro rfl;rcases hb with z | z
  .rw[z,e] at hn;cases hn
  .rw[z] at hn;cases hn) q) (λ _ q=>q) λ _ _ q=>q
theorem Inv.Gx(I:Inv X aa Y H s){σ':St}{H':Hp}{s':Shared}{cl:List (Str×Addr)}(hf:∀b∈fp,jf X aa H b)(P9:Inv (X.comp scope cl s H fp aa) [] σ' H' s'){h':Heap}
  (hk:∀b o,b≠s.heap.objs.size->s'.heap.get? b=some o->h'.get? b=some o):Inv X aa Y H' {s' with heap:=h'}:=by
 have nC:H' s.heap.objs.size=none:=P9.free;have nb:∀b o,s.heap.get? b=some o->b≠s.heap.objs.size:=λ b o e=>Ql (Qh e);have u:=P9.base;refine I.I8 (ch:=fp) P9.os ⟨λ b o e n h1 h2=>hk b o (nb b o e) (u.keep b o e n h1 h2),λ b o e n h1 h2=>?_,u.free,λ b o e h2=>?_,u.tups,u.kX,u.lT⟩ (P9.hok.off nC hk) P9.bare λ b hb=>⟨(hf b hb).2.2.2.1,(hf b hb).2.1,(hf b hb).2.2.2.2.1,(hf b hb).2.2.2.2.2⟩
 .let⟨sl,q⟩:=u.slot b o e n h1 h2;exact⟨sl,hk _ _ (nb b o e) q⟩
 .let⟨o',q⟩:=u.there b o e h2;exact⟨o',hk _ _ (nb b o e) q⟩
end
def mq(X:Cx)(ifs:List Expr)(t:TT):Prop:=
 ∀(aa:List (Addr×Obj)) (s:Shared) (Y:St) (H:Hp) (Q:Bool->Hp->Prop),Inv X aa Y H s->t Y H Q->
  wpAny (model X.prog X.w) X.A (forIn ifs true λ c r=>if r=true then do let ok <-isTrue c X.env (eval c X.env);pure (ForInStep.yield ok) else pure (ForInStep.yield r)) (TP X aa Y Q) X.xe s
def M7:TT:=λ _ H Q=>Q true H
theorem ze{X:Cx}:mq X [] M7:=λ aa s Y H Q I h=>wpAny_tests_nil ⟨H,I,h⟩
theorem zf{X:Cx}{c:Expr}{t:TT}(h:PT X c t):mq X [c] t:=λ aa s Y H Q I q=>wpAny_tests_one (h aa s Y H Q I q)
mutual
inductive Dt(K:PySem.W.Frag)(H:Hp):V->PyData->Prop
 | non:Dt K H .non .none
 | bl (b):Dt K H (.bl b) (.bool b)
 | int (i):Dt K H (.int i) (.int i)
 | str (x):Dt K H (.str x) (.str x)
 | lst {a xs ds}:gE K H a xs->Ei K H xs ds->Dt K H (.ref a) (.list ds)
 | tup {a xs ds}:dI K H a xs->Ei K H xs ds->Dt K H (.ref a) (.tuple ds)
inductive Ei(K:PySem.W.Frag)(H:Hp):List V->List PyData->Prop
 | nil:Ei K H [] []
 | cons {x xs d ds}:Dt K H x d->Ei K H xs ds->Ei K H (x::xs) (d::ds)
end
section
variable{X:Cx}{aa:List (Addr×Obj)}{Y:St}{H:Hp}{s:Shared}
mutual
theorem Inv.reads(I:Inv X aa Y H s):∀{v:V} {d:PyData} {u:Value},Dt X.K H v d->RelV v u->∃as,Reads s.heap u d as
 | _,_,_,.non,r=>by cases r;exact⟨_,.none⟩
 | _,_,_,.bl b,r=>by cases r;exact⟨_,.bool b⟩
 | _,_,_,.int i,r=>by let⟨t,rfl⟩:=r;exact⟨_,.int i t⟩
 | _,_,_,.str x,r=>by let⟨t,rfl⟩:=r;exact⟨_,.str x t⟩
 | _,_,_,.lst h t,r=>by
  cases r;let⟨its,rv,p,hz⟩:=I.list h;let⟨o,ho,hc,n,hd⟩:=p.isList;let⟨as,ra⟩:=I.readsAll t rv;exact⟨_,.list ho hc hd (by simpa using ra)⟩
 | _,_,_,.tup h t,r=>by
  cases r;let⟨its,rv,p,hz⟩:=I.tuple h;let⟨o,ho,hc,n,hd⟩:=p;let⟨as,ra⟩:=I.readsAll t rv;exact⟨_,.tuple ho hc hd (by simpa using ra)⟩
theorem Inv.readsAll(I:Inv X aa Y H s):∀{v:List V} {d:List PyData} {u:List Value},Ei X.K H v d->Vals v u->∃as,ReadsAll s.heap u d as
 | _,_,_,.nil,.nil=>⟨_,.nil⟩
 | _,_,_,.cons h t,.cons r rs=>by
  let⟨as,a⟩:=I.reads h r;let⟨bs,b⟩:=I.readsAll t rs;exact⟨_,.cons a b⟩
end
def M8(K:PySem.W.Frag):R2:=λ x y H Q=>∃d e,Dt K H x d/\Dt K H y e/\d.canLay0=true/\e.canLay0=true/\d.depth<=60/\Q (.bl (PyData.eqv d e)) H
def M9(K:PySem.W.Frag):R2:=λ x y H Q=>∃d e,Dt K H x d/\Dt K H y e/\d.canLay0=true/\e.canLay0=true/\d.depth<=60/\Q (.bl (!PyData.eqv d e)) H
theorem Gy(hu:X.A.units+64 < cLine):ie X (compareOp .Eq) (M8 X.K):=by
 intro aa s Y H x y v u Q I rx ry h;let⟨d,e,h1,h2,h3,h4,h5,q⟩:=h;let⟨as,ra⟩:=I.reads h1 rx;let⟨bs,rb⟩:=I.reads h2 ry;exact PySem.SeqAt.compareEq_reads ra rb h3 h4 (by have:min d.depth e.depth<=d.depth:=Nat.min_le_left _ _;omega) ⟨.bl _,H,I,rfl,q⟩
theorem Gz(hu:X.A.units+64 < cLine):ie X (compareOp .NotEq) (M9 X.K):=by
 intro aa s Y H x y v u Q I rx ry h;let⟨d,e,h1,h2,h3,h4,h5,q⟩:=h;let⟨as,ra⟩:=I.reads h1 rx;let⟨bs,rb⟩:=I.reads h2 ry;exact PySem.SeqAt.compareNe_reads ra rb h3 h4 (by have:min d.depth e.depth<=d.depth:=Nat.min_le_left _ _;omega) ⟨.bl _,H,I,rfl,q⟩
end
section
variable{X:Cx}
theorem zg(bs:List Bool):((List.range bs.length).all λ i=>bs.getD i true)=bs.all id:=by
 induction bs with
 | nil=>rfl
 | cons b r ih=>
  rw[QB,range_succ_eq_map,all_cons,all_map,all_cons];show (b&&_)=(b&&_);rw[<-ih];rfl
theorem zh(hh:X.A.handled=none):bB X (.builtin "all") (λ xs H Q=>∃(p:Addr) (bs:List Bool),xs=[.ref p]/\gE X.K H p (bs.map V.bl)/\Q (.bl (bs.all id)) H):=by
 intro aa s Y H xs us Q I r h;let⟨p,bs,rfl,hq,q⟩:=h;let⟨u,rfl,rx⟩:=vals1 r;cases rx;let⟨its,rv,pl,hz⟩:=I.list hq;have hl:=pl.isList;have hlt:p < s.heap.objs.size:=by let⟨_,e,_⟩:=hl;exact Qh e
 have len:=rv.length;rw[Qi] at len;refine call_all_walk (RP hl ?_);refine⟨_,_,_,_,_,_,(λ i=>bs.getD i true),rfl,Walks.list (A:=X.A.in1) hh s.heap.objs.size p (Ql hlt) its.toArray,⟨⟨_,Qm _ rfl,rfl,rfl⟩,hl.push _⟩,?_,?_⟩
 .intro i v s' Q' E' hv hq';have hv:its[i]?=some v:=by simpa using hv
  have hi:i < its.length:=(Qd.mp hv).1;have hb:i < bs.length:=by omega
  have e:(bs.map V.bl)[i]?=some (V.bl (bs[i])):=by simp[hb]
  let⟨u,hu,ru⟩:=rv.get e;rw[hv] at hu;cases hu;cases ru;have:bs.getD i true=bs[i]:=by simp[List.getD,hb]
  dsimp only at hq';rw[this] at hq';exact Ra hq'
 .intro h' tk hk;have e:((List.range its.toArray.size).all λ i=>bs.getD i true)=bs.all id:=by
   rw[Qq,<-len];exact zg bs
  rw[e];refine⟨.bl _,H,I.kept (t':=tk) λ b o eb=>hk b o (λ z=>?_) (Qc _ eb),rfl,q⟩;rw[QY] at z;exact Ql (Qh eb) z
end
def asc(z:Str):Bool:=z.cps.all (· < 128)
def Na(z:Str):It:=⟨λ i _=>i < z.cps.size,λ i H x H'=>H'=H/\∃c,z.cps[i]?=some c/\x=.str ⟨#[c]⟩,λ i _=>z.cps.size<=i⟩
theorem zj{K:PySem.W.Frag}{tg:Expr}(z:Str)(t:Tok)(it:Addr):Turn P w K tg (Na z) [it] it (λ i h=>h.IsStrIter it "str_ascii_iterator" z t i) where
 mem:=by simp
 obj:=λ i h st b hb=>by
  obtain rfl:b=it:=by simpa using hb
  let⟨o,e,c,d⟩:=st;exact⟨o,e,λ v q=>by rw[d] at q;cases q⟩
 keep:=λ i h h' st k=>let ⟨o,e,r⟩:=st;⟨o,k it 's' o e,r⟩
 item:=by
  intro X hP hw hK hc i aa s Y H E I hf st hg;subst hP hw hK;have hg:i < z.cps.size:=hg;let⟨f0,f1,f2,f3,f4,f5⟩:=hf it 's';refine wpAny_pyNext_ascii_item st (c:=z.cps[i]) (by simp[hg]) λ h' st' sb=>?_;have I1:Inv X aa Y H {s with heap:=h',toks:=s.toks+1}:=I.turned (λ b o hb e=>(sb.2 b hb).trans e) f0 f1 f3 f4 f5;let⟨o,e,c,d⟩:=id st';exact⟨_,rfl,vc (s:={s with heap:=h',toks:=s.toks+1}) e c d 'd' ⟨.str ⟨#[z.cps[i]]⟩,H,I1,⟨_,rfl⟩,⟨rfl,_,by simp[hg],rfl⟩,st',λ b hb=>(hf b hb).1⟩⟩
 done:=by
  intro X hP hw hK hc i aa s Y H E I hf st hg;subst hP hw hK;have hg:z.cps.size<=i:=hg;let⟨f0,f1,f2,f3,f4,f5⟩:=hf it 's';exact wpAny_pyNext_ascii_end (I.ok.hd hc) st (by simp[hg]) λ h' eb=>⟨rfl,I.turned (t':=s.toks) (λ b o hb e=>eb b o hb e) f0 f1 f3 f4 f5⟩
 self:=λ _ _ _ _ _ st h=>wpAny_pyIter_striter_ascii st h
section
variable{X:Cx}{tg:Expr}
def Nb(tl:TE):TI:=fun Y H R=>tl Y H λ x H1=>∃z,x=.str z/\asc z=true/\R (Na z) H1
theorem GA{l:Expr}{tl:TE}(hl:PE X l tl):PI X tg l (Nb tl):=by
 intro aa s Y H R I h;refine bY (hl aa s Y H _ I h) λ v s1 ⟨x,H1,I1,r1,q1⟩=>?_;let⟨z,rfl,ha,q⟩:=q1;let⟨t,rfl⟩:=r1;refine wpAny_pyIter_ascii ha ?_;refine⟨s1.heap.objs.size,[s1.heap.objs.size],_,_,H1,rfl,I1.kept (t':=s1.toks) λ b o e=>Qc _ e,zj z t _,⟨_,Qm _ rfl,rfl,rfl⟩,λ b hb=>?_,q⟩;obtain rfl:b=s1.heap.objs.size:=by simpa using hb
 exact I1.pI (Qk _) (I1.hok.fresh (Qk _))
end
def LG(K:PySem.W.Frag)(a:Addr):It:=
 ⟨λ i H=>∃xs x,gE K H a xs/\xs[i]?=some x,λ i H x H'=>∃p v,H p=none/\x=.ref p/\H'=upd H p (.tup [.int i,v])/\∀xs,gE K H a xs->xs[i]?=some v,λ i H=>∃xs,gE K H a xs/\xs.length<=i⟩
theorem xm{K:PySem.W.Frag}{elts:List Expr}{x1}{pos:Pos}(a e it:Addr)(hne:e≠it) :
  Turn P w K (.Tuple elts x1 pos) (LG K a) [e,it] e (λ i h=>(∃old,IsEnum h e it (i:Int) old)/\h.IsListIter it a i) where
 mem:=by simp
 obj:=λ i h st b hb=>by
  let⟨⟨old,he⟩,o,ho,hc,hd⟩:=st;rcases Qp.mp hb with rfl | hb
  .refine⟨_,he,λ v q=>?_⟩;have q':Data.fields _=Data.cell v:=q;cases q'
  .obtain rfl:b=it:=by simpa using hb
   exact⟨o,ho,λ v q=>by rw[hd] at q;cases q⟩
 keep:=λ i h h' st k=>by
  let⟨⟨old,he⟩,o,ho,r⟩:=st;exact⟨⟨old,k e 's' _ he⟩,o,k it 's' o ho,r⟩
 item:=by
  intro X hP hw hK hc i aa s Y H E I hf st hg;subst hP hw hK;let⟨xs,x,hq,hx⟩:=hg;let⟨⟨old,he⟩,hit⟩:=st;let⟨its,rv,p,hz⟩:=I.list hq;let⟨u,hu,ru⟩:=rv.get hx;let⟨f0,f1,f2,f3,f4,f5⟩:=hf e 's';let⟨g0,g1,g2,g3,g4,g5⟩:=hf it 's';refine wpAny_pyNext_enum_item he hit p.isList (x:=u) (by simpa using hu) hne λ h1 ho hi ht hs k1=>⟨_,rfl,?_⟩;have he':e < s.heap.objs.size:=Qh he;have hi':it < s.heap.objs.size:=by let⟨o,q,_⟩:=hit;exact Qh q
  refine wpAny_letOwnedTupleGo_enum (s:={s with heap:=h1,toks:=s.toks+1}) ho λ h2 hE sb=>?_;have k2:∀b o,b≠e->b≠it->s.heap.get? b=some o->h2.get? b=some o:=λ b o n1 n2 q=>sb.extBut b o n1 (k1 b o n1 n2 q);have Nc:h2.get? s.heap.objs.size=some {cls:=.type "tuple",data:=.seq #[.int i s.toks,u]}:=sb.extBut _ _ (Q6 he') ht;have hsz2:h2.objs.size=s.heap.objs.size+1:=by rw[sb.1];exact hs
  have nU:H s.heap.objs.size=none:=I.hok.fresh (Qk _);have nt:∀b o,H b=some o->b≠e/\b≠it:=λ b o q=>⟨(λ z=>by rw[z,f0] at q;cases q),(λ z=>by rw[z,g0] at q;cases q)⟩;have hok:iG X.prog X.w (upd H s.heap.objs.size (.tup [.int i,x])) h2:=by
   have lift:∀b o,H b=some o->bU X.prog X.w (upd H s.heap.objs.size (.tup [.int i,x])) h2 b o:=λ b o q=>
    (I.hok b o q).stay (λ c v hcv r=>k2 c v (by
     rcases hcv with z | z
     .rw[z];exact(nt b o q).1
     .exact(nt c _ z).1) (by
     rcases hcv with z | z
     .rw[z];exact(nt b o q).2
     .exact(nt c _ z).2) r) (λ c r=>by rw[aq (au r nU)];exact r) λ c ys r=>by rw[aq (au r nU)];exact r
   intro b o q
   by_cases eb:b=s.heap.objs.size
   .subst eb;rw[aJ] at q;cases q;exact⟨by show 2<=sizeLine;decide,[.int i s.toks,u],.cons ⟨_,rfl⟩ %[|ru],⟨_,Nc,rfl,_,rfl⟩⟩
   .rw[aq eb] at q;exact lift b o q
  have I2:Inv X aa Y (upd H s.heap.objs.size (.tup [.int i,x])) {s with heap:=h2,toks:=s.toks+1}:=by
   refine I.step (g':=s.gens) (d':=s.drawn) (ch:=[e,it]) (λ b hb=>?_) (λ b o hL hb hcb q n=>?_) (λ b o hL hb hcb q n=>?_) (λ b o hcb q n=>?_) (λ b o hcb q=>?_) (λ b ys q=>by rw[aq (au q nU)];exact q) (λ b o u q=>by rw[aq (au q nU)];exact q)
    (λ b ps q=>⟨#[],by rw[aq (au q nU),q];simp⟩) (λ m hm=>?_) hok I.bare
   .rcases Qp.mp hb with rfl | hb
    .exact⟨f3,f1,f4,f5⟩
    .obtain rfl:b=it:=by simpa using hb
     exact⟨g3,g1,g4,g5⟩
   .erw[Rq,RV,or_false,not_or] at hcb;exact k2 b o hcb.1 hcb.2 q
   .erw[Rq,RV,or_false,not_or] at hcb;exact⟨o.slots,k2 b o hcb.1 hcb.2 q⟩
   .rw[aq (Ql (Qh q))];exact n
   .erw[Rq,RV,or_false,not_or] at hcb;exact⟨o,k2 b o hcb.1 hcb.2 q⟩
   .let⟨o,es,ep,q,r⟩:=hm;exact⟨o,es,ep,k2 _ o (Ne.symm f1) (Ne.symm g1) q,r⟩
  refine⟨.ref s.heap.objs.size,_,I2,rfl,⟨_,x,nU,rfl,rfl,λ ys hy=>by rw[I.lW hy hq];exact hx⟩,⟨⟨_,by have:=hE;rw[show ((i:Int)+1)=((i+1:Nat):Int) by omega] at this;exact this⟩,?_⟩,λ b hb=>?_⟩
  .let⟨o,q,r⟩:=hi;exact⟨o,sb.extBut _ _ (Ne.symm hne) q,r⟩
  .rcases Qp.mp hb with rfl | hb
   .rw[aq (Ql he')];exact f0
   .obtain rfl:b=it:=by simpa using hb
    rw[aq (Ql hi')];exact g0
 done:=by
  intro X hP hw hK hc i aa s Y H E I hf st hg;subst hP hw hK;let⟨xs,hq,hx⟩:=hg;let⟨⟨old,he⟩,hit⟩:=st;let⟨its,rv,p,hz⟩:=I.list hq;let⟨g0,g1,g2,g3,g4,g5⟩:=hf it 's';have hl:=rv.length;exact wpAny_pyNext_enum_end (I.ok.hd hc) he hit p.isList (by simp;omega) λ h' eb=>⟨rfl,I.turned (t':=s.toks) (λ b o hb q=>eb b o hb q) g0 g1 g3 g4 g5⟩
 self:=λ _ _ _ _ _ st h=>by
  let⟨⟨old,he⟩,_⟩:=st;exact wpAny_pyIter_enum he h
section
variable{X:Cx}
def JJ(K:PySem.W.Frag)(ta:TA):TI:=fun Y H R=>ta Y H λ vs H1=>∃a,vs=[.ref a]/\(∃xs,gE K H1 a xs)/\R (LG K a) H1
theorem Cq{l:Expr}{ta:TA}{p pos tpos:Pos}{elts:List Expr}{x1}(hg:Gl X "enumerate")(hm:X.mg "enumerate"=none)(ha:PA X [l] ta)(hs:starEach [l] X.env=[(false,eval l X.env)]:=by rfl) :
  PI X (.Tuple elts x1 tpos) (.Call (.Name "enumerate" p) [l] [] pos) (JJ X.K ta):=by
 intro aa s Y H R I h;refine Call_ (g9 I hg hm (u:=.type "enumerate") 'k' (Rh (bY (ha pos aa s Y H _ I h) λ us s1 ⟨vs,H1,I1,r1,q1⟩=>?_) hs rfl));let⟨a,rfl,⟨xs,hq⟩,q⟩:=q1;let⟨u,rfl,ru⟩:=vals1 r1;cases ru;let⟨its,rv,pl,hz⟩:=I1.list hq;refine call_enumerate_list pl.isList λ h' he hit hsz hk=>?_;refine wpAny_pyIter_enum he ?_;have I2:Inv X aa Y H1 {s1 with heap:=h'}:=I1.kept (t':=s1.toks) hk;refine⟨_,_,_,_,H1,rfl,I2,xm a (s1.heap.objs.size+1) s1.heap.objs.size (Nat.succ_ne_self _),⟨⟨_,he⟩,hit⟩,λ b hb=>?_,q⟩;rcases Qp.mp hb with rfl | hb
 .exact I1.pI (Nat.le_succ _) (I1.hok.fresh (Nat.le_succ _))
 .obtain rfl:b=s1.heap.objs.size:=by simpa using hb
  exact I1.pI (Qk _) (I1.hok.fresh (Qk _))
end
theorem JK:isSubtype (.type "tuple") (.type "set")=pure false:=by rw[isSubtype_type];kernel_rfl
theorem JL:isSubtype (.type "tuple") (.type "frozenset")=pure false:=by rw[isSubtype_type];kernel_rfl
section
variable{prog:Program}{w:World}{A:Around}{E:Value->Shared->Prop}{s:Shared}
set_option maxHeartbeats 3200000 in
theorem mw{l:Addr}{ns:List Int}{Q:Value->Shared->Prop}
  (hh:A.handled=none) (hl:s.heap.IsTuple l its) (hi:IntsAre its.toList ns) (hb:its.size+1 < scanBound)
  (h:∀(h':Heap) (tk:Nat),h'.SetOf (intKind prog w) s.heap.objs.size (λ j=>(firstMet (λ i=>ns.getD i 0) its.size).any (·==j)) (firstMet (λ i=>ns.getD i 0) its.size).length->
   (∀b o,b < s.heap.objs.size->s.heap.get? b=some o->h'.get? b=some o)->Q (.ref s.heap.objs.size) {s with heap:=h',toks:=tk}) :
  wpAny (model prog w) A (call (.type "set") [.ref l]) Q E s:=by
 let⟨cc,tl,hmro⟩:=F.called_set.mro;have hmade:=F.called_set.made;have hsub:=F.called_set.sub;refine wpAny_call (codeAny_of_tree ?_);show wpAny _ _ (callAny (.type "set") _) _ _ _;refine Qg ⟨Code.quiet_builtin _ 'k',codeAny_builtin F.entry_type_call ?_⟩;rw[RI (weight_type_call_type "set" [.ref l] []) rfl];have k1:=F.called_set.notType;have k2:=F.called_set.canCreate;have k3:=F.typeCall_set_1 (.ref l)
 repeat (any_goals (first | assumption | wp_step))
 refine RU (code_set_new_1 (.ref l) (E:=E) (Q₁:=λ ob t₁=>∃led:Bool,ob=.ref s.heap.objs.size/\t₁={s with heap:=s.heap.push {cls:=.type "set",dict:=none,data:=.set #[] 0 (.fresh 0 0 led)}}) λ led=>⟨led,rfl,rfl⟩) λ r t₁ hr=>?_;cases r with
 | error e=>exact hr
 | ok fl=>
  cases fl with
  | ret ob=>
   let⟨led,rfl,rfl⟩:=hr;have gS:(s.heap.push {cls:=.type "set",dict:=none,data:=.set #[] 0 (.fresh 0 0 led)}).get? s.heap.objs.size=some {cls:=.type "set",dict:=none,data:=.set #[] 0 (.fresh 0 0 led)}:=Qm _ rfl;have gT:Shared.TypeIs {s with heap:=s.heap.push {cls:=.type "set",dict:=none,data:=.set #[] 0 (.fresh 0 0 led)}} (.ref s.heap.objs.size) "set":=⟨_,gS,rfl⟩;have k4:=F.called_set.init.lookup;have k5:=F.called_set.init.bind (.ref s.heap.objs.size)
   repeat (any_goals (first | assumption | wp_step))
   refine RU (Rx (R:=wants (λ r t₂=>r=.none/\∃h' tk,t₂={s with heap:=h',toks:=tk}/\
     h'.SetOf (intKind prog w) s.heap.objs.size (λ j=>(firstMet (λ i=>ns.getD i 0) its.size).any (·==j)) (firstMet (λ i=>ns.getD i 0) its.size).length/\
     (∀b o,b < s.heap.objs.size->s.heap.get? b=some o->h'.get? b=some o)) E) F.called_set.init.plain F.entry_set_init (check_set_init_1 gT ?_)) λ r₂ t₂ hr₂=>?_
   .let⟨ol,hol,hcl,nl,hdl⟩:=hl;let⟨ocls,odict,odata,oslots⟩:=ol;simp only at hcl hdl;subst hcl;subst hdl;have Nd:(s.heap.push {cls:=.type "set",dict:=none,data:=.set #[] 0 (.fresh 0 0 led)}).get? l=some {cls:=.type "tuple",dict:=odict,data:=.seq its nl,slots:=oslots}:=Qc _ hol;have k6:=JK;have k7:=JL;have k8:(Value.type "tuple"==Value.type "dict")=false:=by decide
    have gl:(s.heap.push {cls:=.type "set",dict:=none,data:=.set #[] 0 (.fresh 0 0 led)}).IsTuple l its:=⟨_,Nd,rfl,nl,rfl⟩;unfold Builtin.«set.__init__» noKeywords Builtin.Frozenset.updateFrom;generalize gPI:pyIter=PI
    wp_walk
    subst gPI;refine wpAny_pyIter_tuple gl ?_;refine Qa (wpAny_runValue ?_);have lS:l < s.heap.objs.size:=Qh hol;have h3:A.in1.in1.in1.handled=none:=by simp[hh]
    have nI:l≠(s.heap.push {cls:=.type "set",dict:=none,data:=.set #[] 0 (.fresh 0 0 led)}).objs.size:=by
     rw[QJ];exact Ql (QU lS)
    have nS:s.heap.objs.size∉[(s.heap.push {cls:=.type "set",dict:=none,data:=.set #[] 0 (.fresh 0 0 led)}).objs.size,l]:=by
     rw[QJ];erw[Rq,QY,RV,or_false,not_or];exact⟨Ql (RE _),Q6 lS⟩
    have hv:∀(i:Nat) (v:Value),its[i]?=some v->∃t,v=.int ((λ i=>ns.getD i 0) i) t:=λ i v hv=>
     IntsAre.int_at hi i v (by rw[Array.getElem?_toList];exact hv)
    refine codeAny_set_update_loopS ((Walks.tuple h3 _ l nI its).toS) s.heap.objs.size
     nS (λ i=>ns.getD i 0) hv hb (its.size - 0) 0 _ 'o' (RC _)
     ⟨⟨_,Qm _ rfl,rfl,rfl⟩,(gl.push _)⟩ ?hS0 ?hR
    case hS0=>
     have hget:((s.heap.push {cls:=.type "set",dict:=none,data:=.set #[] 0 (.fresh 0 0 led)}).push {cls:=.type "tuple_iterator",data:=.fields #[.ref l,.int 0 0]}).get? s.heap.objs.size
       = some {cls:=.type "set",dict:=none,data:=.set #[] 0 (.fresh 0 0 led)}:=Qc _ gS
     exact SetOf_congr ((setObjOf_fresh (knd:=intKind prog w) led).setOf hget (by unfold scanBound;omega)) (λ _=>rfl) rfl
    case hR=>
     intro s' hm hS';let⟨h',g',d',tk',os'⟩:=s';have eg:g'=s.gens:=hm.gens;have ed:d'=s.drawn:=hm.drawn;have eo:os'=s.os:=hm.os;subst eg;subst ed;subst eo;show wpAny _ _ _ _ _ _;refine Qg ?_;show wpAny _ _ (ret Value.none) _ _ _;refine Qg ⟨rfl,h',tk',rfl,hS',λ b o hb e=>?_⟩;have hb1:b≠s.heap.objs.size:=Ql hb;have hb2:b≠(s.heap.push {cls:=.type "set",dict:=none,data:=.set #[] 0 (.fresh 0 0 led)}).objs.size:=by
      rw[QJ];exact Ql (QU hb)
     exact hm.heap b o (by erw[Rq,QY,RV,or_false,not_or];exact⟨hb1,hb2⟩) (Qc _ (Qc _ e))
   .cases r₂ with
    | error e=>exact hr₂
    | ok fl₂=>
     cases fl₂ with
     | ret r=>
      let⟨rfl,h',tk,rfl,hS',hk'⟩:=hr₂
      repeat (any_goals (first | assumption | wp_step))
      exact h _ _ hS' hk'
     | _=>exact hr₂.elim
  | _=>exact hr.elim
end
section
variable{X:Cx}
def unlike(ns:List Int):Nat:=(firstMet (λ i=>ns.getD i 0) ns.length).length
theorem xo(hh:X.A.handled=none):bB X (.type "set") (λ xs H Q=>∃(a:Addr) (ns:List Int),xs=[.ref a]/\dI X.K H a (ns.map V.int)/\ns.length<=4000/\∀p S,H p=none->Q (.ref p) (upd H p (.set S (unlike ns)))):=by
 intro aa s Y H xs us Q I r h;let⟨a,ns,rfl,hq,hz,q⟩:=h;let⟨u,rfl,rx⟩:=vals1 r;cases rx;let⟨its,rv,ht,hl⟩:=I.tuple hq;have len:=rv.length;rw[Qi] at len;refine mw hh (show s.heap.IsTuple a its.toArray from ht) (by simpa using intsAre_of rv) (by rw[Qq];unfold scanBound;omega) λ h' tk hS hk=>?_;rw[show its.toArray.size=ns.length by simp[len]] at hS;have kp:∀b o,s.heap.get? b=some o->h'.get? b=some o:=λ b o e=>hk b o (Qh e) e;exact⟨.ref s.heap.objs.size,_,I.laid (t':=tk) (o:=.set _ (unlike ns)) kp (Qk _) hS,rfl,q _ _ (I.hok.fresh (Qk _))⟩
theorem nV:bB X (.builtin "len") (λ xs H Q=>∃(a:Addr) (S:Int->Bool) (n:Nat),xs=[.ref a]/\H a=some (.set S n)/\Q (.int n) H):=by
 intro aa s Y H xs us Q I r h;let⟨a,S,n,rfl,hq,q⟩:=h;let⟨u,rfl,rx⟩:=vals1 r;cases rx;let⟨o,es,ep,t,h1,h2,h3,h4,h5,h6,h7,h8⟩:=I.hok _ _ hq;subst h8;refine call_len_set h1 h2 h3 h7 (by have:es.size < 4096:=h6;omega) ⟨.int _,H,I.tok _,⟨_,rfl⟩,q⟩
def mz(P:Program)(w:World)(a:Addr)(S:Key->Bool)(n:Nat):HO:=.ext λ h=>h.SetOf (bT P w) a S n
theorem vm{H:Hp}{h:Heap}{a:Addr}{S:Key->Bool}(x:h.SetOf (bT P w) a S n):bU P w H h a (mz P w a S n):=by
 let⟨o,r⟩:=id x;let⟨es,ep,t,e,r⟩:=r;refine⟨x,⟨o,e⟩,λ h1 h2 ⟨o1,es1,ep1,t1,e1,r1⟩ k=>⟨o1,es1,ep1,t1,k _ e1,r1⟩⟩
theorem xq:bB X (.type "set") (λ xs H Q=>xs=[]/\∀p,H p=none->Q (.ref p) (upd H p (mz X.prog X.w p (λ _=>false) 0))):=by
 intro aa s Y H xs us Q I r h;let⟨rfl,q⟩:=h;cases r;refine call_set_0 λ led=>?_;have hget:(s.heap.push {cls:=.type "set",dict:=none,data:=.set #[] 0 (.fresh 0 0 led)}).get? s.heap.objs.size=some {cls:=.type "set",dict:=none,data:=.set #[] 0 (.fresh 0 0 led)}:=Qm _ rfl;refine⟨.ref s.heap.objs.size,_,I.laid (t':=s.toks) (o:=mz X.prog X.w s.heap.objs.size (λ _=>false) 0) (λ b o e=>Qc _ e) (Qk _) (vm ?_),rfl,q _ (I.hok.fresh (Qk _))⟩
 letI:BEq Key:=⟨λ a b=>decide (a=b)⟩
 haveI:LawfulBEq Key:={eq_of_beq:=λ h=>of_decide_eq_true h,rfl:=Q2 rfl}
 exact SetOf_congr ((setObjOf_fresh (knd:=bT X.prog X.w) led).setOf hget (by unfold scanBound;omega)) (λ _=>rfl) rfl
theorem zk{k:Key}{u:Value}(r:RelV (kV k) u):lR k u=true/\u.scannable=true:=by
 cases k with
 | inl i=>let⟨t,rfl⟩:=r;exact⟨oq i t,rfl⟩
 | inr x=>let⟨t,rfl⟩:=r;exact⟨ou x t,rfl⟩
def GB(P:Program)(w:World):R2:=λ x y H Q=>∃a S n k,y=.ref a/\x=kV k/\H a=some (mz P w a S n)/\Q (.bl (S k)) H
theorem xr:ie X (compareOp .In) (GB X.prog X.w):=by
 intro aa s Y H x y v u Q I rx ry h;let⟨a,S,n,k,rfl,rfl,ha,q⟩:=h;cases ry;let⟨h1,h2⟩:=zk rx;let⟨hS,_⟩:=I.hok _ _ ha;exact wpAny_inSet_of (knd:=bT X.prog X.w) h1 h2 hS ⟨.bl _,H,I.tok _,rfl,q⟩
def Cr(P:Program)(w:World):V->List V->Hp->VK->Prop:=λ x vs H Q=>∃a S n k,x=.ref a/\vs=[kV k]/\H a=some (mz P w a S n)/\n < 4000/\Q .non (upd H a (mz P w a (λ j=>S j||decide (j=k)) (if S k then n else n+1)))
theorem ug:JG X "set.add" (Cr X.prog X.w):=by
 intro aa s Y H x vs v us Q I rx rv h;let⟨a,S,n,k,rfl,rfl,ha,hz,q⟩:=h;cases rx;let⟨u,rfl,ru⟩:=rv.one;let⟨h1,h2⟩:=zk ru;let⟨hS,_⟩:=id (I.hok _ _ ha);refine call_set_add (knd:=bT X.prog X.w) h1 h2 hS (by unfold scanBound;omega) λ h' sb hS'=>?_;have he:∃u,h'.get? a=some u:=by let⟨o,es,ep,t,e,_⟩:=hS';exact⟨o,e⟩
 exact⟨.non,_,I.write (x:=a) (e:=a) (t':=s.toks+1) (by rw[ha];trivial) (.inl rfl) (λ b o hb e=>sb.extBut b o hb e) he (vm hS'),rfl,q⟩
end
section
variable{prog:Program}{w:World}{A:Around}{E:Value->Shared->Prop}
theorem Ej{it l:Addr}(ne:l≠it):∀(n i:Nat) (s:Shared) (Q:List Value->Shared->Prop),s.heap.IsListIter it l i->s.heap.IsList l its->i+n<=its.size->
  (∀h',h'.IsListIter it l (i+n)->Heap.SameBut it s.heap h'->Q ((its.toList.drop i).take n) {s with heap:=h'})->wpAny (model prog w) A (draw (.ref it) n) Q E s
 | 0,i,s,Q,a,_,_,q=>by
  show wpAny _ _ (pure []) Q E s;exact Qg (by simpa using q s.heap a (Heap.SameBut.refl ..))
 | n+1,i,s,Q,a,b,le,q=>by
  have lt:i < its.size:=by omega
  show wpAny _ _ (pyNext (.ref it) >>= _) Q E s;refine Qa (wpAny_pyNext_list_item a b (x:=its[i]) (by simp[lt]) λ h1 a1 s1=>?_);refine Qa (QV (Ej ne n (i+1) _ _ a1 (b.extBut s1.extBut ne) 'o' λ h2 a2 s2=>Qg ?_));have e:its.toList.drop i=its[i]::its.toList.drop (i+1):=by simp[drop_eq_getElem_cons,lt]
  have z:=q h2 (by rw[show i+(n+1)=i+1+n by omega];exact a2) (s1.trans s2);rw[e,take_succ_cons] at z;exact z
theorem Ct{s:Shared}{t:Addr}{LH:List (Bool×(Value->Sem Unit))}{Q:Unit->Shared->Prop}(hh:A.handled=none)(ht:s.heap.IsList t its)
  (hn:LH.length=its.size) (hst:LH.findIdx? (·.1)=none)
  (h:∀h',Heap.ExtBut s.heap.objs.size s.heap h'->wpAny (model prog w) A (assignInOrder (LH.map (·.2)) its.toList) Q E {s with heap:=h'}) :
  wpAny (model prog w) A (unpack (.ref t) LH) Q E s:=by
 have ne:t≠s.heap.objs.size:=by let⟨o,ho,_⟩:=ht;exact Ql (Qh ho)
 unfold unpack;rw[hn,hst];refine Qa (QV ?_);unfold unpackItems;refine Qa ?_
 .unfold notIterableAtAll;refine Qa (wpAny_specialOf ht.typeIs slot_list_iter.lookup (Qg ?_));erw[Qv,QK];refine Qa (QV (RP ht ?_));refine Qa (QV (Ej ne its.size 0 _ _ ⟨_,Qm _ rfl,rfl,rfl⟩ (ht.push _) 'o' λ h1 a1 s1=>?_));have all:List.take its.size (List.drop 0 its.toList)=its.toList:=by rw[drop_zero];exact take_of_length_le 's'
  rw[all,Qz 's'];have b1:h1.IsList t its:=(ht.push _).extBut s1.extBut ne;refine Qa (QV (wpAny_pyNext_list_end hh a1 b1 's' λ h2 e2=>?_));erw[Option.isSome_none,Qv,QK];exact Qg (h h2 λ b o hb e=>e2 b o hb (s1.extBut b o hb (Qc _ e)))
end
section
variable{X:Cx}{pos:Pos}
def Nf(K:PySem.W.Frag)(n:Nat)(t:yK):TG:=λ v Y H Q=>∃a xs,v=.ref a/\gE K H a xs/\xs.length=n/\t xs Y H Q
theorem GC{es:List Expr}{k:Nat}{t:yK}(hc:X.calm=true)(h:tL X es t)
  (hn:(assignEach es X.env).length=n:=by rfl) (hst:(assignEach es X.env).findIdx? (·.1)=none:=by rfl):PG X (.Tuple es k pos) (Nf X.K n t):=by
 intro aa s Y H v u Q I r hw;let⟨a,xs,rfl,hq,hl,hw⟩:=hw;cases r;let⟨its,rv,pl,hz⟩:=I.list hq;rw[assign_Tuple];refine Qa (RK (Ct (I.ok.hd hc) pl.isList (by simp[hn,<-hl,rv.length]) hst λ h' hx=>?_));have I1:Inv X aa Y H {s with heap:=h'}:=I.kept (t':=s.toks) λ b o e=>hx b o (Ql (Qh e)) e;exact h aa _ Y H xs _ Q I1 (by simpa using rv) hw
theorem xu:ie X (compareOp .LtE) (λ x y H Q=>∃i j,x=.str i/\y=.str j/\Q (.bl (!decide (j.cps.toList < i.cps.toList))) H):=by
 intro aa s Y H x y v u Q I rx ry h;let⟨i,j,rfl,rfl,q⟩:=h;let⟨t,rfl⟩:=rx;let⟨t',rfl⟩:=ry;exact PySem.P.le_str (pJ I q rfl)
theorem GD:IL X (λ x lo hi H Q=>∃z,x=.str z/\z.length<=sizeLine/\Q (.str (Txt.slice z lo hi)) H):=by
 intro aa s Y H x v vl vu lo hi sl Q I rx hs pl pu h;let⟨z,rfl,hz,q⟩:=h;let⟨t,rfl⟩:=rx;have fin:∀t' k,EP X aa Y Q (.str (Txt.slice z lo hi) t') {s with toks:=k}:=λ t' k=>⟨.str _,H,I.tok k,⟨_,rfl⟩,q⟩;have hle:=QC (Txt.slice_le z lo hi) hz;refine⟨"str",_,F.slot_str_getitem.lookup,typeIs_str _ _ _,?_⟩;cases pl with
 | none=>
  cases pu with
  | none=>exact wpAny_getItem_str_slice (l:=none) (u:=none) (st:=none) hs rfl (post_val_or_str ⟨hle,fin⟩)
  | int j uj=>exact wpAny_getItem_str_slice (l:=none) (u:=some (j,uj)) (st:=none) hs rfl (post_val_or_str ⟨hle,fin⟩)
 | int i ui=>
  cases pu with
  | none=>exact wpAny_getItem_str_slice (l:=some (i,ui)) (u:=none) (st:=none) hs rfl (post_val_or_str ⟨hle,fin⟩)
  | int j uj=>exact wpAny_getItem_str_slice (l:=some (i,ui)) (u:=some (j,uj)) (st:=none) hs rfl (post_val_or_str ⟨hle,fin⟩)
theorem zl:bB X (.type "range") (λ xs H Q=>∃n:Int,xs=[.int n]/\∀p,H p=none->Q (.ref p) (upd H p (.rng 0 n))):=by
 intro aa s Y H xs us Q I r h;let⟨n,rfl,q⟩:=h;let⟨u,rfl,rx⟩:=vals1 r;let⟨t,rfl⟩:=rx;exact call_range_1 ⟨.ref s.heap.objs.size,_,I.laid (o:=.rng 0 n) (λ b o e=>Qc _ e) (Qk _) ⟨_,_,_,Qm _ rfl⟩,rfl,q _ (I.hok.fresh (Qk _))⟩
def upTo(n:Nat):List V:=(List.range n).map λ i=>V.int (i:Nat)
theorem xw{acc:Array Value}(h:ItemsOf (λ i v=>∃t,v=.int (0+(i:Int)*1) t) acc n):Vals (upTo n) acc.toList:=by
 let⟨h1,h2⟩:=h;have key:∀(l:List Value) (k:Nat),(∀(j:Nat) v,l[j]?=some v->∃t,v=.int ((k+j:Nat):Int) t)->Vals ((List.range' k l.length).map λ i=>V.int (i:Nat)) l:=by
  intro l
  induction l with
  | nil=>intro k _;exact .nil
  | cons v r ih=>
   intro k hv;rw[QB,range'_succ,QM];refine .cons (hv 0 v rfl) (ih (k+1) λ j u hj=>?_);let⟨t,e⟩:=hv (j+1) u (by simpa using hj);exact⟨t,by rw[e,show k+(j+1)=k+1+j by omega]⟩
 have q:=key acc.toList 0 λ j v hj=>by
  let⟨t,e⟩:=h2 j v (by simpa using hj);exact⟨t,by rw[e];congr 1;omega⟩
 rw[Array.length_toList,h1,<-range_eq_range'] at q;exact q
theorem nW(hh:X.A.handled=none):bB X (.type "list") (λ xs H Q=>∃(a:Addr) (n:Nat),xs=[.ref a]/\H a=some (.rng 0 n)/\n<=1000000/\∀p,H p=none->Q (.ref p) (upd H p (.lst (upTo n)))):=by
 intro aa s Y H xs us Q I r h;let⟨a,n,rfl,ha,hz,q⟩:=h;let⟨u,rfl,rx⟩:=vals1 r;cases rx;let⟨t,u,v,e⟩:=I.hok _ _ ha;have hn:Builtin.Range.rangeSize 0 n 1=(n:Int):=by rw[rangeSize_one];split<;>omega
 refine call_list_range (n:=n) hh (show IsRange s.heap a 0 n 1 t u v from e) (small_one 'o' 'o' 'o' 'o') hn (QC hz 'd') λ h' tk acc c kp eo hi=>?_;refine⟨.ref s.heap.objs.size,_,I.laid (t':=tk) (o:=.lst (upTo n)) kp (Qk _) ⟨?_,acc.toList,c,xw hi,eo⟩,rfl,q _ (I.hok.fresh (Qk _))⟩;unfold upTo;rw[Qi,Ry];exact QC hz 'd'
end
end L2
end
section
namespace L2
open PySem PySem.Spec PyProof.Rows List
open AutoSeq1 (wpAny_loadPart')
variable{Q:Value->Shared->Prop}{i:Nat}{it:Addr}{its:Array Value}
section
variable{prog:Program}{w:World}{A:Around}{E:Value->Shared->Prop}{s:Shared}
theorem nextT{l:Addr}{x:Value}(a:s.heap.IsTupleIter it l i)(b:s.heap.IsTuple l its)(hx:its[i]?=some x)
  (q:∀h',h'.IsTupleIter it l (i+1)->Heap.SameBut it s.heap h'->Q x {s with heap:=h'}):wpAny (model prog w) A (Builtin.SmallTypes.nextOf (.ref it)) Q E s:=by
 let⟨o,o1,o2,o3⟩:=id a;let⟨p,p1,_,n,p2⟩:=b;unfold Builtin.SmallTypes.nextOf;refine Qa (Q9 (name:=Str.ofString "__next__") a.typeIs F.slot_tuple_iterator_next (RH F.slot_tuple_iterator_next a.typeIs F.entry_tuple_iterator_next ?_ (F.args_tuple_iterator_next_1 _)));show wpAny _ _ (field (.ref it) 0 >>= _) _ _ s;refine Qa (Q4 o1 o3 (x:=.ref l) rfl ?_);show wpAny _ _ (if (Value.ref l==Value.none)=true then _ else _) _ _ s;rw[Qz (show ¬((Value.ref l==Value.none)=true) from Rc)];show wpAny _ _ (field (.ref it) 1 >>= _) _ _ s;refine Qa (Q4 o1 o3 (x:=.int i 0) rfl ?_);show wpAny _ _ (seqItems? (.ref l) >>= _) _ _ s;refine Qa (Rt p1 p2 ?_);erw[Q0,hx];refine Qa (wpAny_setField o1 o3 's' (Qg ⟨x,rfl,Qg (q _ ?_ (Rp ..))⟩));exact⟨_,Q3 _ o1 (Obj.isFreed_of_fields (Obj.data_mapFields o3 _)),(Obj.cls_mapFields ..).trans o2,by rw[Obj.data_mapFields o3];simp[rawInt]⟩
theorem rO{l:Addr}(hh:A.handled=none)(a:s.heap.IsTupleIter it l i)(b:s.heap.IsTuple l its)(hx:its[i]?=none)
  (q:∀h' e,Heap.ExtBut it s.heap h'->(∃o,h'.get? e=some o/\o.cls=.type "StopIteration")->E (.ref e) {s with heap:=h'}):wpAny (model prog w) A (Builtin.SmallTypes.nextOf (.ref it)) Q E s:=by
 let⟨o,o1,o2,o3⟩:=id a;let⟨p,p1,_,n,p2⟩:=b;unfold Builtin.SmallTypes.nextOf;refine Qa (Q9 (name:=Str.ofString "__next__") a.typeIs F.slot_tuple_iterator_next (RH F.slot_tuple_iterator_next a.typeIs F.entry_tuple_iterator_next ?_ (F.args_tuple_iterator_next_1 _)));show wpAny _ _ (field (.ref it) 0 >>= _) _ _ s;refine Qa (Q4 o1 o3 (x:=.ref l) rfl ?_);show wpAny _ _ (if (Value.ref l==Value.none)=true then _ else _) _ _ s;rw[Qz (show ¬((Value.ref l==Value.none)=true) from Rc)];show wpAny _ _ (field (.ref it) 1 >>= _) _ _ s;refine Qa (Q4 o1 o3 (x:=.int i 0) rfl ?_);show wpAny _ _ (seqItems? (.ref l) >>= _) _ _ s;refine Qa (Rt p1 p2 ?_);erw[Q0,hx];refine Qa (wpAny_rule (Qa (wpAny_setField o1 o3 's' ?_)));show wpAny _ _ (newExc (.type "StopIteration") [] >>= _) _ _ _;refine Qa ?_;erw[newExc,newTuple];refine Qa (RQ ?_ (by size_fits));refine Qa (m:=firstArgMember _ _) (wpAny_of_eq (a:=Value.none) (by first | rfl | (erw[firstArgMember];rfl)) ?_);refine RQ ?_ (by size_fits);erw[raiseNew];refine Qa (wpAny_handled ?_)
 first | rw[show A.in1.handled=none from hh] | rw[hh]
 refine Qa (Qg (wpAny_throw ?_));refine q _ _ (λ b o hb e=>?_) ⟨_,Qm _ rfl,rfl⟩;exact Qc _ (Qc _ ((Rp ..).extBut b o hb e))
theorem uh{e l:Addr}{x old:Value}{Q:Option Value->Shared->Prop}
  (he:IsEnum s.heap e it i old) (a:s.heap.IsTupleIter it l i) (b:s.heap.IsTuple l its) (hx:its[i]?=some x) (ne:e≠it)
  (q:∀h',IsEnumOut h' e it ((i:Int)+1) x s.heap.objs.size->h'.IsTupleIter it l (i+1)->
   h'.get? s.heap.objs.size=some {cls:=.type "tuple",data:=.seq #[.int i s.toks,x]}->h'.objs.size=s.heap.objs.size+1->
   (∀b o,b≠e->b≠it->s.heap.get? b=some o->h'.get? b=some o)->Q @(.ref s.heap.objs.size) {s with heap:=h',toks:=s.toks+1}) :
  wpAny (model prog w) A (pyNext (.ref e)) Q E s:=by
 have hT:s.TypeIs (.ref e) "enumerate":=⟨_,he,rfl⟩;unfold pyNext;refine Qa (wpAny_attempt (Q9 (name:=Str.ofString "__next__") hT F.slot_enumerate_next (RH F.slot_enumerate_next hT F.entry_enumerate_next ?_ (F.args_enumerate_next_1 _))));let⟨hp,g,d,tk,os⟩:=s;show wpAny _ _ (field (.ref e) 2 >>= _) _ _ _;refine Qa (Q4 he rfl (x:=.ref it) rfl ?_);refine Qa (nextT a b hx λ h1 a1 s1=>?_);replace s1:Heap.SameBut it hp h1:=s1;have e1:IsEnum h1 e it i old:=(s1.2 e ne).trans he;show wpAny _ _ (field (.ref e) 3 >>= _) _ _ ⟨h1,g,d,tk,os⟩;refine Qa (Q4 e1 rfl (x:=rawInt i) rfl ?_);show wpAny _ _ (field (.ref e) 4 >>= _) _ _ ⟨h1,g,d,tk,os⟩;refine Qa (Q4 e1 rfl (x:=.none) rfl ?_);show wpAny _ _ (mkInt i >>= _) _ _ ⟨h1,g,d,tk,os⟩;refine Qa (wpAny_mkInt ?_);show wpAny _ _ (setField (.ref e) 3 (rawInt ((i:Int)+1)) >>= _) _ _ ⟨h1,g,d,tk+1,os⟩;refine Qa (Rf e1 's' λ h2 e2 s2=>?_);replace s2:Heap.SameBut e h1 h2:=s2;replace e2:IsEnum h2 e it ((i:Int)+1) old:=e2;show wpAny _ _ (setField (.ref e) 4 .none >>= _) _ _ ⟨h2,g,d,tk+1,os⟩;refine Qa (Rf e2 's' λ h3 e3 s3=>?_);replace s3:Heap.SameBut e h2 h3:=s3;replace e3:IsEnum h3 e it ((i:Int)+1) old:=e3;show wpAny _ _ (newTuple [.int i tk,x] >>= _) _ _ ⟨h3,g,d,tk+1,os⟩;refine Qa (wpAny_newTuple ?_);have e4:IsEnum (h3.push {cls:=.type "tuple",data:=.seq #[.int i tk,x]}) e it ((i:Int)+1) old:=Qc _ e3;generalize hh4:h3.push {cls:=.type "tuple",data:=.seq #[.int i tk,x]}=h4 at e4;have sz:h3.objs.size=hp.objs.size:=by rw[s3.1,s2.1,s1.1]
 have el:e < hp.objs.size:=Qh he;have t4:h4.get? hp.objs.size=some {cls:=.type "tuple",data:=.seq #[.int i tk,x]}:=by rw[<-hh4,<-sz];exact Qm _ rfl
 have z4:h4.objs.size=hp.objs.size+1:=by rw[<-hh4,QJ,sz]
 have k4:∀b o,b≠e->b≠it->hp.get? b=some o->h4.get? b=some o:=λ b o n1 n2 hb=>by
  rw[<-hh4];exact Qc _ (s3.extBut b o n1 (s2.extBut b o n1 (s1.extBut b o n2 hb)))
 have a4:h4.IsTupleIter it l (i+1):=by
  rw[<-hh4];let⟨o,ho,r⟩:=(a1.extBut s2.extBut (Ne.symm ne)).extBut s3.extBut (Ne.symm ne);exact⟨o,Qc _ ho,r⟩
 show wpAny _ _ (Builtin.SmallTypes.ownedTupleIsFree (.ref e) >>= _) _ _ ⟨h4,g,d,tk+1,os⟩;rw[sz];clear hh4 e3 s3 e2 s2 e1 s1 a1 sz h3 h2 h1;refine Qa ?_;unfold Builtin.SmallTypes.ownedTupleIsFree;refine Qa (Q4 e4 rfl (x:=.none) rfl (Qg ?_));erw[QL];refine Qa (wpAny_rule ?_);refine Qa (Q4 e4 rfl (x:=old) rfl ?_);refine Qa (Rf e4 's' λ h5 e5 s5=>?_);replace s5:Heap.SameBut e h4 h5:=s5;replace e5:IsEnum h5 e it ((i:Int)+1) x:=e5;show wpAny _ _ (Builtin.SmallTypes.ownedTupleHandOut (.ref e) (.ref hp.objs.size) >>= _) _ _ ⟨h5,g,d,tk+1,os⟩;refine Qa ?_;unfold Builtin.SmallTypes.ownedTupleHandOut;refine Qa (Rf e5 's' λ h6 e6 s6=>?_);replace s6:Heap.SameBut e h5 h6:=s6;replace e6:IsEnumOut h6 e it ((i:Int)+1) x hp.objs.size:=e6;refine Rf e6 's' λ h7 e7 s7=>?_;replace s7:Heap.SameBut e h6 h7:=s7;replace e7:IsEnumOut h7 e it ((i:Int)+1) x hp.objs.size:=e7;refine Qa (wpAny_letGo (Qg ⟨_,rfl,Qg (q h7 e7 ?_ ?_ ?_ ?_)⟩))
 .exact((a4.extBut s5.extBut (Ne.symm ne)).extBut s6.extBut (Ne.symm ne)).extBut s7.extBut (Ne.symm ne)
 .exact s7.extBut _ _ (Q6 el) (s6.extBut _ _ (Q6 el) (s5.extBut _ _ (Q6 el) t4))
 .rw[s7.1,s6.1,s5.1,z4]
 .exact λ b o n1 n2 hb=>s7.extBut b o n1 (s6.extBut b o n1 (s5.extBut b o n1 (k4 b o n1 n2 hb)))
theorem xy{e l:Addr}{old:Value}{Q:Option Value->Shared->Prop}(hh:A.handled=none)
  (he:IsEnum s.heap e it i old) (a:s.heap.IsTupleIter it l i) (b:s.heap.IsTuple l its) (hx:its[i]?=none)
  (q:∀h',Heap.ExtBut it s.heap h'->Q none {s with heap:=h'}):wpAny (model prog w) A (pyNext (.ref e)) Q E s:=by
 have hT:s.TypeIs (.ref e) "enumerate":=⟨_,he,rfl⟩;unfold pyNext;refine Qa (wpAny_attempt (Q9 (name:=Str.ofString "__next__") hT F.slot_enumerate_next (RH F.slot_enumerate_next hT F.entry_enumerate_next ?_ (F.args_enumerate_next_1 _))));show wpAny _ _ (field (.ref e) 2 >>= _) _ _ _;refine Qa (Q4 he rfl (x:=.ref it) rfl ?_);refine Qa (rO hh a b hx λ h' x k1 k2=>?_);let⟨o,o1,o2⟩:=k2;refine Qa (wpAny_isInstance (T:="StopIteration") (b:=true) ⟨o,o1,o2⟩ isSubtype_stop ?_);exact Qg (q _ k1)
theorem xA(l:Addr)(its:Array Value)(n:Nat)(dct:Option Addr)(sl:Array (Option Value)) :
  Meets (Builtin.«enumerate.__new__» ⟨[.type "enumerate",.ref l],[]⟩) (λ _ R s=>s.heap.get? l=some {cls:=.type "tuple",dict:=dct,data:=.seq its n,slots:=sl}/\
   R (.ok (.ret (.ref (s.heap.push {cls:=.type "tuple_iterator",data:=.fields #[.ref l,.int 0 0]}).objs.size)))
    {s with heap:=(s.heap.push {cls:=.type "tuple_iterator",data:=.fields #[.ref l,.int 0 0]}).push {cls:=.type "enumerate",data:=.fields #[.none,.bool false,.ref s.heap.objs.size,rawInt 0,.none,.none]}}):=
 .of_wp λ prog w A R s h=>by
  let⟨hp,g,d,tk,os⟩:=s;let⟨hl,h⟩:=h;have hsub:=sub_enumerate;have hL:Heap.IsTuple (Shared.heap ⟨hp,g,d,tk,os⟩) l its:=⟨_,hl,rfl,n,rfl⟩
  wp_walk using wpAny_loadPart' hl
  refine wpAny_stack_any λ st=>Qg ?_;split
  .ext c _ _ _ _ _;cases (c==Value.type "enumerate")
   all_goals
    wp_walk using wpAny_loadPart' hl,wpAny_pyIter_tuple hL
    exact⟨_,rfl,h⟩
  .wp_walk using wpAny_loadPart' hl,wpAny_pyIter_tuple hL
   exact⟨_,rfl,h⟩
theorem um{l:Addr}(hL:s.heap.IsTuple l its)
  (h:∀h',IsEnum h' (s.heap.objs.size+1) s.heap.objs.size 0 .none->h'.IsTupleIter s.heap.objs.size l 0->h'.objs.size=s.heap.objs.size+2->
   (∀b o,s.heap.get? b=some o->h'.get? b=some o)->Q (.ref (s.heap.objs.size+1)) {s with heap:=h'}) :
  wpAny (model prog w) A (call (.type "enumerate") [.ref l]) Q E s:=by
 let⟨⟨c,dct,dt,sl⟩,hl,hc,n,hd⟩:=hL;replace hc:c=.type "tuple":=hc;replace hd:dt=.seq its n:=hd;subst hc hd;refine callType_new F.called_enumerate 'd' (F.typeCall_enumerate_1 _) (F.newCall_enumerate_1 _) (λ obj=>F.args_object_init_2 obj _) F.entry_enumerate_new (xA l its n dct sl) ⟨hl,?_⟩;have hz:(s.heap.push {cls:=.type "tuple_iterator",data:=.fields #[.ref l,.int 0 0]}).objs.size=s.heap.objs.size+1:=QJ ..;show _/\_;rw[hz];have he:IsEnum ((s.heap.push {cls:=.type "tuple_iterator",data:=.fields #[.ref l,.int 0 0]}).push
   {cls:=.type "enumerate",data:=.fields #[.none,.bool false,.ref s.heap.objs.size,rawInt 0,.none,.none]}) (s.heap.objs.size+1) s.heap.objs.size 0 .none:=by
  have:=Qm (s.heap.push {cls:=.type "tuple_iterator",data:=.fields #[.ref l,.int 0 0]})
   (o:={cls:=.type "enumerate",data:=.fields #[.none,.bool false,.ref s.heap.objs.size,rawInt 0,.none,.none]}) rfl
  rw[hz] at this;exact this
 refine⟨⟨_,he,rfl⟩,h _ he ⟨_,Qc _ (Qm _ rfl),rfl,rfl⟩ (by rw[QJ,hz]) λ b o x=>Qc _ (Qc _ x)⟩
end
end L2
end
section
namespace L2
open PySem PySem.Spec PyProof.Rows List
def Ng(K:PySem.W.Frag)(a:Addr):It:=
 ⟨λ i H=>∃xs x,dI K H a xs/\xs[i]?=some x,λ i H x H'=>∃p v,H p=none/\x=.ref p/\H'=upd H p (.tup [.int i,v])/\∀xs,dI K H a xs->xs[i]?=some v,λ i H=>∃xs,dI K H a xs/\xs.length<=i⟩
theorem uo{P:Program}{w:World}{K:PySem.W.Frag}{elts:List Expr}{x1}{pos:Pos}(a e it:Addr)(hne:e≠it) :
  Turn P w K (.Tuple elts x1 pos) (Ng K a) [e,it] e (λ i h=>(∃old,IsEnum h e it (i:Int) old)/\h.IsTupleIter it a i) where
 mem:=by simp
 obj:=λ i h st b hb=>by
  let⟨⟨old,he⟩,o,ho,hc,hd⟩:=st;rcases Qp.mp hb with rfl | hb
  .refine⟨_,he,λ v q=>?_⟩;have q':Data.fields _=Data.cell v:=q;cases q'
  .obtain rfl:b=it:=by simpa using hb
   exact⟨o,ho,λ v q=>by rw[hd] at q;cases q⟩
 keep:=λ i h h' st k=>by
  let⟨⟨old,he⟩,o,ho,r⟩:=st;exact⟨⟨old,k e 's' _ he⟩,o,k it 's' o ho,r⟩
 item:=by
  intro X hP hw hK hc i aa s Y H E I hf st hg;subst hP hw hK;let⟨xs,x,hq,hx⟩:=hg;let⟨⟨old,he⟩,hit⟩:=st;let⟨its,rv,p,hz⟩:=I.tuple hq;let⟨u,hu,ru⟩:=rv.get hx;let⟨f0,f1,f2,f3,f4,f5⟩:=hf e 's';let⟨g0,g1,g2,g3,g4,g5⟩:=hf it 's';refine uh he hit (show s.heap.IsTuple a its.toArray from p) (x:=u) (by simpa using hu) hne λ h1 ho hi ht hs k1=>⟨_,rfl,?_⟩;have he':e < s.heap.objs.size:=Qh he;have hi':it < s.heap.objs.size:=by let⟨o,q,_⟩:=hit;exact Qh q
  refine wpAny_letOwnedTupleGo_enum (s:={s with heap:=h1,toks:=s.toks+1}) ho λ h2 hE sb=>?_;have k2:∀b o,b≠e->b≠it->s.heap.get? b=some o->h2.get? b=some o:=λ b o n1 n2 q=>sb.extBut b o n1 (k1 b o n1 n2 q);have Nc:h2.get? s.heap.objs.size=some {cls:=.type "tuple",data:=.seq #[.int i s.toks,u]}:=sb.extBut _ _ (Q6 he') ht;have hsz2:h2.objs.size=s.heap.objs.size+1:=by rw[sb.1];exact hs
  have nU:H s.heap.objs.size=none:=I.hok.fresh (Qk _);have nt:∀b o,H b=some o->b≠e/\b≠it:=λ b o q=>⟨(λ z=>by rw[z,f0] at q;cases q),(λ z=>by rw[z,g0] at q;cases q)⟩;have hok:iG X.prog X.w (upd H s.heap.objs.size (.tup [.int i,x])) h2:=by
   have lift:∀b o,H b=some o->bU X.prog X.w (upd H s.heap.objs.size (.tup [.int i,x])) h2 b o:=λ b o q=>
    (I.hok b o q).stay (λ c v hcv r=>k2 c v (by
     rcases hcv with z | z
     .rw[z];exact(nt b o q).1
     .exact(nt c _ z).1) (by
     rcases hcv with z | z
     .rw[z];exact(nt b o q).2
     .exact(nt c _ z).2) r) (λ c r=>by rw[aq (au r nU)];exact r) λ c ys r=>by rw[aq (au r nU)];exact r
   intro b o q
   by_cases eb:b=s.heap.objs.size
   .subst eb;rw[aJ] at q;cases q;exact⟨by show 2<=sizeLine;decide,[.int i s.toks,u],.cons ⟨_,rfl⟩ %[|ru],⟨_,Nc,rfl,_,rfl⟩⟩
   .rw[aq eb] at q;exact lift b o q
  have I2:Inv X aa Y (upd H s.heap.objs.size (.tup [.int i,x])) {s with heap:=h2,toks:=s.toks+1}:=by
   refine I.step (g':=s.gens) (d':=s.drawn) (ch:=[e,it]) (λ b hb=>?_) (λ b o hL hb hcb q n=>?_) (λ b o hL hb hcb q n=>?_) (λ b o hcb q n=>?_) (λ b o hcb q=>?_) (λ b ys q=>by rw[aq (au q nU)];exact q) (λ b o u q=>by rw[aq (au q nU)];exact q)
    (λ b ps q=>⟨#[],by rw[aq (au q nU),q];simp⟩) (λ m hm=>?_) hok I.bare
   .rcases Qp.mp hb with rfl | hb
    .exact⟨f3,f1,f4,f5⟩
    .obtain rfl:b=it:=by simpa using hb
     exact⟨g3,g1,g4,g5⟩
   .erw[Rq,RV,or_false,not_or] at hcb;exact k2 b o hcb.1 hcb.2 q
   .erw[Rq,RV,or_false,not_or] at hcb;exact⟨o.slots,k2 b o hcb.1 hcb.2 q⟩
   .rw[aq (Ql (Qh q))];exact n
   .erw[Rq,RV,or_false,not_or] at hcb;exact⟨o,k2 b o hcb.1 hcb.2 q⟩
   .let⟨o,es,ep,q,r⟩:=hm;exact⟨o,es,ep,k2 _ o (Ne.symm f1) (Ne.symm g1) q,r⟩
  refine⟨.ref s.heap.objs.size,_,I2,rfl,⟨_,x,nU,rfl,rfl,λ ys hy=>by rw[I.jZ hy hq];exact hx⟩,⟨⟨_,by have:=hE;rw[show ((i:Int)+1)=((i+1:Nat):Int) by omega] at this;exact this⟩,?_⟩,λ b hb=>?_⟩
  .let⟨o,q,r⟩:=hi;exact⟨o,sb.extBut _ _ (Ne.symm hne) q,r⟩
  .rcases Qp.mp hb with rfl | hb
   .rw[aq (Ql he')];exact f0
   .obtain rfl:b=it:=by simpa using hb
    rw[aq (Ql hi')];exact g0
 done:=by
  intro X hP hw hK hc i aa s Y H E I hf st hg;subst hP hw hK;let⟨xs,hq,hx⟩:=hg;let⟨⟨old,he⟩,hit⟩:=st;let⟨its,rv,p,hz⟩:=I.tuple hq;let⟨g0,g1,g2,g3,g4,g5⟩:=hf it 's';have hl:=rv.length;exact xy (I.ok.hd hc) he hit (show s.heap.IsTuple a its.toArray from p) (by simp;omega) λ h' eb=>⟨rfl,I.turned (t':=s.toks) (λ b o hb q=>eb b o hb q) g0 g1 g3 g4 g5⟩
 self:=λ _ _ _ _ _ st h=>by
  let⟨⟨old,he⟩,_⟩:=st;exact wpAny_pyIter_enum he h
section
variable{X:Cx}
def GF(K:PySem.W.Frag)(ta:TA):TI:=fun Y H R=>ta Y H λ vs H1=>∃a,vs=[.ref a]/\(∃xs,dI K H1 a xs)/\R (Ng K a) H1
theorem zm{l:Expr}{ta:TA}{p pos tpos:Pos}{elts:List Expr}{x1}(hg:Gl X "enumerate")(hm:X.mg "enumerate"=none)(ha:PA X [l] ta)(hs:starEach [l] X.env=[(false,eval l X.env)]:=by rfl) :
  PI X (.Tuple elts x1 tpos) (.Call (.Name "enumerate" p) [l] [] pos) (GF X.K ta):=by
 intro aa s Y H R I h;refine Call_ (g9 I hg hm (u:=.type "enumerate") 'k' (Rh (bY (ha pos aa s Y H _ I h) λ us s1 ⟨vs,H1,I1,r1,q1⟩=>?_) hs rfl));let⟨a,rfl,⟨xs,hq⟩,q⟩:=q1;let⟨u,rfl,ru⟩:=vals1 r1;cases ru;let⟨its,rv,pl,hz⟩:=I1.tuple hq;refine um (show s1.heap.IsTuple a its.toArray from pl) λ h' he hit hsz hk=>?_;refine wpAny_pyIter_enum he ?_;have I2:Inv X aa Y H1 {s1 with heap:=h'}:=I1.kept (t':=s1.toks) hk;refine⟨_,_,_,_,H1,rfl,I2,uo a (s1.heap.objs.size+1) s1.heap.objs.size (Nat.succ_ne_self _),⟨⟨_,he⟩,hit⟩,λ b hb=>?_,q⟩;rcases Qp.mp hb with rfl | hb
 .exact I1.pI (Nat.le_succ _) (I1.hok.fresh (Nat.le_succ _))
 .obtain rfl:b=s1.heap.objs.size:=by simpa using hb
  exact I1.pI (Qk _) (I1.hok.fresh (Qk _))
end
structure TopD(K:PySem.W.Frag)(w:World)(a:Addr)(kvs:List (Str×V)):Prop where
 ex:∃(es:Array DictEntry) (n:Nat),K.lookup a=some ⟨.type "dict",none,.dict es n,#[]⟩/\PySem.W.KeysLit w.params es.toList/\∀x,iF (kvs.lookup x) (findBy Value.isStrOf es x)
 lo:(a==sysModules)=false
end L2
end
section
namespace L2
open PySem PySem.Spec PyProof.Rows Builtin Builtin.Str List
theorem zo(x:Str)(j:Nat):Txt.slice x none (some (j:Int))=⟨(x.cps.toList.take j).toArray⟩:=by
 by_cases h:j<=x.length
 .show StrLaws.sliceText x none (some (j:Int))=_;rw[StrLaws.sliceText_to ⟨by omega,by simp[Str.length] at h ⊢;omega⟩];simp
 .have e:strSliceIndices none (some (j:Int)) 1 x.length=strSliceIndices none (some (x.length:Int)) 1 x.length:=by
   have a:¬((j:Int) < 0):=by omega
   have b:¬((x.length:Int) < 0):=by omega
   have c:max (0:Int) (min (j:Int) (x.length:Int))=max 0 (min (x.length:Int) (x.length:Int)):=by omega
   erw[strSliceIndices,a,b,QK,c,show (1:Int)>0 by decide,QL]
  have f:Txt.slice x none (some (j:Int))=Txt.slice x none (some (x.length:Int)):=by
   unfold Txt.slice;rw[e]
  rw[f];show StrLaws.sliceText x none (some (x.length:Int))=_;rw[StrLaws.sliceText_to ⟨by omega,by simp[Str.length]⟩];have l:x.cps.toList.length<=j:=by simp[Str.length] at h ⊢;omega
  rw[take_of_length_le l];have k:x.cps.toList.take x.cps.size=x.cps.toList:=take_of_length_le 's';simp[Str.length,k]
end L2
end
section
namespace L2
open PySem PySem.Spec PyProof.Rows List
variable{Q:Value->Shared->Prop}{ep n:Nat}{es:Array (Int×Value)}{h:Int}{its:Array Value}{ks:List Int}{o:Obj}{t:SetTable}
def LI{α:Type}(f:α->α):Nat->α->α
 | 0,x=>x
 | n+1,x=>LI f n (f x)
theorem ur(hd:t.dummies=#[])(j:Nat):(t.slot j=.empty\/∃i,t.slot j=.live i/\i < t.place.size)/\(j∉t.place.toList->t.slot j=.empty):=by
 have hh:SetTable.has t.dummies j=false:=by rw[hd];rfl
 unfold SetTable.slot;erw[hh]
 by_cases h:(t.place[SetTable.below t.place j]?==some j)=true
 .erw[h,QL];have h':t.place[SetTable.below t.place j]?=some j:=by simpa using h
  let⟨hl,he⟩:=Array.getElem?_eq_some_iff.mp h';refine⟨.inr ⟨_,rfl,hl⟩,λ hn=>absurd ?_ hn⟩;rw[<-he];simp
 .erw[h];exact⟨.inl rfl,λ _=>rfl⟩
theorem xB(t:SetTable)(p:SetTable.Probe):(t.advance p).dummy=p.dummy:=by
 unfold SetTable.advance;split
 .rfl
 .rfl
theorem zp(hd:t.dummies=#[]){hashAt:Nat->Int}(hne:∀i,i < t.place.size->hashAt i≠h):∀(fuel:Nat) (p:SetTable.Probe),p.dummy=none->
  (∃n,n < fuel/\(LI t.advance n p).j∉t.place.toList)->∃j,SetTable.probe.go t hashAt h fuel p=some (.empty j none):=by
 intro fuel
 induction fuel with
 | zero=>intro p _ ⟨n,h,_⟩;omega
 | succ k ih=>
  intro p hp ⟨n,hn,hj⟩;unfold SetTable.probe.go;let⟨hc,he⟩:=ur hd p.j;rcases hc with hs | ⟨i,hs,hi⟩
  .erw[hs];exact⟨p.j,by rw[hp]⟩
  .erw[hs];have:(hashAt i==h)=false:=by simpa using hne i hi
   erw[this];cases n with
   | zero=>rw[he hj] at hs;cases hs
   | succ n=>exact ih _ ((xB t p).trans hp) ⟨n,by omega,hj⟩
def pX(h:Int):SetTable.Probe:=(SetTable.fresh 0 0 true).probeStart h
def Cu(p:SetTable.Probe):SetTable.Probe:=(SetTable.fresh 0 0 true).advance p
theorem oN(hm:t.mask=7)(h:Int):t.probeStart h=pX h:=by unfold pX SetTable.probeStart;rw[hm];rfl
theorem Cv(hm:t.mask=7):t.advance=Cu:=by funext p;unfold Cu SetTable.advance;rw[hm];rfl
def pY(h:Int):Bool:=(List.range 4).all λ j=>(List.range 60).any λ n=>(LI Cu n (pX h)).j==j
theorem pick{L:List Nat}(h:L.length<=3):∃j,j < 4/\j∉L:=by
 match L,h with
 | [],_=>exact⟨0,by omega,by simp⟩
 | [a],_=>
  by_cases e:a=0
  .exact⟨1,by omega,by simp;omega⟩
  .exact⟨0,by omega,by simp;omega⟩
 | [a,b],_=>
  have:(0≠a/\0≠b)\/(1≠a/\1≠b)\/(2≠a/\2≠b):=by omega
  rcases this with h | h | h
  .exact⟨0,by omega,by simp;omega⟩
  .exact⟨1,by omega,by simp;omega⟩
  .exact⟨2,by omega,by simp;omega⟩
 | [a,b,c],_=>
  have:(0≠a/\0≠b/\0≠c)\/(1≠a/\1≠b/\1≠c)\/(2≠a/\2≠b/\2≠c)\/(3≠a/\3≠b/\3≠c):=by omega
  rcases this with h | h | h | h
  .exact⟨0,by omega,by simp;omega⟩
  .exact⟨1,by omega,by simp;omega⟩
  .exact⟨2,by omega,by simp;omega⟩
  .exact⟨3,by omega,by simp;omega⟩
 | a::b::c::d::r,h=>simp at h
theorem uu(hm:t.mask=7)(hd:t.dummies=#[])(hz:t.place.size<=3){hashAt:Nat->Int}(hc:pY h=true)(hne:∀i,i < t.place.size->hashAt i≠h) :
  ∃j,t.probe hashAt h (t.probeStart h)=some (.empty j none):=by
 let⟨j,hj,hL⟩:=pick (L:=t.place.toList) (by simpa using hz);have h1:=Qx.mp hc j (by simpa using hj);let⟨n,hn,e⟩:=List.any_eq_true.mp h1;have e:(LI Cu n (pX h)).j=j:=by simpa using e
 refine zp hd hne _ _ (by rw[oN hm];rfl) ⟨n,?_,?_⟩
 .rw[hm];have:n < 60:=by simpa using hn
  show n < 10*(7+15);omega
 .rw[Cv hm,oN hm,e];exact hL
def gb(ks:List Int):Int:=reduceHash (Builtin.Tuple.tupleHashOf (ks.map hashInt))
theorem zq(prog:Program)(w:World)(ks:List Int):(tupleKind (intKind prog w)).hash ks=gb ks:=rfl
def af:Nat->List (List Int)
 | 0=>[[]]
 | n+1=>(af n).map (0::·)++(af n).map (1::·)
def eY(ks:List Int):Bool:=decide (ks.length<=4)&&ks.all λ i=>i==0||i==1
theorem aB(h:∀i∈ks,i=0\/i=1):ks∈af ks.length:=by
 induction ks with
 | nil=>simp[af]
 | cons k r ih=>
  have hr:=ih λ i hi=>h i (Qj _ hi);rw[QB,af,mem_append];rcases h k (Qu) with rfl | rfl
  .exact .inl (Qf.mpr ⟨r,hr,rfl⟩)
  .exact .inr (Qf.mpr ⟨r,hr,rfl⟩)
def allNames:List (List Int):=(List.range 5).flatMap af
theorem name_mem(h:eY ks=true):ks∈allNames:=by
 erw[eY,Qn,Q7,all_eq_true,Bool.or_eq_true,Ro] at h;exact QZ.mpr ⟨ks.length,by simp;omega,aB h.2⟩
theorem rP:(allNames.all λ ks=>pY (gb ks))=true:=by decide +kernel
theorem rQ:(allNames.all λ ks=>allNames.all λ ls=>gb ks != gb ls||ks==ls)=true:=by decide +kernel
theorem rR(h:eY ks=true):pY (gb ks)=true:=Qx.mp rP ks (name_mem h)
theorem uv{ls:List Int}(h:eY ks=true)(h':eY ls=true)(ne:ks≠ls):gb ks≠gb ls:=by
 have:=Qx.mp (Qx.mp rQ ks (name_mem h)) ls (name_mem h');erw[Bool.or_eq_true,bne_iff_ne,Ro] at this;exact this.resolve_right ne
section
variable{prog:Program}{w:World}{A:Around}{E:Value->Shared->Prop}{s:Shared}
theorem iK{a:Addr}{Q:Array (Int×Value)×Nat×SetTable->Shared->Prop}(hg:s.heap.get? a=some o)(hd:o.data=.set es ep t)(hf:t.place.size=es.size)(hm:t.fill<=t.mask)(h:Q (es,ep,t) s) :
  wpAny (model prog w) A (setState a) Q E s:=by
 unfold setState;refine Qa (wpAny_load hg ?_);erw[hd];have h1:(t.place.size != es.size)=false:=by simp[hf]
 have h2:decide (t.fill>t.mask)=false:=by simp;exact hm
 erw[h1,h2];exact Qg h
theorem xC{a:Addr}{x:Value}{Q:SetFound->Shared->Prop}(hg:s.heap.get? a=some o)(hd:o.data=.set es ep t)
  (hf:t.place.size=es.size) (hm:t.mask=7) (Oa:t.dummies=#[]) (hz:t.place.size<=3) (hc:pY h=true) (hne:∀e∈es.toList,e.1≠h) (hq:∀j,Q (.free j false) s) :
  wpAny (model prog w) A (setSearch a x h true) Q E s:=by
 unfold setSearch;rw[show (100000:Nat)=Nat.succ 99999 from rfl,setSearchFrom.eq_2];refine Qa (iK hg hd hf (by unfold SetTable.fill;rw[hm,Oa];simp;omega) ?_);have OQ:t.gaveWay=false:=by unfold SetTable.gaveWay;rw[hm];rfl
 erw[OQ];show wpAny _ _ (match t.probe _ h (t.probeStart h) with | some _=>_ | _=>_) _ _ _;let⟨j,hj⟩:=uu (t:=t) hm Oa hz (h:=h) (hashAt:=λ i=>(Option.map (λ x=>x.fst) es[i]?).getD 0) hc (λ i hi=>by
  rw[hf] at hi;rw[Rn hi];exact hne _ 's')
 have hj':=hj;split
 .ext met hmet;have e:=hmet.symm.trans hj';cases e;exact Qg (hq j)
 .ext hmet;exact(hmet _ hj').elim
theorem lq:typeLookup (.type "tuple") (Str.ofString "__hash__")=pure @(.builtin "tuple.__hash__"):=by kernel_rfl
theorem nX{Y:Type}(f:Value->Y->Sem (ForInStep Y)):∀(l:List Value) (b:Y) {Q:Y->Shared->Prop},(∀v∈l,∀b:Y,∃r,f v b=pure r)->(∀b,Q b s)->wpAny (model prog w) A (forIn l b f) Q E s:=by
 intro l
 induction l with
 | nil=>intro b Q _ hq;rw[forIn_nil];exact Qg (hq b)
 | cons v l ih=>
  intro b Q hf hq;rw[forIn_cons];let⟨r,hr⟩:=hf v Qu b;rw[hr];refine Qa (Qg ?_);cases r with
  | done b=>exact Qg (hq b)
  | yield b=>exact ih b (λ v hv=>hf v (Qj _ hv)) hq
theorem uw{a:Addr}{items:Array Value}{m:Nat}{Q:Bool->Shared->Prop}(hg:s.heap.get? a=some o)(hcl:o.cls=.type "tuple")(hd:o.data=.seq items m)(hi:∀v∈items.toList,v.scannable=true)
  (hq:∀b,Q b s):wpAny (model prog w) A (hashByValue (n+1) (.ref a)) Q E s:=by
 rw[show n+1=Nat.succ n from rfl,hashByValue.eq_12];refine Qa (wpAny_specialOf (T:="tuple") ⟨o,hg,hcl⟩ lq ?_);refine Qa (Rt hg hd ?_);show wpAny _ _ (forIn items _ _ >>= _) _ _ _;rw[<-Array.forIn_toList];refine Qa (nX _ _ _ (λ v hv b=>?_) λ b=>?_)
 .rw[hashByValue_scannable _ (hi v hv)];cases plainKind v
  .exact⟨_,rfl⟩
  .exact⟨_,rfl⟩
 .let⟨b,u⟩:=b;cases b with
  | none=>exact Qg (hq _)
  | some b=>exact Qg (hq _)
theorem rS{a:Addr}{c:Value}{d:Option Addr}{sl:Array (Option Value)}{es1:Array (Int×Value)}{t1:SetTable}{Q:Unit->Shared->Prop}(hg:s.heap.get? a=some {cls:=c,dict:=d,data:=.set es ep t,slots:=sl})(hz:es1.size<=sizeLine)
  (h:∀h':Heap,h'.get? a=some {cls:=c,dict:=d,data:=.set es1 (ep+1) t1,slots:=sl}->Heap.SameBut a s.heap h'->Q () {s with heap:=h'}):wpAny (model prog w) A (storeSet a es1 t1) Q E s:=by
 unfold storeSet;refine Qa (wpAny_load hg ?_);simp only;have:¬(es1.size>sizeLine):=by omega
 erw[this,QK];refine wpAny_update hg (h _ (Q3 _ hg rfl) (Rp ..))
def mC(h:Heap)(S:Addr)(n:Nat)(hs:List Int):Prop:=∃es ep t,h.get? S=some {cls:=.type "set",dict:=none,data:=.set es ep t,slots:=#[]}/\t.mask=7/\t.dummies=#[]/\t.place.size=n/\es.size=n/\∀e∈es.toList,e.1∈hs
theorem fq{α:Type}(xs:Array α)(p:Nat)(x:α):(SetTable.insertAt xs p x).size=xs.size+1:=by
 have:=(SetTable.insertAt_perm xs p x).length_eq;simpa using this
theorem nY{vs:List Value}(h:ItemsAre (intKind prog w) ks vs):∀v∈vs,v.scannable=true:=by
 induction h with
 | nil=>intro v hv;cases hv
 | @cons k u ks vs h t ih=>
  intro v hv;rcases Qp.mp hv with e | hv
  .have h:Value.isInt k u=true:=h;rw[e];cases u<;>first | rfl | (simp[Value.isInt] at h)
  .exact ih v hv
theorem xD{S a:Addr}{hs:List Int}{Q:Bool->Shared->Prop}(hr:A.units < cLine)(hS:mC s.heap S n hs)(hx:IsTupleKey (intKind prog w) s.heap ks a)(hn:n<=3)(hk:eY ks=true)(hh:gb ks∉hs)
  (h:∀h' tk b,mC h' S (n+1) (gb ks::hs)->Heap.SameBut S s.heap h'->Q b {s with heap:=h',toks:=tk}):wpAny (model prog w) A (setAdd S (.ref a)) Q E s:=by
 unfold setAdd;refine QV (Qa ((tupleKind (intKind prog w)).pyHash hr hx ?_));rw[zq];unfold setAddHashed;refine QV ?_;rw[show (100000:Nat)=Nat.succ 99999 from rfl,setAddHashedIn.eq_2];let⟨es,ep,t,hg,hm,hd,hp,he,hl⟩:=hS;have hfill:t.fill<=t.mask:=by unfold SetTable.fill;rw[hm,hd];simp;omega
 refine Qa (iK hg rfl 'o' hfill ?_);have hb:byScan (.ref a) es=false:=by simp[byScan,Value.scannable]
 erw[hb];refine Qa (xC (t:=t) hg rfl 'o' hm hd 'o' (rR hk) (λ e hm e1=>hh (e1▸hl e hm)) λ j=>?_);simp only;refine Qa (iK hg rfl 'o' hfill ?_);erw[SetTable.put];have hj:SetTable.has t.dummies j=false:=by rw[hd];rfl
 erw[hj,Qv,QK,hd];have go:∀(t1:SetTable) (y:Sem Bool),t1.mask=7->t1.dummies=#[]->t1.place.size=n+1->wpAny (model prog w) A (do
   storeSet S (SetTable.insertAt es (SetTable.below t.place j) (gb ks,Value.ref a)) t1
   if (!false&&t1.tooFull)=true then y else pure true) Q E {s with toks:=s.toks+(tupleKind (intKind prog w)).draws ks}:=by
  intro t1 y h1 h2 h3;refine Qa (rS hg (by rw[fq];exact QC (by omega:es.size+1<=4) 'k') λ h' g' sb=>?_)
  have tf:t1.tooFull=false:=by unfold SetTable.tooFull SetTable.fill;rw[h1,h2];simp;omega
  erw[tf,Bool.not_false,Bool.and_false,Qv,QK];refine Qg (h _ _ _ ⟨_,_,_,g',h1,h2,h3,by rw[fq,he],λ e hm=>?_⟩ sb);have hm:=(SetTable.insertAt_perm es _ _).mem_iff.mp hm;rw[Array.toList_push,mem_append] at hm;rcases hm with hm | hm
  .exact Qj _ (hl e hm)
  .rw[List.mem_singleton.mp hm];exact Qu
 have bv:∀b:Bool,(if b=true then ({mask:=t.mask,place:=SetTable.insertAt t.place (SetTable.below t.place j) j,dummies:=#[],finger:=t.finger,led:=t.led,moves:=t.moves,plain:=t.plain}:SetTable) else {mask:=t.mask,place:=SetTable.insertAt t.place (SetTable.below t.place j) j,dummies:=#[],finger:=t.finger,led:=t.led,moves:=t.moves,plain:=false}).mask=7/\
   (if b=true then ({mask:=t.mask,place:=SetTable.insertAt t.place (SetTable.below t.place j) j,dummies:=#[],finger:=t.finger,led:=t.led,moves:=t.moves,plain:=t.plain}:SetTable) else {mask:=t.mask,place:=SetTable.insertAt t.place (SetTable.below t.place j) j,dummies:=#[],finger:=t.finger,led:=t.led,moves:=t.moves,plain:=false}).dummies=#[]/\
   (if b=true then ({mask:=t.mask,place:=SetTable.insertAt t.place (SetTable.below t.place j) j,dummies:=#[],finger:=t.finger,led:=t.led,moves:=t.moves,plain:=t.plain}:SetTable) else {mask:=t.mask,place:=SetTable.insertAt t.place (SetTable.below t.place j) j,dummies:=#[],finger:=t.finger,led:=t.led,moves:=t.moves,plain:=false}).place.size=n+1:=by
  intro b;cases b
  .exact⟨hm,rfl,by show (SetTable.insertAt _ _ _).size=_;rw[fq,hp]⟩
  .exact⟨hm,rfl,by show (SetTable.insertAt _ _ _).size=_;rw[fq,hp]⟩
 split
 .let⟨o,items,m,ho,hcl,hda,hit⟩:=hx;refine Qa (uw ho hcl hda (nY hit) λ b=>?_);exact go _ _ (bv b).1 (bv b).2.1 (bv b).2.2
 .refine Qa (Qg ?_);exact go _ _ (bv true).1 (bv true).2.1 (bv true).2.2
theorem gu{h h':Heap}{a S:Addr}(x:IsTupleKey (intKind prog w) h ks a)(sb:Heap.SameBut S h h')(ne:a≠S):IsTupleKey (intKind prog w) h' ks a:=by
 let⟨o,items,m,ho,r⟩:=x;exact⟨o,items,m,(sb.2 a ne).trans ho,r⟩
theorem mC.sameBut{h h':Heap}{hs:List Int}{a S:Addr}(x:mC h S n hs)(sb:Heap.SameBut a h h')(ne:S≠a):mC h' S n hs:=by
 let⟨es,ep,t,hg,r⟩:=x;exact⟨es,ep,t,(sb.2 S ne).trans hg,r⟩
theorem zu{S it l:Addr}{kN:List (List Int)}(hr:A.in1.units < cLine)(hh:A.in1.handled=none)(nl:l≠it)(nS:S≠it)(JM:S≠l)(hz:kN.length<=4)(hlen:its.size=kN.length)
  (hok:∀ks∈kN,eY ks=true) (hnd:kN.Nodup) {R:Result->Shared->Prop}:∀(n i:Nat) (s:Shared),its.size - i=n->i<=its.size->s.heap.IsListIter it l i->s.heap.IsList l its->
  (∀(j:Nat) (ks:List Int) (v:Value),kN[j]?=some ks->its[j]?=some v->∃a:Addr,v=Value.ref a/\a≠S/\a≠it/\IsTupleKey (intKind prog w) s.heap ks a)->mC s.heap S i ((kN.take i).reverse.map gb)->
  (∀(h':Heap) (tk:Nat) (hs:List Int),mC h' S its.size hs->(∀b o,b≠S->b≠it->s.heap.get? b=some o->h'.get? b=some o)->R (.ok (.ret .none)) {s with heap:=h',toks:=tk})->
  codeAny (model prog w) A (.builtin "set.update.loop" {pos:=[.ref S,.ref it]}) R s:=by
 intro n
 induction n with
 | zero=>
  intro i s hn hi hit hl hx hS hR;refine codeAny_builtin F.entry_set_update_loop ?_;rw[RI rfl rfl];show wpAny _ _ (pyNext (.ref it) >>= _) _ _ _;refine Qa (wpAny_pyNext_list_end hh hit hl (by simp;omega) λ h1 sb1=>?_);refine Qg ?_;have e:i=its.size:=by omega
  subst e;let⟨es,ep,t,hg,r⟩:=hS;exact hR h1 s.toks _ ⟨es,ep,t,sb1 S _ nS hg,r⟩ λ b o n1 n2 e=>sb1 b o n2 e
 | succ n ih=>
  intro i s hn hi hit hl hx hS hR;refine codeAny_builtin F.entry_set_update_loop ?_;rw[RI rfl rfl];show wpAny _ _ (pyNext (.ref it) >>= _) _ _ _;have lt:i < its.size:=by omega
  have lk:i < kN.length:=by omega
  let⟨a,hv,Nh,nai,hka⟩:=hx i kN[i] its[i] (by simp[lk]) (by simp[lt]);refine Qa (wpAny_pyNext_list_item hit hl (x:=its[i]) (by simp[lt]) λ h1 By sb1=>?_);rw[hv];have hmem:gb kN[i]∉(kN.take i).reverse.map gb:=by
   intro hm;let⟨ls,hls,e⟩:=Qf.mp hm;rw[mem_reverse] at hls;let⟨j,hj,e1⟩:=List.mem_take_iff_getElem.mp hls;have hj':j < kN.length:=by omega
   refine uv (hok ls ?_) (hok kN[i] (QI lk)) ?_ e
   .rw[<-e1];exact QI _
   .intro e2;have e3:kN[j]=kN[i]:=e1.trans e2;have:=(getElem_inj hnd).mp e3;omega
  refine Qa (QV (xD (s:={s with heap:=h1}) hr (hS.sameBut sb1 nS) (gu hka sb1 nai) 'o' (hok _ (QI lk)) hmem λ h2 tk b hS2 Ek=>?_));refine Qg ⟨Code.quiet_builtin _ 'k',ih (i+1) _ 'o' 'o' ?_ ?_ ?_ ?_ ?_⟩
  .exact By.extBut Ek.extBut nS.symm
  .exact(hl.extBut sb1.extBut nl).extBut Ek.extBut JM.symm
  .intro j ks v h3 h4;let⟨a',hv',n1,n2,hk'⟩:=hx j ks v h3 h4;exact⟨a',hv',n1,n2,gu (gu hk' sb1 n2) Ek n1⟩
  .have e:(kN.take (i+1)).reverse.map gb=gb kN[i]::(kN.take i).reverse.map gb:=by
    rw[take_succ_eq_append_getElem lk,reverse_append,Rv];rfl
   rw[e];exact hS2
  .intro h' tk' hs hL hk2;exact hR h' tk' hs hL λ b o n1 n2 e=>hk2 b o n1 n2 (by rw[Ek.2 b n1,sb1.2 b n2];exact e)
end
section
variable{prog:Program}{w:World}{A:Around}{E:Value->Shared->Prop}{s:Shared}
theorem JN:isSubtype (.type "list") (.type "set")=pure false:=by rw[isSubtype_type];kernel_rfl
theorem JO:isSubtype (.type "list") (.type "frozenset")=pure false:=by rw[isSubtype_type];kernel_rfl
set_option maxHeartbeats 3200000 in
theorem mD{l:Addr}{kN:List (List Int)}
  (hh:A.handled=none) (hu:A.units+10 < cLine) (hl:s.heap.IsList l its) (hz:kN.length<=4) (hlen:its.size=kN.length) (hok:∀ks∈kN,eY ks=true) (hnd:kN.Nodup)
  (hx:∀(j:Nat) (ks:List Int) (v:Value),kN[j]?=some ks->its[j]?=some v->∃a:Addr,v=Value.ref a/\IsTupleKey (intKind prog w) s.heap ks a)
  (h:∀(h':Heap) (tk:Nat) (hs:List Int),mC h' s.heap.objs.size kN.length hs->
   (∀b o,b < s.heap.objs.size->s.heap.get? b=some o->h'.get? b=some o)->Q (.ref s.heap.objs.size) {s with heap:=h',toks:=tk}) :
  wpAny (model prog w) A (call (.type "set") [.ref l]) Q E s:=by
 let⟨cc,tl,hmro⟩:=F.called_set.mro;have hmade:=F.called_set.made;have hsub:=F.called_set.sub;refine wpAny_call (codeAny_of_tree ?_);show wpAny _ _ (callAny (.type "set") _) _ _ _;refine Qg ⟨Code.quiet_builtin _ 'k',codeAny_builtin F.entry_type_call ?_⟩;rw[RI (weight_type_call_type "set" [.ref l] []) rfl];have k1:=F.called_set.notType;have k2:=F.called_set.canCreate;have k3:=F.typeCall_set_1 (.ref l)
 repeat (any_goals (first | assumption | wp_step))
 refine RU (code_set_new_1 (.ref l) (E:=E) (Q₁:=λ ob t₁=>∃led:Bool,ob=.ref s.heap.objs.size/\t₁={s with heap:=s.heap.push {cls:=.type "set",dict:=none,data:=.set #[] 0 (.fresh 0 0 led)}}) λ led=>⟨led,rfl,rfl⟩) λ r t₁ hr=>?_;cases r with
 | error e=>exact hr
 | ok fl=>
  cases fl with
  | ret ob=>
   let⟨led,rfl,rfl⟩:=hr;have gS:(s.heap.push {cls:=.type "set",dict:=none,data:=.set #[] 0 (.fresh 0 0 led)}).get? s.heap.objs.size=some {cls:=.type "set",dict:=none,data:=.set #[] 0 (.fresh 0 0 led)}:=Qm _ rfl;have gT:Shared.TypeIs {s with heap:=s.heap.push {cls:=.type "set",dict:=none,data:=.set #[] 0 (.fresh 0 0 led)}} (.ref s.heap.objs.size) "set":=⟨_,gS,rfl⟩;have k4:=F.called_set.init.lookup;have k5:=F.called_set.init.bind (.ref s.heap.objs.size)
   repeat (any_goals (first | assumption | wp_step))
   refine RU (Rx (R:=wants (λ r t₂=>r=.none/\∃h' tk,t₂={s with heap:=h',toks:=tk}/\
     (∃hs,mC h' s.heap.objs.size kN.length hs)/\
     (∀b o,b < s.heap.objs.size->s.heap.get? b=some o->h'.get? b=some o)) E) F.called_set.init.plain F.entry_set_init (check_set_init_1 gT ?_)) λ r₂ t₂ hr₂=>?_
   .let⟨ol,hol,hcl,nl,hdl⟩:=hl;let⟨ocls,odict,odata,oslots⟩:=ol;simp only at hcl hdl;subst hcl;subst hdl;have Nd:(s.heap.push {cls:=.type "set",dict:=none,data:=.set #[] 0 (.fresh 0 0 led)}).get? l=some {cls:=.type "list",dict:=odict,data:=.seq its nl,slots:=oslots}:=Qc _ hol;have k6:=JN;have k7:=JO;have k8:(Value.type "list"==Value.type "dict")=false:=by decide
    have gl:(s.heap.push {cls:=.type "set",dict:=none,data:=.set #[] 0 (.fresh 0 0 led)}).IsList l its:=⟨_,Nd,rfl,nl,rfl⟩;unfold Builtin.«set.__init__» noKeywords Builtin.Frozenset.updateFrom;generalize gPI:pyIter=PI
    wp_walk
    subst gPI;refine RP gl ?_;refine Qa (wpAny_runValue ?_);have lS:l < s.heap.objs.size:=Qh hol;have eI:(s.heap.push {cls:=.type "set",dict:=none,data:=.set #[] 0 (.fresh 0 0 led)}).objs.size=s.heap.objs.size+1:=QJ ..;refine zu (l:=l) (by show A.in1.in1.in1.units < cLine;simp[Around.in1];omega) (by simp[hh]) ?_ ?_ ?_ hz hlen hok hnd (its.size - 0) 0 _ rfl (RC _) ?_ ?_ ?_ ?_ ?_
    .rw[eI];exact Ql (QU lS)
    .rw[eI];exact Ql (RE _)
    .exact Q6 lS
    .exact⟨_,Qm _ rfl,rfl,rfl⟩
    .exact gl.push _
    .intro j ks v h1 h2;let⟨a,hv,o,items,m,ho,r⟩:=hx j ks v h1 h2;have:=Qh ho;refine⟨a,hv,Ql this,by rw[eI];exact Ql (QU this),o,items,m,Qc _ (Qc _ ho),r⟩
    .exact⟨_,_,_,Qc _ gS,rfl,rfl,rfl,rfl,λ e he=>by simp at he⟩
    .intro h' tk hs hL hk;refine Qg ?_;show wpAny _ _ (ret Value.none) _ _ _;refine Qg ⟨rfl,h',tk,rfl,⟨hs,hlen▸hL⟩,λ b o hb e=>?_⟩;exact hk b o (Ql hb) (by rw[eI];exact Ql (QU hb)) (Qc _ (Qc _ e))
   .cases r₂ with
    | error e=>exact hr₂
    | ok fl₂=>
     cases fl₂ with
     | ret r=>
      let⟨rfl,h',tk,rfl,⟨hs,hS'⟩,hk'⟩:=hr₂
      repeat (any_goals (first | assumption | wp_step))
      exact h _ _ hs hS' hk'
     | _=>exact hr₂.elim
  | _=>exact hr.elim
end
section
variable{prog:Program}{w:World}{A:Around}{E:Value->Shared->Prop}{s:Shared}
theorem zv{S it l:Addr}{nss:List (List Int)}{d:Value}{a0:Addr}{n0:List Int}{GG:Array Value}(hr:A.in1.units < cLine)(hh:A.in1.handled=none)(nl:l≠it)(nS:S≠it)(JM:S≠l)(hlen:its.size=nss.length)
  (P4:a0≠S) (Ob:a0≠it) (hi0:IntsAre GG.toList n0) (hlt:∀ns∈nss,HT.lexLt ns n0=false) {R:Result->Shared->Prop}:∀(n i:Nat) (s:Shared) (c:Nat),its.size - i=n->i<=its.size->s.heap.IsListIter it l i->s.heap.IsList l its->
  (∀(j:Nat) (ns:List Int) (v:Value),nss[j]?=some ns->its[j]?=some v->∃(a:Addr) (jt:Array Value),v=Value.ref a/\a≠S/\a≠it/\IsTup s.heap a jt/\IntsAre jt.toList ns)->
  IsTup s.heap a0 GG->s.heap.get? S=some {cls:=.type "list",data:=.seq #[.ref a0,.ref a0] c}->
  (∀(h':Heap) (tk:Nat),(∀b o,b≠S->b≠it->s.heap.get? b=some o->h'.get? b=some o)->R (.ok (.ret (.ref a0))) {s with heap:=h',toks:=tk})->
  codeAny (model prog w) A (.builtin "min.loop" {pos:=[.ref it,.none,.ref S],kw:=[(Str.ofString "default",d)]}) R s:=by
 intro n
 induction n with
 | zero=>
  intro i s c hn hi hit hl hx h0 hS hR;refine codeAny_builtin PySem.F.entry_min_loop ?_;rw[RI rfl rfl];show wpAny _ _ (seqItems? (.ref S) >>= _) _ _ _;refine Qa (Rt hS rfl ?_);show wpAny _ _ (tryCatch (pyNext (.ref it)) _ >>= _) _ _ _;refine Qa (wpAny_tryCatch (wpAny_pyNext_list_end hh hit hl (by simp;omega) λ h1 sb1=>?_));show wpAny _ _ (updateSeq S _ >>= _) _ _ _;refine Qa (wpAny_updateSeq (sb1 S _ nS hS) rfl ?_ (by simp;decide +kernel) 's');refine Qa (wpAny_letGo ?_);refine Qg ?_;refine hR _ s.toks λ b o n1 n2 e=>?_;exact Rl _ n1.symm (sb1 b o n2 e)
 | succ n ih=>
  intro i s c hn hi hit hl hx h0 hS hR;refine codeAny_builtin PySem.F.entry_min_loop ?_;rw[RI rfl rfl];show wpAny _ _ (seqItems? (.ref S) >>= _) _ _ _;refine Qa (Rt hS rfl ?_);show wpAny _ _ (tryCatch (pyNext (.ref it)) _ >>= _) _ _ _;have lt:i < its.size:=by omega
  have lk:i < nss.length:=by omega
  let⟨a,jt,hv,Nh,nai,hka,hin⟩:=hx i nss[i] its[i] (by simp[lk]) (by simp[lt]);refine Qa (wpAny_tryCatch (wpAny_pyNext_list_item hit hl (x:=its[i]) (by simp[lt]) λ h1 By sb1=>?_));rw[hv];have Cw:∀{b:Addr} {kt:Array Value},b≠it->IsTup s.heap b kt->IsTup h1 b kt:=λ {b kt} ne x=>by
   let⟨o,ho,r⟩:=x;exact⟨o,(sb1.2 b ne).trans ho,r⟩
  show wpAny _ _ (tryCatch (holding _ (richCompare .Lt (.ref a) (.ref a0) >>= _)) _ >>= _) _ _ _;refine Qa (wpAny_tryCatch (QV (Qa ?_)));refine HT.t8 (s:={s with heap:=h1}) (Cw nai hka) (Cw Ob h0) hin hi0 hr ?_;rw[hlt _ (QI lk)];refine Qa (QV (Ra ?_));refine Qa (wpAny_letGo ?_);refine Qg ?_;show wpAny _ _ (letGo _ >>= _) _ _ _;refine Qa (wpAny_letGo ?_);refine Qg ⟨Code.quiet_builtin _ 'k',ih (i+1) {s with heap:=h1} c 'o' 'o' By (hl.extBut sb1.extBut nl) ?_ (Cw Ob h0) ((sb1.2 S nS).trans hS) ?_⟩
  .intro j ns v h3 h4;let⟨a',jt',hv',n1,n2,hk',hi'⟩:=hx j ns v h3 h4;exact⟨a',jt',hv',n1,n2,Cw n2 hk',hi'⟩
  .intro h' tk hk;exact hR h' tk λ b o n1 n2 e=>hk b o n1 n2 ((sb1.2 b n2).trans e)
end
section
variable{prog:Program}{w:World}{A:Around}{E:Value->Shared->Prop}{s:Shared}
theorem zw(d:Value):Builtin.Builtins.bindParams "min" ["key","default"] 0 {kw:=[(Str.ofString "default",d)]}=pure [none,some d]:=by kernel_rfl
theorem zx(x d:Value):argsOk "min" {pos:=[x],kw:=[(Str.ofString "default",d)]}:=by kernel_rfl
theorem nZ{l:Addr}{nss:List (List Int)}{d:Value}
  (hh:A.handled=none) (hu:A.units+10 < cLine) (hl:s.heap.IsList l its) (hlen:its.size=nss.length)
  (hlt:∀n0,nss.head?=some n0->∀ns∈nss,HT.lexLt ns n0=false)
  (hx:∀(j:Nat) (ns:List Int) (v:Value),nss[j]?=some ns->its[j]?=some v->∃(a:Addr) (jt:Array Value),v=Value.ref a/\IsTup s.heap a jt/\IntsAre jt.toList ns)
  (h:∀(h':Heap) (tk:Nat),(∀b o,s.heap.get? b=some o->h'.get? b=some o)->Q ((its[0]?).getD d) {s with heap:=h',toks:=tk}) :
  wpAny (model prog w) A (call (.builtin "min") [.ref l] [(Str.ofString "default",d)]) Q E s:=by
 refine wpAny_call (Rx PySem.F.plain_min PySem.F.entry_min ?_);have hc:checkBuiltinCall "min" {pos:=[.ref l],kw:=[(Str.ofString "default",d)]}=pure ():=by
  unfold checkBuiltinCall;rw[PySem.F.kind_min];exact zx _ _
 rw[hc];refine Qg ?_;show wpAny _ _ (Builtin.Builtins.bindParams _ _ _ _ >>= _) _ _ _;rw[zw];refine Qa (Qg ?_);show wpAny _ _ (pyIter (.ref l) >>= _) _ _ _;refine Qa (RP hl ?_);refine Qa (wpAny_newList ?_ 's');refine Qg ⟨Code.quiet_builtin _ 'k',?_⟩;have eI:∀o,(s.heap.push o).objs.size=s.heap.objs.size+1:=λ o=>QJ ..;have lS:l < s.heap.objs.size:=by let⟨o,ho,_⟩:=hl;exact Qh ho
 have nl:l≠s.heap.objs.size:=Ql lS;have nS:(s.heap.push {cls:=.type "list_iterator",data:=.fields #[.ref l,.int 0 0]}).objs.size≠s.heap.objs.size:=by rw[eI];exact Q6 (RE _)
 have JM:(s.heap.push {cls:=.type "list_iterator",data:=.fields #[.ref l,.int 0 0]}).objs.size≠l:=by rw[eI];exact Q6 (QU lS)
 generalize hS:(s.heap.push {cls:=.type "list_iterator",data:=.fields #[.ref l,.int 0 0]}).objs.size=S at *;have g1:((s.heap.push {cls:=.type "list_iterator",data:=.fields #[.ref l,.int 0 0]}).push {cls:=.type "list",data:=.seq [].toArray}).get? S=some {cls:=.type "list",data:=.seq [].toArray}:=by rw[<-hS];exact Qm _ rfl
 have k1:∀b o,s.heap.get? b=some o->((s.heap.push {cls:=.type "list_iterator",data:=.fields #[.ref l,.int 0 0]}).push {cls:=.type "list",data:=.seq [].toArray}).get? b=some o:=λ b o e=>Qc _ (Qc _ e);have hit:((s.heap.push {cls:=.type "list_iterator",data:=.fields #[.ref l,.int 0 0]}).push {cls:=.type "list",data:=.seq [].toArray}).IsListIter s.heap.objs.size l 0:=⟨_,Qc _ (Qm _ rfl),rfl,rfl⟩;have hl1:((s.heap.push {cls:=.type "list_iterator",data:=.fields #[.ref l,.int 0 0]}).push {cls:=.type "list",data:=.seq [].toArray}).IsList l its:=by let⟨o,ho,r⟩:=hl;exact⟨o,k1 _ _ ho,r⟩
 generalize (s.heap.push {cls:=.type "list_iterator",data:=.fields #[.ref l,.int 0 0]}).push {cls:=.type "list",data:=.seq [].toArray}=h0 at *;refine codeAny_builtin PySem.F.entry_min_loop ?_;rw[RI rfl rfl];show wpAny _ _ (seqItems? (.ref S) >>= _) _ _ _;refine Qa (Rt (s:={s with heap:=h0}) g1 rfl ?_);show wpAny _ _ (tryCatch (pyNext (.ref s.heap.objs.size)) _ >>= _) _ _ _;cases nss with
 | nil=>
  have hz:its.size=0:=hlen;refine Qa (wpAny_tryCatch (wpAny_pyNext_list_end (s:={s with heap:=h0}) (by simpa using hh) hit hl1 (Array.getElem?_eq_none (by rw[hz];exact Qk _)) λ h1 sb1=>?_));show wpAny _ _ (rule _ >>= _) _ _ _;refine Qa (wpAny_rule ?_);refine Qg ?_;have:=h h1 s.toks λ b o e=>sb1 b o (Ql (Qh e)) (k1 b o e);rw[Array.getElem?_eq_none 'o'] at this;exact this
 | cons n0 r=>
  have lt:0 < its.size:=by rw[hlen];simp
  have he:its[0]?=some its[0]:=by simp[lt]
  let⟨a,jt,hv,hk,hin⟩:=hx 0 n0 its[0] rfl he;have la:a < s.heap.objs.size:=by let⟨o,ho,_⟩:=hk;exact Qh ho
  have Nh:a≠S:=by rw[<-hS];rw[eI];exact Ql (QU la)
  refine Qa (wpAny_tryCatch (wpAny_pyNext_list_item (s:={s with heap:=h0}) hit hl1 (x:=its[0]) he λ h1 By sb1=>?_));rw[hv];show wpAny _ _ (updateSeq S _ >>= _) _ _ _;have g2:h1.get? S=some {cls:=.type "list",data:=.seq [].toArray}:=(sb1.2 S nS).trans g1;refine Qa (wpAny_updateSeq (s:={s with heap:=h1}) g2 rfl ?_ 's' (by simp;decide +kernel));refine Qg ⟨Code.quiet_builtin _ 'k',?_⟩;have Ek:Heap.SameBut S h1 (h1.update S (Obj.mapSeq λ _=>#[.ref a,.ref a])):=Rp ..;have g3:∃c,(h1.update S (Obj.mapSeq λ _=>#[.ref a,.ref a])).get? S=some {cls:=.type "list",data:=.seq #[.ref a,.ref a] c}:=⟨_,Q3 _ g2 rfl⟩;let⟨c,g3⟩:=g3;have k2:∀b o,b≠S->b≠s.heap.objs.size->h0.get? b=some o->(h1.update S (Obj.mapSeq λ _=>#[.ref a,.ref a])).get? b=some o:=λ b o n1 n2 e=>by
   rw[Ek.2 b n1,sb1.2 b n2];exact e
  have tupK:∀{b:Addr} {kt:Array Value},IsTup s.heap b kt->b≠S/\b≠s.heap.objs.size/\IsTup (h1.update S (Obj.mapSeq λ _=>#[.ref a,.ref a])) b kt:=λ {b kt} x=>by
   let⟨o,ho,r⟩:=x;have lb:=Qh ho;have n1:b≠S:=by rw[<-hS];rw[eI];exact Ql (QU lb)
   exact⟨n1,Ql lb,o,k2 b o n1 (Ql lb) (k1 b o ho),r⟩
  refine zv (l:=l) (nss:=n0::r) (n0:=n0) (its:=its) (GG:=jt) (by simp[Around.in1];omega) (by simpa using hh) nl nS JM hlen Nh (Ql la) hin (hlt n0 rfl) (its.size - 1) 1 {s with heap:=h1.update S (Obj.mapSeq λ _=>#[.ref a,.ref a])} c rfl lt (By.extBut Ek.extBut nS.symm) ((hl1.extBut sb1.extBut nl).extBut Ek.extBut JM.symm) ?_ (tupK hk).2.2 g3 ?_
  .intro j ns v h3 h4;let⟨a',jt',hv',hk',hi'⟩:=hx j ns v h3 h4;exact⟨a',jt',hv',(tupK hk').1,(tupK hk').2.1,(tupK hk').2.2,hi'⟩
  .intro h' tk hk';have:=h h' tk λ b o e=>by
    have lb:=Qh e;have n1:b≠S:=by rw[<-hS];rw[eI];exact Ql (QU lb)
    exact hk' b o n1 (Ql lb) (k2 b o n1 (Ql lb) (k1 b o e))
   rw[he,Rm,hv] at this;exact this
end
section
variable{prog:Program}{w:World}{A:Around}{E:Value->Shared->Prop}{s:Shared}
theorem zy{a:Addr}{v:Value}{P:PySem.Fin->Shared->Prop}(hg:s.heap.get? a=some {cls:=.type "list",data:=.seq #[v] n})
  (h:∀h' n',h'.get? a=some {cls:=.type "list",data:=.seq #[v] n'}->(∀b o,b≠a->s.heap.get? b=some o->h'.get? b=some o)->P (.done (.ret .none)) {s with heap:=h'}) :
  wpAny (model prog w) A (Builtin.«list.sort» {pos:=[.ref a]}) P E s:=by
 rw[list_sort_plain];unfold Builtin.List.listItems Builtin.List.listUpdate;refine Qa ?_
 repeat (any_goals (first | assumption | wp_step))
 refine Qg ?_;have g1:(s.heap.update a (Obj.mapSeq λ x=>#[])).get? a=some {cls:=.type "list",data:=.seq #[] (n+1)}:=Q3 _ hg rfl;have g2:(((s.heap.update a (Obj.mapSeq λ x=>#[])).push {cls:=.type "tuple",data:=.seq #[v].toList.toArray}).push {cls:=.type "list",data:=.seq #[]}).get? a=some {cls:=.type "list",data:=.seq #[] (n+1)}:=Qc _ (Qc _ g1);have kp:∀b o,b≠a->s.heap.get? b=some o->(((s.heap.update a (Obj.mapSeq λ x=>#[])).push {cls:=.type "tuple",data:=.seq #[v].toList.toArray}).push {cls:=.type "list",data:=.seq #[]}).get? b=some o:=λ b o nb e=>Qc _ (Qc _ (Rl _ nb.symm e));generalize ((s.heap.update a (Obj.mapSeq λ x=>#[])).push {cls:=.type "tuple",data:=.seq #[v].toList.toArray}).push {cls:=.type "list",data:=.seq #[]}=h0 at *;show wpAny _ _ (seqEpoch a >>= _) _ _ _;refine Qa ?_;unfold seqEpoch;refine Qa (wpAny_load (s:={s with heap:=h0}) g2 (Qg ?_));have hz:Array.map (λ x=>x.snd) (#[v].zip #[v])=#[v]:=by simp
 show wpAny _ _ (updateSeq a (λ _=>Array.map (λ x=>x.snd) (#[v].zip #[v])) >>= _) _ _ _;rw[hz];refine Qa (wpAny_updateSeq (s:={s with heap:=h0}) g2 rfl ?_ 's' 's');have ht:(n+1 != if (((λ x:Array Value=>(#[]:Array Value)) #[v]).size==#[v].size)=true then n else n+1)=false:=by simp
 erw[ht];show wpAny _ _ (ret Value.none) _ _ _;refine Qg ?_;exact h _ _ (Q3 _ g2 rfl) λ b o nb e=>Rl _ nb.symm (kp b o nb e)
theorem lA{l:Addr}{v:Value}(hl:s.heap.IsList l #[v])
  (h:∀D h' n',s.heap.objs.size<=D->h'.get? D=some {cls:=.type "list",data:=.seq #[v] n'}->(∀b o,s.heap.get? b=some o->h'.get? b=some o)->Q (.ref D) {s with heap:=h'}) :
  wpAny (model prog w) A (call (.builtin "sorted") [.ref l]) Q E s:=by
 refine wpAny_call (Rx plain_sorted entry_sorted ?_);have hc:checkBuiltinCall "sorted" {pos:=[.ref l]}=pure ():=by
  unfold checkBuiltinCall;rw[kind_sorted];exact args_sorted1 _
 rw[hc];refine Qg ?_;show wpAny _ _ (Builtin.sorted {pos:=[.ref l]}) _ _ _;have hcc:checkCount "sorted" 1 1 ([Value.ref l]:List Value).length=pure ():=by kernel_rfl
 unfold Builtin.sorted;erw[hcc];refine Qa (Qg ?_);refine Qa (collect_list (vs:=[v]) (by simpa using hl) ?_ (by simp;decide +kernel));refine Qa (wpAny_newList ?_ (by simp;decide +kernel));have hs1:((s.heap.push (seqObj "list" #[] 0)).update s.heap.objs.size (Obj.mapSeq λ x=>x++[v].toArray)).objs.size=s.heap.objs.size+1:=((Rp (s.heap.push (seqObj "list" #[] 0)) s.heap.objs.size (Obj.mapSeq λ x=>x++[v].toArray)).1).trans (QJ ..);have k1:∀b o,s.heap.get? b=some o->((s.heap.push (seqObj "list" #[] 0)).update s.heap.objs.size (Obj.mapSeq λ x=>x++[v].toArray)).get? b=some o:=λ b o e=>Rl _ (Q6 (Qh e)) (Qc _ e);generalize (s.heap.push (seqObj "list" #[] 0)).update s.heap.objs.size (Obj.mapSeq λ x=>x++[v].toArray)=h0 at *;have gD:(h0.push {cls:=.type "list",data:=.seq [v].toArray}).get? h0.objs.size=some {cls:=.type "list",data:=.seq [v].toArray}:=Qm _ rfl;refine Qa (QV (wpAny_call (Rx PySem.F.slot_list_sort.plain PyProof.Rows.entry_list_sort ?_)));refine PySem.F.slot_list_sort.check _ _ _ _ _ _ _ _ ⟨_,gD,rfl⟩ (PyProof.Rows.args_list_sort _) ?_;refine zy (v:=v) (n:=0) (s:={s with heap:=h0.push {cls:=.type "list",data:=.seq [v].toArray}}) gD λ h' n' g' k'=>?_;refine Qg ?_;refine h h0.objs.size h' n' (by rw[hs1];exact Nat.le_succ _) g' λ b o e=>k' b o (Ql (Qh (k1 b o e))) (Qc _ (k1 b o e))
theorem xE{a:Addr}{P:PySem.Fin->Shared->Prop}(hg:s.heap.get? a=some {cls:=.type "list",data:=.seq #[] n})
  (h:∀h' n',h'.get? a=some {cls:=.type "list",data:=.seq #[] n'}->(∀b o,b≠a->s.heap.get? b=some o->h'.get? b=some o)->P (.done (.ret .none)) {s with heap:=h'}) :
  wpAny (model prog w) A (Builtin.«list.sort» {pos:=[.ref a]}) P E s:=by
 rw[list_sort_plain];unfold Builtin.List.listItems Builtin.List.listUpdate;refine Qa ?_
 repeat (any_goals (first | assumption | wp_step))
 refine Qg ?_;have g1:(s.heap.update a (Obj.mapSeq λ x=>#[])).get? a=some {cls:=.type "list",data:=.seq #[] n}:=Q3 _ hg rfl;have g2:(((s.heap.update a (Obj.mapSeq λ x=>#[])).push {cls:=.type "tuple",data:=.seq (#[]:Array Value).toList.toArray}).push {cls:=.type "list",data:=.seq #[]}).get? a=some {cls:=.type "list",data:=.seq #[] n}:=Qc _ (Qc _ g1);have kp:∀b o,b≠a->s.heap.get? b=some o->(((s.heap.update a (Obj.mapSeq λ x=>#[])).push {cls:=.type "tuple",data:=.seq (#[]:Array Value).toList.toArray}).push {cls:=.type "list",data:=.seq #[]}).get? b=some o:=λ b o nb e=>Qc _ (Qc _ (Rl _ nb.symm e));generalize ((s.heap.update a (Obj.mapSeq λ x=>#[])).push {cls:=.type "tuple",data:=.seq (#[]:Array Value).toList.toArray}).push {cls:=.type "list",data:=.seq #[]}=h0 at *;show wpAny _ _ (seqEpoch a >>= _) _ _ _;refine Qa ?_;unfold seqEpoch;refine Qa (wpAny_load (s:={s with heap:=h0}) g2 (Qg ?_));have hz:Array.map (λ x=>x.snd) ((#[]:Array Value).zip (#[]:Array Value))=#[]:=by simp
 show wpAny _ _ (updateSeq a (λ _=>Array.map (λ x=>x.snd) ((#[]:Array Value).zip (#[]:Array Value))) >>= _) _ _ _;rw[hz];refine Qa (wpAny_updateSeq (s:={s with heap:=h0}) g2 rfl ?_ 's' 's');have ht:(n != if (((λ x:Array Value=>(#[]:Array Value)) #[]).size==(#[]:Array Value).size)=true then n else n+1)=false:=by simp
 erw[ht];show wpAny _ _ (ret Value.none) _ _ _;refine Qg ?_;exact h _ _ (Q3 _ g2 rfl) λ b o nb e=>Rl _ nb.symm (kp b o nb e)
theorem j5{l:Addr}(hl:s.heap.IsList l #[])
  (h:∀D h' n',s.heap.objs.size<=D->h'.get? D=some {cls:=.type "list",data:=.seq #[] n'}->(∀b o,s.heap.get? b=some o->h'.get? b=some o)->Q (.ref D) {s with heap:=h'}) :
  wpAny (model prog w) A (call (.builtin "sorted") [.ref l]) Q E s:=by
 refine wpAny_call (Rx plain_sorted entry_sorted ?_);have hc:checkBuiltinCall "sorted" {pos:=[.ref l]}=pure ():=by
  unfold checkBuiltinCall;rw[kind_sorted];exact args_sorted1 _
 rw[hc];refine Qg ?_;show wpAny _ _ (Builtin.sorted {pos:=[.ref l]}) _ _ _;have hcc:checkCount "sorted" 1 1 ([Value.ref l]:List Value).length=pure ():=by kernel_rfl
 unfold Builtin.sorted;erw[hcc];refine Qa (Qg ?_);refine Qa (collect_list (vs:=[]) (by simpa using hl) ?_ 's');refine Qa (wpAny_newList ?_ 's');have hs1:((s.heap.push (seqObj "list" #[] 0)).update s.heap.objs.size (Obj.mapSeq λ x=>x++([]:List Value).toArray)).objs.size=s.heap.objs.size+1:=((Rp (s.heap.push (seqObj "list" #[] 0)) s.heap.objs.size (Obj.mapSeq λ x=>x++([]:List Value).toArray)).1).trans (QJ ..);have k1:∀b o,s.heap.get? b=some o->((s.heap.push (seqObj "list" #[] 0)).update s.heap.objs.size (Obj.mapSeq λ x=>x++([]:List Value).toArray)).get? b=some o:=λ b o e=>Rl _ (Q6 (Qh e)) (Qc _ e);generalize (s.heap.push (seqObj "list" #[] 0)).update s.heap.objs.size (Obj.mapSeq λ x=>x++([]:List Value).toArray)=h0 at *;have gD:(h0.push {cls:=.type "list",data:=.seq ([]:List Value).toArray}).get? h0.objs.size=some {cls:=.type "list",data:=.seq ([]:List Value).toArray}:=Qm _ rfl;refine Qa (QV (wpAny_call (Rx PySem.F.slot_list_sort.plain PyProof.Rows.entry_list_sort ?_)));refine PySem.F.slot_list_sort.check _ _ _ _ _ _ _ _ ⟨_,gD,rfl⟩ (PyProof.Rows.args_list_sort _) ?_;refine xE (n:=0) (s:={s with heap:=h0.push {cls:=.type "list",data:=.seq ([]:List Value).toArray}}) gD λ h' n' g' k'=>?_;refine Qg ?_;refine h h0.objs.size h' n' (by rw[hs1];exact Nat.le_succ _) g' λ b o e=>k' b o (Ql (Qh (k1 b o e))) (Qc _ (k1 b o e))
end
end L2
end
section
namespace HT
open PySem PyProof.Rows List
open PySem.SeqAt List
open PySem.AutoSeq1 (wpAny_loadPart')
open PySem.MeetsSeq PySem.MeetsSeq2 PySem.MeetsSeq3 List
section
variable{prog:Program}{w:World}{A:Around}{E:Value->Shared->Prop}{s:Shared}
theorem jg{t sl:Addr}{items:Array Value}{vl vu:Value}{lo hi:Option Int}{Q:Value->Shared->Prop}(ht:IsTup s.heap t items)(hs:s.heap.IsSliceOf sl vl vu .none)(pl:IsPart vl lo)(pu:IsPart vu hi)
  (h1:cZ items.size 0 lo=0) (h2:cZ items.size items.size hi=items.size) (h:Q (.ref t) s):wpAny (model prog w) A (getItem (.ref t) (.ref sl)) Q E s:=by
 let⟨os,hos,hcs,hds⟩:=id hs;have MT:s.TypeIs (.ref sl) "slice":=⟨os,hos,hcs⟩;unfold getItem
 try with_reducible refine QV ?_
 first | refine Qa (Qg ?_) | skip
 refine Qa (wpAny_sequenceKey ht.typeIs 'd' ?_);refine Qa (Q9 (name:=Str.ofString "__getitem__") ht.typeIs PyProof.Rows.slot_tuple_getitem
  (RH PyProof.Rows.slot_tuple_getitem ht.typeIs entry_tuple_getitem ?_ (args_tuple_getitem _ _)))
 show wpAny _ _ (Builtin.Tuple.tupleItemsOf (.ref t) >>= _) _ _ s;refine Qa (tupleItemsOf_ ht ?_);refine Qa (wpAny_typeOf MT ?_);rw[Qs 'd'];refine Qa (gY hs pl pu ?_);have hyes:(((cZ items.size 0 lo:Nat):Int)==0&&(1:Int)==1&&(cZ items.size items.size hi - cZ items.size 0 lo)==items.size)=true:=by
  rw[h1,h2];simp
 show wpAny _ _ (if (((cZ items.size 0 lo:Nat):Int)==0&&(1:Int)==1&&(cZ items.size items.size hi - cZ items.size 0 lo)==items.size)=true then _ else _) _ _ s;rw[Qs hyes];refine Qa ?_;unfold Builtin.Tuple.tupleIsExact;refine Qa (wpAny_typeOf ht.typeIs (Qg ?_));rw[Qs 'd'];exact Qa (wpAny_rule (Qg ⟨_,rfl,Qg h⟩))
end
end HT
namespace L2
open PySem PySem.Spec PyProof.Rows List
theorem Cy{X:Cx}:IL X (λ x lo hi H Q=>∃a xs,x=.ref a/\dI X.K H a xs/\(HT.cZ xs.length 0 lo=0/\HT.cZ xs.length xs.length hi=xs.length)/\Q (.ref a) H):=by
 intro aa s Y H x v vl vu lo hi sl Q I rx hs pl pu h;let⟨a,xs,rfl,hx,hw,q⟩:=h;cases rx;let⟨its,r,ht,hz⟩:=I.tuple hx;have hlen:its.toArray.size=xs.length:=by rw[Qq];exact r.length.symm
 refine⟨"tuple",_,PyProof.Rows.slot_tuple_getitem.lookup,ht.typeIs,?_⟩;exact HT.jg ht hs pl pu (by rw[hlen];exact hw.1) (by rw[hlen];exact hw.2) ⟨.ref a,H,I,rfl,q⟩
end L2
end
section
namespace D
open PySem List
variable{α:Type}
inductive W where
 | non | bl (b:Bool) | int (i:Int) | str (x:Str) | tup (xs:List W) | fz (xs:List W) | obj (c:Str) (ks:List Str) (vs:List W) | ref (n:Nat)
 deriving Inhabited
inductive O where
 | lst (xs:List W) | ins (c:Str) (fs:List (Str×W)) | set (ks:List L2.Key) | dic (fs:List (Str×W))
abbrev Mem:=List O
abbrev Loc:=List (Option W)
inductive R(α:Type) where
 | no
 | ok (a:α) (m:Mem)
@[inline] noncomputable def R.bind{J:Type}(x:R α)(f:α->Mem->R J):R J:=match x with
 | .no=>.no
 | .ok a m=>f a m
inductive U where
 | pV | mind | kin (kvs:List (Str×W)) | knin (kvs:List (Str×W)) | kget (kvs:List (Str×W)) | dict (ks:List Str) | isc (c:Str) | kv | dcm | dzip | dlst
inductive B where
 | len | abs | max | min | divmod | all | any | list | tuple | int | sorted | sum | repr | str | dum
 deriving DecidableEq
mutual
inductive T where
 | var (i:Nat) | tup (ts:Ts)
inductive Ts where
 | nil | cons (t:T) (ts:Ts)
end
mutual
inductive E where
 | var (i:Nat) | cst (w:W)
 | bin (op:Operator) (a b:E) | neg (a:E) | not (a:E) | and (a b:E) | or (a b:E)
 | cmp (op:CmpOp) (a b:E) | chain (o1 o2:CmpOp) (a b c:E)
 | ife (t a b:E) | tup (es:Es) | lst (es:Es) | idx (a b:E)
 | slc (a:E) (lo hi:Oe)
 | call (f:Nat) (es:Es) | blt (b:B) (es:Es) | isI (a:E) (t:String)
 | meth (o:E) (m:String) (es:Es)
 | comp (g:G)
 | rng (a:E) | rng2 (a b:E) | enm (a:E) | zip (es:Es) | lrng (a:E)
 | frz (a:E) | fld (a:E) (f:Str) | make (c:Str) (es:Es) | mth (o:E) (m:Str) (es:Es) | set0 | fus (u:U) (a:E)
inductive Es where
 | nil | cons (e:E) (es:Es)
inductive Oe where
 | none | some (e:E)
inductive G where
 | elt (e:E) | gen (t:T) (js:List Nat) (it:E) (ifs:Es) (rest:G)
end
mutual
inductive A where
 | pt (t:T) | sub (o i:E) | tup (l:As)
inductive As where
 | nil | cons (a:A) (l:As)
end
mutual
inductive S where
 | asg (t:A) (e:E) | aug (i:Nat) (op:Operator) (e:E) | expr (e:E) | ret (e:E) | retN
 | ife (t:E) (a b:Ss) | for_ (t:T) (it:E) (b:Ss) | while_ (t:E) (b:Ss) | pass | brk | cont | never
 | fas (o:E) (f:Str) (e:E)
inductive Ss where
 | nil | cons (s:S) (r:Ss)
end
def lim:Nat:=1000000
def new(o:O)(m:Mem):R W:=.ok (.ref m.length) (m++[o])
def getL(m:Mem):W->Option (List W)
 | .ref n=>match m[n]? with
  | some (.lst xs)=>some xs
  | _=>none
 | .fz xs=>some xs
 | _=>none
def aM(m:Mem):W->Option (List W)
 | .tup xs=>some xs
 | w=>getL m w
def dw(f:W->Option α):List W->Option (List α)
 | []=>some []
 | x::xs=>match f x with
  | none=>none
  | some d=>match dw f xs with
   | none=>none
   | some ds=>some (d::ds)
def toD:Nat->Mem->W->Option PyData
 | 0,_,_=>none
 | n+1,m,w=>match w with
  | .non=>some .none
  | .bl b=>some (.bool b)
  | .int i=>some (.int i)
  | .str x=>if x.cps.all (· < 0x110000) then some (.str x) else none
  | .tup xs=>(dw (toD n m) xs).map .tuple
  | .fz xs=>(dw (toD n m) xs).map .list
  | .ref a=>match getL m (.ref a) with
   | some xs=>(dw (toD n m) xs).map .list
   | none=>none
  | .obj _ _ _=>none
def qP(m:Mem)(x y:W):R Bool:=match toD 60 m x,toD 60 m y with
 | some d,some e=>.ok (PyData.eqv d e) m
 | _,_=>.no
def truthy(m:Mem):W->R Bool
 | .non=>.ok false m
 | .bl b=>.ok b m
 | .int i=>.ok (i != 0) m
 | .str x=>if x.length<=lim then .ok ((x.length:Int) != 0) m else .no
 | .tup xs=>.ok (!xs.isEmpty) m
 | .fz xs=>.ok (!xs.isEmpty) m
 | .ref n=>match getL m (.ref n) with
  | some xs=>.ok (!xs.isEmpty) m
  | none=>.no
 | .obj _ _ _=>.no
def kO(i j:Int):Bool:=(decide (-(2^64) < i)&&decide (i < 2^64))||(decide (-(2^64) < j)&&decide (j < 2^64))
def Cz(m:Mem)(x y:W):R W:=match getL m x,getL m y with
 | some xs,some ys=>if xs.length+ys.length<=lim then new (.lst (xs++ys)) m else .no
 | _,_=>.no
def OR(n:Nat)(xs:List W):List W:=(List.replicate n xs).flatten
def binop(op:Operator)(x y:W)(m:Mem):R W:=match op with
 | .Add=>match x,y with
  | .int i,.int j=>.ok (.int (i+j)) m
  | .tup xs,.tup ys=>if xs.length+ys.length<=lim then .ok (.tup (xs++ys)) m else .no
  | .str a,.str b=>if a.length+b.length<=lim then .ok (.str (a++b)) m else .no
  | x,y=>Cz m x y
 | .Sub=>match x,y with
  | .int i,.int j=>.ok (.int (i - j)) m
  | _,_=>.no
 | .Mult=>match x,y with
  | .int i,.int j=>if kO i j then .ok (.int (i*j)) m else .no
  | _,_=>.no
 | .FloorDiv=>match x,y with
  | .int i,.int j=>if 0 < j/\j < 1073741824 then .ok (.int (i / j)) m else .no
  | _,_=>.no
 | .Mod=>match x,y with
  | .int i,.int j=>if 0 < j then .ok (.int (i%j)) m else .no
  | _,_=>.no
 | .Pow=>match x,y with
  | .int i,.int j=>if 0<=j/\j<=1000000/\i.natAbs < 2^64 then .ok (.int (i^j.toNat)) m else .no
  | _,_=>.no
 | .LShift=>match x,y with
  | .int i,.int j=>if 0<=j/\j<=1000000/\i.natAbs < 2^64 then .ok (.int (i*2^j.toNat)) m else .no
  | _,_=>.no
 | .RShift=>match x,y with
  | .int i,.int j=>if 0<=j then .ok (.int (i / 2^j.toNat)) m else .no
  | _,_=>.no
 | .BitAnd=>match x,y with
  | .int i,.int j=>.ok (.int (Builtin.bitAnd i j)) m
  | _,_=>.no
 | _=>.no
def jH(m:Mem)(x:W)(ys:List W):R Bool:=match toD 60 m x,dw (toD 60 m) ys with
 | some d,some es=>.ok (es.any λ e=>PyData.eqv e d) m
 | _,_=>.no
def mE(k:L2.Key)(ks:List L2.Key):Bool:=ks.any λ j=>decide (j=k)
def zz:W->Option L2.Key
 | .int i=>some (.inl i)
 | .str x=>some (.inr x)
 | _=>none
def pZ(m:Mem)(x y:W):R Bool:=match y with
 | .ref n=>match m[n]? with
  | some (.lst ys)=>jH m x ys
  | some (.set ks)=>match zz x with
   | some k=>.ok (mE k ks) m
   | none=>.no
  | some (.dic fs)=>match x with
   | .str z=>.ok (fs.lookup z).isSome m
   | _=>.no
  | _=>.no
 | .fz ys=>jH m x ys
 | .tup ys=>jH m x ys
 | _=>.no
def vn:W->Bool
 | .non=>true
 | _=>false
def cU:List W->Option (List Int)
 | []=>some []
 | .int b::r=>(cU r).map (b::·)
 | _::_=>none
def aD(op:CmpOp)(x y:W)(m:Mem):R Bool:=match op with
 | .Eq=>qP m x y
 | .NotEq=>(qP m x y).bind λ b m=>.ok (!b) m
 | .Lt=>match x,y with
  | .int i,.int j=>.ok (decide (i < j)) m
  | .str a,.str b=>.ok (decide (a.cps.toList < b.cps.toList)) m
  | _,_=>.no
 | .LtE=>match x,y with
  | .int i,.int j=>.ok (decide (i<=j)) m
  | .str a,.str b=>.ok (!decide (b.cps.toList < a.cps.toList)) m
  | _,_=>.no
 | .Gt=>match x,y with | .int i,.int j=>.ok (decide (j < i)) m | _,_=>.no
 | .GtE=>match x,y with | .int i,.int j=>.ok (decide (j<=i)) m | _,_=>.no
 | .In=>pZ m x y
 | .NotIn=>match y with
  | .ref n=>match m[n]? with
   | some (.lst ys)=>(jH m x ys).bind λ b m=>.ok (!b) m
   | some (.dic fs)=>match x with
    | .str z=>.ok (!(fs.lookup z).isSome) m
    | _=>.no
   | _=>.no
  | .fz ys=>(jH m x ys).bind λ b m=>.ok (!b) m
  | .tup ys=>(jH m x ys).bind λ b m=>.ok (!b) m
  | _=>.no
 | .Is=>match y with
  | .non=>.ok (vn x) m
  | _=>.no
 | .IsNot=>match y with
  | .non=>.ok (!vn x) m
  | _=>.no
def aX(x y:W)(m:Mem):R W:=match y with
 | .int i=>match x with
  | .str z=>if z.length<=lim then match L2.kZ z.cps.toList i with
   | some c=>.ok (.str ⟨#[c]⟩) m
   | none=>.no else .no
  | x=>match aM m x with
   | some xs=>match L2.kZ xs i with
    | some w=>.ok w m
    | none=>.no
   | none=>.no
 | .str z=>match x with
  | .ref n=>match m[n]? with
   | some (.dic fs)=>match fs.lookup z with
    | some w=>.ok w m
    | none=>.no
   | _=>.no
  | _=>.no
 | _=>.no
def ux(xs:List W)(lo hi:Option Int):List W:=(xs.drop (HT.cZ xs.length 0 lo)).take (HT.cZ xs.length xs.length hi - HT.cZ xs.length 0 lo)
def mF(x:W)(lo hi:Option Int)(m:Mem):R W:=match x with
 | .tup xs=>.ok (.tup (ux xs lo hi)) m
 | .str z=>if z.length<=lim then .ok (.str (Txt.slice z lo hi)) m else .no
 | x=>match getL m x with
  | some xs=>new (.lst (ux xs lo hi)) m
  | none=>.no
def rT(o i v:W)(m:Mem):R Unit:=match o,i with
 | .ref n,.int k=>match m[n]? with
  | some (.lst xs)=>match L2.nP xs.length k with
   | some j=>.ok () (m.set n (.lst (xs.set j v)))
   | none=>.no
  | _=>.no
 | _,_=>.no
def bools:List W->Option (List Bool)
 | []=>some []
 | .bl b::r=>(bools r).map (b::·)
 | _::_=>none
def JP(m:Mem)(t:String):W->Option Bool
 | .non=>some (t=="NoneType")
 | .bl _=>some (t=="bool"||t=="int")
 | .int _=>some (t=="int")
 | .str _=>some (t=="str")
 | .tup _=>some (t=="tuple")
 | .fz _=>some (t=="list")
 | .ref n=>match m[n]? with
  | some (.lst _)=>some (t=="list")
  | _=>none
 | .obj _ _ _=>none
def eZ(n:Nat)(zA:Nat->Nat->Bool):PySem.W.KasT α->Option α
 | .ret a=>some a
 | .ask i j k=>if i < n/\j < n/\i≠j then eZ n zA (k (zA i j)) else none
def gK:W->Option (List Int)
 | .tup xs=>cU xs
 | _=>none
def zB:List W->Option (List Str)
 | []=>some []
 | .str b::r=>(zB r).map (b::·)
 | _::_=>none
def El(ys:List W)(bA:List (List Int)):Option (List W):=
 if ys.length=1 then some ys else if 0 < (bA.headD []).length/\(bA.all λ t=>t.length==(bA.headD []).length)=true/\2<=ys.length/\ys.length < 64 then
  match eZ ys.length (λ i j=>HT.lexLt (bA.getD i []) (bA.getD j [])) (PySem.W.kas_sort ys.length) with
  | some pm=>if pm.size<=64 then some (pm.toList.map λ i=>ys.getD i .non) else none
  | none=>none
 else none
def sortI(ys:List W)(ns:List Int):Option (List W):=
 if ys.length<=1 then some ys else if ys.length < 64 then
  match eZ ns.length (λ i j=>decide (ns.getD i 0 < ns.getD j 0)) (PySem.W.kas_sort ns.length) with
  | some pm=>if pm.size<=64 then some (pm.toList.map λ i=>ys.getD i .non) else none
  | none=>none
 else none
def zC:W->Option (List Int)
 | .tup (.int a::.int b::.int c::_)=>some [a,b,c]
 | _=>none
def rU(ys:List W)(bA:List (List Int)):Option (List W):=
 if ys.length=1 then some ys else if bA.Nodup/\2<=ys.length/\ys.length < 64 then
  match eZ ys.length (λ i j=>HT.lexLt (bA.getD i []) (bA.getD j [])) (PySem.W.kas_sort ys.length) with
  | some pm=>if pm.size<=64 then some (pm.toList.map λ i=>ys.getD i .non) else none
  | none=>none
 else none
def kP(ys:List W):Option (List W):=match cU ys with
 | some ns=>sortI ys ns
 | none=>match dw gK ys with
  | some bA=>El ys bA
  | none=>match dw zC ys with
   | some bA=>rU ys bA
   | none=>none
def aZ(b:B)(xs:List W)(m:Mem):R W:=match b with
 | .len=>match xs with
  | [x]=>match x with
   | .str z=>if z.length<=lim then .ok (.int z.length) m else .no
   | x=>match aM m x with
    | some ys=>.ok (.int ys.length) m
    | none=>.no
  | _=>.no
 | .abs=>match xs with
  | [.int i]=>.ok (.int (if i < 0 then -i else i)) m
  | _=>.no
 | .max=>match xs with
  | [.int i,.int j]=>.ok (.int (if j>i then j else i)) m
  | _=>.no
 | .min=>match xs with
  | [.int i,.int j]=>.ok (.int (if j < i then j else i)) m
  | _=>.no
 | .divmod=>match xs with
  | [.int i,.int j]=>if 0 < j/\j < 1073741824 then .ok (.tup [.int (i / j),.int (i%j)]) m else .no
  | _=>.no
 | .all=>match xs with
  | [x]=>match getL m x with
   | some ys=>match bools ys with
    | some bs=>.ok (.bl (bs.all id)) m
    | none=>.no
   | none=>.no
  | _=>.no
 | .any=>match xs with
  | [x]=>match getL m x with
   | some ys=>match bools ys with
    | some bs=>.ok (.bl (bs.any id)) m
    | none=>.no
   | none=>.no
  | _=>.no
 | .list=>match xs with
  | [x]=>match aM m x with
   | some ys=>new (.lst ys) m
   | none=>.no
  | _=>.no
 | .tuple=>match xs with
  | [x]=>match aM m x with
   | some ys=>.ok (.tup ys) m
   | none=>.no
  | _=>.no
 | .int=>match xs with
  | [.int i]=>.ok (.int i) m
  | [.bl b]=>.ok (.int (if b then 1 else 0)) m
  | _=>.no
 | .sorted=>match xs with
  | [x]=>match getL m x with
   | some ys=>match kP ys with
    | some zs=>new (.lst zs) m
    | none=>.no
   | none=>.no
  | _=>.no
 | _=>.no
def eY(ks:List Int):Bool:=decide (ks.length<=4)&&ks.all λ i=>i==0||i==1
def uy(bA:List (List Int))(m:Mem):R W:=if bA.length<=4/\bA.all eY=true/\bA.Nodup then .ok (.int bA.length) m else .no
def uz(ys:List W)(bA:List (List Int))(m:Mem):R W:=if (bA.all λ ns=>!HT.lexLt ns (bA.headD []))=true then .ok (ys.head?.getD .non) m else .no
def zD(xs:List W)(m:Mem):R W:=match cU xs with
 | some ns=>if ns.length<=4000 then .ok (.int (L2.unlike ns)) m else .no
 | none=>.no
def xF(f:List W->List (List Int)->R W)(x:W)(m:Mem):R W:=match getL m x with
 | none=>.no
 | some ys=>match dw gK ys with
  | none=>.no
  | some bA=>f ys bA
def mG(m:Mem):W->Option (Str×List (Str×W))
 | .ref n=>match m[n]? with
  | some (.ins c fs)=>some (c,fs)
  | _=>none
 | .obj c ks vs=>some (c,ks.zip vs)
 | _=>none
def JQ(c:Str)(x:W)(m:Mem):R W:=match mG m x with
 | some (d,_)=>if d=c then .ok (.bl true) m else .no
 | none=>.no
def oO(u:U)(x:W)(m:Mem):R W:=match u with
 | .pV=>match x with
  | .tup xs=>zD xs m
  | x=>xF (λ _ bA=>uy bA m) x m
 | .mind=>xF (λ ys bA=>uz ys bA m) x m
 | .isc c=>JQ c x m
 | _=>.no
def iL(n:Nat)(ys xs:List W)(m:Mem):R W:=match xs with
 | [x]=>if ys.length < lim then .ok .non (m.set n (.lst (ys++[x]))) else .no
 | _=>.no
def CA(n:Nat)(xs:List W)(m:Mem):R W:=match xs with
 | []=>.ok .non (m.set n (.lst []))
 | _=>.no
def xG(n:Nat)(ys xs:List W)(m:Mem):R W:=match xs with
 | []=>.ok .non (m.set n (.lst ys.reverse))
 | _=>.no
def oQ(n:Nat)(ys xs:List W)(m:Mem):R W:=match xs with
 | []=>match ys[ys.length - 1]? with
  | some y=>.ok y (m.set n (.lst ys.dropLast))
  | none=>.no
 | [.int i]=>if -(2^63)<=i/\i < 2^63 then match seqIndex? i ys.length with
  | some k=>match ys[k]? with
   | some y=>.ok y (m.set n (.lst (ys.eraseIdx k)))
   | none=>.no
  | none=>.no else .no
 | _=>.no
def zE(n:Nat)(ys xs:List W)(m:Mem):R W:=match xs with
 | [.ref b]=>match m[b]? with
  | some (.lst zs)=>if ys.length+zs.length<=lim then .ok .non (m.set n (.lst (ys++zs))) else .no
  | _=>.no
 | _=>.no
def zF(n:Nat)(ys xs:List W)(m:Mem):R W:=match xs with
 | [.int i,y]=>if 0<=i/\i<=ys.length/\ys.length < lim then .ok .non (m.set n (.lst (ys.take i.toNat++[y]++ys.drop i.toNat))) else .no
 | _=>.no
def CB(ys xs:List W)(m:Mem):R W:=match xs with
 | [x]=>match x with
  | .str z=>match zB ys with
   | some ss=>.ok (.int (ss.count z)) m
   | none=>.no
  | _=>.no
 | _=>.no
def jI(ys xs:List W)(m:Mem):R W:=match xs with
 | [.int i]=>match cU ys with
  | some ns=>if ns.idxOf i < ns.length/\ns.length<=1000000 then .ok (.int (ns.idxOf i:Nat)) m else .no
  | none=>.no
 | _=>.no
def iM(n:Nat)(ys:List W)(name:String)(xs:List W)(m:Mem):R W:=
 if name="append" then iL n ys xs m
 else if name="clear" then CA n xs m
 else if name="reverse" then xG n ys xs m
 else if name="pop" then oQ n ys xs m
 else if name="extend" then zE n ys xs m
 else if name="insert" then zF n ys xs m
 else if name="count" then CB ys xs m
 else if name="lindex" then jI ys xs m
 else .no
def GH(z:Str)(xs:List W)(m:Mem):R W:=match xs with
 | [x]=>match getL m x with
  | some ys=>match zB ys with
   | some ss=>if (ss.map (·.length)).sum+ss.length*z.length<=16777216 then .ok (.str (Txt.join z ss)) m else .no
   | none=>.no
  | none=>.no
 | _=>.no
def zG(z:Str)(xs:List W)(m:Mem):R W:=match xs with
 | [.str y]=>match (Builtin.Str.occurrences z y 0 z.length 1).head? with
  | some p=>.ok (.int (p:Nat)) m
  | none=>.no
 | _=>.no
def GI(z:Str)(xs:List W)(m:Mem):R W:=match xs with
 | [.str y]=>.ok (.bl (Txt.endswith z y)) m
 | _=>.no
def CC(z:Str)(xs:List W)(m:Mem):R W:=match xs with
 | [.str y]=>if y.length=1/\z.length<=lim then new (.lst ((Txt.split z y).map .str)) m else .no
 | _=>.no
def vo(z:Str)(name:String)(xs:List W)(m:Mem):R W:=
 if name="join" then GH z xs m
 else if name="index" then zG z xs m
 else if name="endswith" then GI z xs m
 else if name="split" then CC z xs m
 else .no
def zH(n:Nat)(ks:List L2.Key)(xs:List W)(m:Mem):R W:=match xs with
 | [x]=>match zz x with
  | some k=>if ks.length < 4000 then .ok .non (m.set n (.set (if mE k ks then ks else ks++[k]))) else .no
  | none=>.no
 | _=>.no
def i7(n:Nat)(ks:List L2.Key)(name:String)(xs:List W)(m:Mem):R W:=
 if name="add" then zH n ks xs m
 else .no
def bJ(o:W)(name:String)(xs:List W)(m:Mem):R W:=match o with
 | .ref n=>match m[n]? with
  | some (.lst ys)=>iM n ys name xs m
  | some (.set ks)=>i7 n ks name xs m
  | _=>.no
 | .str z=>vo z name xs m
 | .fz ys=>if name="lindex" then jI ys xs m else .no
 | _=>.no
inductive Kd where
 | lst | str | set | no
 deriving DecidableEq
def kdOf(m:Mem):W->Kd
 | .ref n=>match m[n]? with
  | some (.lst _)=>.lst
  | some (.set _)=>.set
  | _=>.no
 | .str _=>.str
 | .fz _=>.lst
 | _=>.no
def p8(name:String):Kd:=if name="join"\/name="index"\/name="endswith"\/name="split" then .str else if name="add" then .set else .lst
mutual
def mH(g:Nat->Option W):W->Option W
 | .tup xs=>(ir g xs).map .tup
 | .fz xs=>(ir g xs).map .fz
 | .obj c ks vs=>(ir g vs).map (.obj c ks)
 | .ref n=>g n
 | .non=>some .non
 | .bl b=>some (.bl b)
 | .int i=>some (.int i)
 | .str x=>some (.str x)
def ir(g:Nat->Option W):List W->Option (List W)
 | []=>some []
 | x::r=>match mH g x with
  | none=>none
  | some y=>match ir g r with
   | none=>none
   | some ys=>some (y::ys)
end
def BA(m:Mem)(k:Nat):Nat->Nat->Option W
 | 0,a=>if a < k then some (.ref a) else none
 | n+1,a=>if a < k then some (.ref a) else match m[a]? with
  | some (.lst xs)=>(ir (BA m k n) xs).map .fz
  | some (.ins c fs)=>(ir (BA m k n) (fs.map (·.2))).map (.obj c (fs.map (·.1)))
  | _=>none
mutual
def j6(k:Nat):W->Bool
 | .tup xs=>gf k xs
 | .fz xs=>gf k xs
 | .obj _ _ vs=>gf k vs
 | .ref n=>decide (n < k)
 | .non=>true
 | .bl _=>true
 | .int _=>true
 | .str _=>true
def gf(k:Nat):List W->Bool
 | []=>true
 | x::r=>j6 k x&&gf k r
end
def ju(k:Nat):O->Bool
 | .lst xs=>gf k xs
 | .ins _ fs=>gf k (fs.map (·.2))
 | .set _=>true
 | .dic fs=>gf k (fs.map (·.2))
def xH(k:Nat)(m:Mem):Bool:=m.all (ju k)
def zI(m:Mem)(r:R W):R W:=match r with
 | .no=>.no
 | .ok w m1=>if m.length<=m1.length/\xH m.length (m1.take m.length)=true then match mH (BA m1 m.length 8) w with
  | some w1=>.ok w1 (m1.take m.length)
  | none=>.no else .no
def br:List Nat->Loc->Loc
 | [],Z=>Z
 | j::r,Z=>br r (Z.set j none)
mutual
def aE:T->W->Loc->Option Loc
 | .var i,w,Z=>some (Z.set i (some w))
 | .tup ts,w,Z=>match w with
  | .tup xs=>dJ ts xs Z
  | .fz xs=>dJ ts xs Z
  | _=>none
def dJ:Ts->List W->Loc->Option Loc
 | .nil,xs,Z=>match xs with
  | []=>some Z
  | _::_=>none
 | .cons t ts,xs,Z=>match xs with
  | []=>none
  | x::xs=>match aE t x Z with
   | some Z=>dJ ts xs Z
   | none=>none
end
inductive Src where
 | lst (n:Nat) | tup (xs:List W) | rng (lo:Int) (k:Nat) | enm (s:Src) | zip (ss:List Src)
inductive Nx where
 | bad | fin | it (w:W)
inductive Oc where
 | bad | fin | its (ws:List W)
mutual
def Src.get:Src->Mem->Nat->Nx
 | .lst n,m,i=>match getL m (.ref n) with
  | some xs=>match xs[i]? with
   | some w=>.it w
   | none=>.fin
  | none=>.bad
 | .tup xs,_,i=>match xs[i]? with
  | some w=>.it w
  | none=>.fin
 | .rng lo k,_,i=>if i < k then .it (.int (lo+i)) else .fin
 | .enm s,m,i=>match s.get m i with
  | .it w=>.it (.tup [.int i,w])
  | .fin=>.fin
  | .bad=>.bad
 | .zip ss,m,i=>match Src.lB ss m i with
  | .its ws=>.it (.tup ws)
  | .fin=>.fin
  | .bad=>.bad
def Src.lB:List Src->Mem->Nat->Oc
 | [],_,_=>.its []
 | s::ss,m,i=>match s.get m i,Src.lB ss m i with
  | .bad,_=>.bad
  | _,.bad=>.bad
  | .it w,.its ws=>.its (w::ws)
  | _,_=>.fin
end
mutual
def Src.len:Src->Mem->Nat
 | .lst n,m=>match getL m (.ref n) with
  | some xs=>xs.length
  | none=>0
 | .tup xs,_=>xs.length
 | .rng _ k,_=>k
 | .enm s,m=>s.len m
 | .zip ss,m=>Src.lens ss m
def Src.lens:List Src->Mem->Nat
 | [],_=>0
 | s::ss,m=>max (s.len m) (Src.lens ss m)
end
def srcOf(m:Mem):W->Option Src
 | .tup xs=>some (.tup xs)
 | .fz xs=>some (.tup xs)
 | .ref n=>match getL m (.ref n) with
  | some _=>some (.lst n)
  | none=>none
 | _=>none
def mJ(m:Mem):List W->Option (List Src)
 | []=>some []
 | w::ws=>match srcOf m w with
  | none=>none
  | some s=>match mJ m ws with
   | none=>none
   | some ss=>some (s::ss)
def signs(z:Str):List W:=z.cps.toList.map λ c=>W.str ⟨#[c]⟩
def zJ(m:Mem):W->Option Src
 | .str z=>if L2.asc z then some (.tup (signs z)) else none
 | w=>srcOf m w
set_option genInjectivity false in
structure Cs where
 flds:List (Str×Str)
 mths:List ((Str×Str)×Nat)
 ini:List (Str×Nat)
 dic:List (Str×List (Str×W)):=[]
 isc:List Str:=[]
set_option genInjectivity false in
structure Cx where
 call:Nat->List W->Mem->R W
 fuel:Nat
 cs:Cs
def jJ(cs:Cs)(x:W)(f:Str)(m:Mem):R W:=match mG m x with
 | some (c,fs)=>if cs.flds.contains (c,f) then match fs.lookup f with
  | some w=>.ok w m
  | none=>.no else .no
 | none=>.no
def ji(cs:Cs)(x:W)(f:Str)(m:Mem):Option Nat:=match mG m x with
 | some (c,fs)=>if (fs.lookup f).isNone then cs.mths.lookup (c,f) else none
 | none=>none
def gj(f:Str)(v:W):List (Str×W)->List (Str×W)
 | []=>[(f,v)]
 | (g,x)::r=>if g=f then (g,v)::r else (g,x)::gj f v r
def oR(cs:Cs)(x:W)(f:Str)(v:W)(m:Mem):R Unit:=match x with
 | .ref n=>match m[n]? with
  | some (.ins c fs)=>if cs.flds.contains (c,f)/\fs.length < 1000 then .ok () (m.set n (.ins c (gj f v fs))) else .no
  | _=>.no
 | _=>.no
def p9(C:Cx)(c:Str)(ws:List W)(m:Mem):R W:=match C.cs.ini.lookup c with
 | some i=>(C.call i (.ref m.length::ws) (m++[.ins c []])).bind λ w m1=>match w with
  | .non=>.ok (.ref m.length) m1
  | _=>.no
 | none=>.no
inductive F where
 | nx (Z:Loc) | rt (w:W) | bk (Z:Loc) | ct (Z:Loc)
def iO(get:Mem->Nat->Nx)(t:T)(body:Loc->Mem->R F):Nat->Nat->Loc->Mem->R F
 | k,i,Z,m=>match get m i with
  | .bad=>.no
  | .fin=>.ok (.nx Z) m
  | .it x=>match k with
   | 0=>.no
   | k+1=>match aE t x Z with
    | none=>.no
    | some Z=>(body Z m).bind λ f m=>match f with
     | .nx Z=>iO get t body k (i+1) Z m
     | .ct Z=>iO get t body k (i+1) Z m
     | .bk Z=>.ok (.nx Z) m
     | .rt w=>.ok (.rt w) m
def qa(c:Loc->Mem->R Bool)(body:Loc->Mem->R F):Nat->Loc->Mem->R F
 | 0,_,_=>.no
 | k+1,Z,m=>(c Z m).bind λ b m=>if b then (body Z m).bind λ f m=>match f with
   | .nx Z=>qa c body k Z m
   | .ct Z=>qa c body k Z m
   | .bk Z=>.ok (.nx Z) m
   | .rt w=>.ok (.rt w) m
  else .ok (.nx Z) m
def dB(get:Mem->Nat->Nx)(t:T)(test:Loc->Mem->R Bool)(body:Loc->Mem->List W->R (List W×Loc)):Nat->Nat->Loc->Mem->List W->R (List W×Loc)
 | k,i,Z,m,acc=>match get m i with
  | .bad=>.no
  | .fin=>.ok (acc,Z) m
  | .it x=>match k with
   | 0=>.no
   | k+1=>match aE t x Z with
    | none=>.no
    | some Z=>(test Z m).bind λ b m=>if b then (body Z m acc).bind λ p m=>dB get t test body k (i+1) p.2 m p.1 else dB get t test body k (i+1) Z m acc
def oS(x:W)(m:Mem):R Src:=match zJ m x with
 | some s=>.ok s m
 | none=>.no
structure Ev where
 v:R W
 t:R Bool
 i:R Src
def vx(v:R W):Ev:=⟨v,v.bind λ w m=>truthy m w,v.bind oS⟩
def tx(v:R W)(t:R Bool):Ev:=⟨v,t,v.bind oS⟩
def ix(i:R Src):Ev:=⟨.no,.no,i⟩
mutual
def fX(C:Cx):E->Loc->Mem->Ev
 | .var i,Z,m=>vx (match Z[i]? with
  | some (some w)=>.ok w m
  | _=>.no)
 | .cst w,_,m=>vx (.ok w m)
 | .bin op a b,Z,m=>vx ((fX C a Z m).v.bind λ x m=>(fX C b Z m).v.bind λ y m=>binop op x y m)
 | .neg a,Z,m=>vx ((fX C a Z m).v.bind λ x m=>match x with
  | .int i=>.ok (.int (-i)) m
  | _=>.no)
 | .not a,Z,m=>tx ((fX C a Z m).v.bind λ x m=>match x with
  | .bl b=>.ok (.bl (!b)) m
  | _=>.no) ((fX C a Z m).t.bind λ c m=>.ok (!c) m)
 | .and a b,Z,m=>tx ((fX C a Z m).v.bind λ x m=>match x with
  | .bl c=>if c then (fX C b Z m).v else .ok (.bl false) m
  | _=>.no) ((fX C a Z m).t.bind λ c m=>if c then (fX C b Z m).t else .ok false m)
 | .or a b,Z,m=>tx ((fX C a Z m).v.bind λ x m=>match x with
  | .bl c=>if c then .ok (.bl true) m else (fX C b Z m).v
  | _=>.no) ((fX C a Z m).t.bind λ c m=>if c then .ok true m else (fX C b Z m).t)
 | .cmp op a b,Z,m=>tx ((fX C a Z m).v.bind λ x m=>(fX C b Z m).v.bind λ y m=>(aD op x y m).bind λ c m=>.ok (.bl c) m) ((fX C a Z m).v.bind λ x m=>(fX C b Z m).v.bind λ y m=>aD op x y m)
 | .chain o1 o2 a b c,Z,m=>tx ((fX C a Z m).v.bind λ x m=>(fX C b Z m).v.bind λ y m=>(aD o1 x y m).bind λ k m=>
   if k then (fX C c Z m).v.bind λ z m=>(aD o2 y z m).bind λ k m=>.ok (.bl k) m else .ok (.bl false) m) ((fX C a Z m).v.bind λ x m=>(fX C b Z m).v.bind λ y m=>(aD o1 x y m).bind λ k m=>
   if k then (fX C c Z m).v.bind λ z m=>aD o2 y z m else .ok false m)
 | .ife t a b,Z,m=>tx ((fX C t Z m).t.bind λ c m=>if c then (fX C a Z m).v else (fX C b Z m).v) ((fX C t Z m).t.bind λ c m=>if c then (fX C a Z m).t else (fX C b Z m).t)
 | .tup es,Z,m=>vx ((bQ C es Z m).bind λ ws m=>if ws.length<=lim then .ok (.tup ws) m else .no)
 | .lst es,Z,m=>vx ((bQ C es Z m).bind λ ws m=>if ws.length<=lim then new (.lst ws) m else .no)
 | .idx a b,Z,m=>vx ((fX C a Z m).v.bind λ x m=>(fX C b Z m).v.bind λ y m=>aX x y m)
 | .slc a lo hi,Z,m=>vx ((fX C a Z m).v.bind λ x m=>(zK C lo Z m).bind λ l m=>(zK C hi Z m).bind λ u m=>mF x l u m)
 | .call f es,Z,m=>vx ((bQ C es Z m).bind λ ws m=>C.call f ws m)
 | .blt b es,Z,m=>vx ((bQ C es Z m).bind λ ws m=>aZ b ws m)
 | .isI a t,Z,m=>vx ((fX C a Z m).v.bind λ x m=>match JP m t x with
  | some b=>.ok (.bl b) m
  | none=>.no)
 | .meth o name es,Z,m=>vx ((fX C o Z m).v.bind λ x m=>if kdOf m x=p8 name then (bQ C es Z m).bind λ ws m=>bJ x name ws m else .no)
 | .comp g,Z,m=>vx ((jj C g Z m []).bind λ p m=>new (.lst p.1) m)
 | .lrng a,Z,m=>vx ((fX C a Z m).v.bind λ x m=>match x with
  | .int j=>if 0<=j/\j<=1000000 then new (.lst ((List.range j.toNat).map λ i=>W.int (i:Nat))) m else .no
  | _=>.no)
 | .frz a,Z,m=>vx (zI m (fX C a Z m).v)
 | .fld a f,Z,m=>vx ((fX C a Z m).v.bind λ x m=>jJ C.cs x f m)
 | .make c es,Z,m=>vx ((bQ C es Z m).bind λ ws m=>p9 C c ws m)
 | .mth o f es,Z,m=>vx ((fX C o Z m).v.bind λ x m=>match ji C.cs x f m with
  | some i=>(bQ C es Z m).bind λ ws m=>C.call i (x::ws) m
  | none=>.no)
 | .set0,_,m=>vx (new (.set []) m)
 | .fus u a,Z,m=>vx ((fX C a Z m).v.bind λ x m=>oO u x m)
 | .rng a,Z,m=>ix ((fX C a Z m).v.bind λ x m=>match x with
  | .int j=>if -(2^62)<=j/\j < 2^62 then .ok (.rng 0 j.toNat) m else .no
  | _=>.no)
 | .rng2 a b,Z,m=>ix ((fX C a Z m).v.bind λ x m=>(fX C b Z m).v.bind λ y m=>match x,y with
  | .int i,.int j=>if -(2^62)<=i/\i < 2^62/\-(2^62)<=j/\j < 2^62 then .ok (.rng i (j - i).toNat) m else .no
  | _,_=>.no)
 | .enm a,Z,m=>ix ((fX C a Z m).v.bind λ x m=>match srcOf m x with
  | some s=>.ok (.enm s) m
  | none=>.no)
 | .zip es,Z,m=>ix ((bQ C es Z m).bind λ xs m=>match mJ m xs with
  | some ss=>.ok (.zip ss) m
  | none=>.no)
def bQ(C:Cx):Es->Loc->Mem->R (List W)
 | .nil,_,m=>.ok [] m
 | .cons e es,Z,m=>(fX C e Z m).v.bind λ w m=>(bQ C es Z m).bind λ ws m=>.ok (w::ws) m
def zK(C:Cx):Oe->Loc->Mem->R (Option Int)
 | .none,_,m=>.ok none m
 | .some e,Z,m=>(fX C e Z m).v.bind λ w m=>match w with
  | .int i=>.ok (some i) m
  | _=>.no
def jj(C:Cx):G->Loc->Mem->List W->R (List W×Loc)
 | .elt e,Z,m,acc=>(fX C e Z m).v.bind λ w m=>if acc.length < lim then .ok (acc++[w],Z) m else .no
 | .gen t js it ifs rest,Z,m,acc=>(fX C it Z m).i.bind λ s m=>dB s.get t (fun Z m=>bw C ifs Z m) (fun Z m acc=>jj C rest Z m acc) (s.len m) 0 (br js Z) m acc
def bw(C:Cx):Es->Loc->Mem->R Bool
 | .nil,_,m=>.ok true m
 | .cons e es,Z,m=>(fX C e Z m).t.bind λ b m=>if b then bw C es Z m else .ok false m
end
def ao(C:Cx)(e:E)(Z:Loc)(m:Mem):R W:=(fX C e Z m).v
def bx(C:Cx)(e:E)(Z:Loc)(m:Mem):R Bool:=(fX C e Z m).t
def cC(C:Cx)(e:E)(Z:Loc)(m:Mem):R Src:=(fX C e Z m).i
section
variable{C:Cx}{Z:Loc}{m:Mem}
theorem aN(i:Nat):ao C (.var i) Z m=(match Z[i]? with
   | some (some w)=>.ok w m
   | _=>.no):=rfl
theorem fD(i:Nat):bx C (.var i) Z m=(ao C (.var i) Z m).bind λ w m=>D.truthy m w:=rfl
theorem ck(w:W):ao C (.cst w) Z m=(.ok w m):=rfl
theorem fE(w:W):bx C (.cst w) Z m=(ao C (.cst w) Z m).bind λ w m=>D.truthy m w:=rfl
theorem dO(op:Operator)(a b:E):ao C (.bin op a b) Z m=((ao C a Z m).bind λ x m=>(ao C b Z m).bind λ y m=>binop op x y m):=rfl
theorem fF(op:Operator)(a b:E):bx C (.bin op a b) Z m=(ao C (.bin op a b) Z m).bind λ w m=>D.truthy m w:=rfl
theorem gG(a:E):ao C (.neg a) Z m=((ao C a Z m).bind λ x m=>match x with
   | .int i=>.ok (.int (-i)) m
   | _=>.no):=rfl
theorem fG(a:E):bx C (.neg a) Z m=(ao C (.neg a) Z m).bind λ w m=>D.truthy m w:=rfl
theorem dP(a:E):ao C (.not a) Z m=((ao C a Z m).bind λ x m=>match x with
   | .bl b=>.ok (.bl (!b)) m
   | _=>.no):=rfl
theorem dD(a b:E):ao C (.and a b) Z m=((ao C a Z m).bind λ x m=>match x with
   | .bl c=>if c then ao C b Z m else .ok (.bl false) m
   | _=>.no):=rfl
theorem gZ(a b:E):ao C (.or a b) Z m=((ao C a Z m).bind λ x m=>match x with
   | .bl c=>if c then .ok (.bl true) m else ao C b Z m
   | _=>.no):=rfl
theorem cV(op:CmpOp)(a b:E):ao C (.cmp op a b) Z m=((ao C a Z m).bind λ x m=>(ao C b Z m).bind λ y m=>(aD op x y m).bind λ c m=>.ok (.bl c) m):=rfl
theorem bg(o1 o2:CmpOp)(a b c:E):ao C (.chain o1 o2 a b c) Z m=((ao C a Z m).bind λ x m=>(ao C b Z m).bind λ y m=>(aD o1 x y m).bind λ k m=>
    if k then (ao C c Z m).bind λ z m=>(aD o2 y z m).bind λ k m=>.ok (.bl k) m else .ok (.bl false) m):=rfl
theorem dQ(t a b:E):ao C (.ife t a b) Z m=((bx C t Z m).bind λ c m=>if c then ao C a Z m else ao C b Z m):=rfl
theorem cD(es:Es):ao C (.tup es) Z m=((bQ C es Z m).bind λ ws m=>if ws.length<=lim then .ok (.tup ws) m else .no):=rfl
theorem fH(es:Es):bx C (.tup es) Z m=(ao C (.tup es) Z m).bind λ w m=>D.truthy m w:=rfl
theorem dF(es:Es):ao C (.lst es) Z m=((bQ C es Z m).bind λ ws m=>if ws.length<=lim then new (.lst ws) m else .no):=rfl
theorem fJ(es:Es):bx C (.lst es) Z m=(ao C (.lst es) Z m).bind λ w m=>D.truthy m w:=rfl
theorem cF(a b:E):ao C (.idx a b) Z m=((ao C a Z m).bind λ x m=>(ao C b Z m).bind λ y m=>aX x y m):=rfl
theorem fK(a b:E):bx C (.idx a b) Z m=(ao C (.idx a b) Z m).bind λ w m=>D.truthy m w:=rfl
theorem dR(a:E)(lo hi:Oe):ao C (.slc a lo hi) Z m=((ao C a Z m).bind λ x m=>(zK C lo Z m).bind λ l m=>(zK C hi Z m).bind λ u m=>mF x l u m):=rfl
theorem fL(a:E)(lo hi:Oe):bx C (.slc a lo hi) Z m=(ao C (.slc a lo hi) Z m).bind λ w m=>D.truthy m w:=rfl
theorem dg(f:Nat)(es:Es):ao C (.call f es) Z m=((bQ C es Z m).bind λ ws m=>C.call f ws m):=rfl
theorem bR(f:Nat)(es:Es):bx C (.call f es) Z m=(ao C (.call f es) Z m).bind λ w m=>D.truthy m w:=rfl
theorem bC(b:B)(es:Es):ao C (.blt b es) Z m=((bQ C es Z m).bind λ ws m=>aZ b ws m):=rfl
theorem dS(b:B)(es:Es):bx C (.blt b es) Z m=(ao C (.blt b es) Z m).bind λ w m=>D.truthy m w:=rfl
theorem ef(a:E)(t:String):ao C (.isI a t) Z m=((ao C a Z m).bind λ x m=>match JP m t x with
   | some b=>.ok (.bl b) m
   | none=>.no):=rfl
theorem fM(a:E)(t:String):bx C (.isI a t) Z m=(ao C (.isI a t) Z m).bind λ w m=>D.truthy m w:=rfl
theorem bD(o:E)(name:String)(es:Es):ao C (.meth o name es) Z m=((ao C o Z m).bind λ x m=>if kdOf m x=p8 name then (bQ C es Z m).bind λ ws m=>bJ x name ws m else .no):=rfl
theorem cG(o:E)(name:String)(es:Es):bx C (.meth o name es) Z m=(ao C (.meth o name es) Z m).bind λ w m=>D.truthy m w:=rfl
theorem cH(g:G):bx C (.comp g) Z m=(ao C (.comp g) Z m).bind λ w m=>D.truthy m w:=rfl
theorem bV(a:E):ao C (.lrng a) Z m=((ao C a Z m).bind λ x m=>match x with
   | .int j=>if 0<=j/\j<=1000000 then new (.lst ((List.range j.toNat).map λ i=>W.int (i:Nat))) m else .no
   | _=>.no):=rfl
theorem cJ(a:E):bx C (.lrng a) Z m=(ao C (.lrng a) Z m).bind λ w m=>D.truthy m w:=rfl
theorem cW(u:U)(a:E):ao C (.fus u a) Z m=((ao C a Z m).bind λ x m=>oO u x m):=rfl
theorem fN(u:U)(a:E):bx C (.fus u a) Z m=(ao C (.fus u a) Z m).bind λ w m=>D.truthy m w:=rfl
theorem fO(a:E):bx C (.frz a) Z m=(ao C (.frz a) Z m).bind λ w m=>D.truthy m w:=rfl
theorem gv(a:E)(f:Str):ao C (.fld a f) Z m=((ao C a Z m).bind λ x m=>jJ C.cs x f m):=rfl
theorem fP(a:E)(f:Str):bx C (.fld a f) Z m=(ao C (.fld a f) Z m).bind λ w m=>D.truthy m w:=rfl
theorem bS(c:Str)(es:Es):ao C (.make c es) Z m=((bQ C es Z m).bind λ ws m=>p9 C c ws m):=rfl
theorem cK(c:Str)(es:Es):bx C (.make c es) Z m=(ao C (.make c es) Z m).bind λ w m=>D.truthy m w:=rfl
theorem gw(o:E)(f:Str)(es:Es):ao C (.mth o f es) Z m=((ao C o Z m).bind λ x m=>match ji C.cs x f m with
   | some i=>(bQ C es Z m).bind λ ws m=>C.call i (x::ws) m
   | none=>.no):=rfl
theorem fQ(o:E)(f:Str)(es:Es):bx C (.mth o f es) Z m=(ao C (.mth o f es) Z m).bind λ w m=>D.truthy m w:=rfl
theorem bW :ao C (.set0) Z m=(new (.set []) m):=rfl
theorem cL :bx C (.set0) Z m=(ao C (.set0) Z m).bind λ w m=>D.truthy m w:=rfl
theorem cX(a b:E):bx C (.and a b) Z m=((bx C a Z m).bind λ c m=>if c then bx C b Z m else .ok false m):=rfl
theorem gx(a b:E):bx C (.or a b) Z m=((bx C a Z m).bind λ c m=>if c then .ok true m else bx C b Z m):=rfl
theorem cM(a:E):bx C (.not a) Z m=((bx C a Z m).bind λ c m=>.ok (!c) m):=rfl
theorem bH(op:CmpOp)(a b:E):bx C (.cmp op a b) Z m=((ao C a Z m).bind λ x m=>(ao C b Z m).bind λ y m=>aD op x y m):=rfl
theorem bE(o1 o2:CmpOp)(a b c:E):bx C (.chain o1 o2 a b c) Z m=((ao C a Z m).bind λ x m=>(ao C b Z m).bind λ y m=>(aD o1 x y m).bind λ k m=>
   if k then (ao C c Z m).bind λ z m=>aD o2 y z m else .ok false m):=rfl
theorem eV(t a b:E):bx C (.ife t a b) Z m=((bx C t Z m).bind λ c m=>if c then bx C a Z m else bx C b Z m):=rfl
theorem aY:bQ C .nil Z m=.ok [] m:=rfl
theorem aH(e:E)(es:Es):bQ C (.cons e es) Z m=((ao C e Z m).bind λ w m=>(bQ C es Z m).bind λ ws m=>.ok (w::ws) m):=rfl
theorem j7:zK C .none Z m=.ok none m:=rfl
theorem j8(e:E):zK C (.some e) Z m=((ao C e Z m).bind λ w m=>match w with
   | .int i=>.ok (some i) m
   | _=>.no):=rfl
theorem aP{J:Type}{a:α}{m:Mem}{f:α->Mem->R J}:(R.ok a m).bind f=f a m:=Eq.trans rfl rfl
theorem cu(i:Nat):cC C (.var i) Z m=(ao C (.var i) Z m).bind oS:=rfl
theorem mK(a b:E):cC C (.idx a b) Z m=(ao C (.idx a b) Z m).bind oS:=rfl
theorem jv(f:Nat)(es:Es):cC C (.call f es) Z m=(ao C (.call f es) Z m).bind oS:=rfl
theorem oU(a:E):cC C (.frz a) Z m=(ao C (.frz a) Z m).bind oS:=rfl
theorem rV(a:E)(f:Str):cC C (.fld a f) Z m=(ao C (.fld a f) Z m).bind oS:=rfl
theorem rX(o:E)(f:Str)(es:Es):cC C (.mth o f es) Z m=(ao C (.mth o f es) Z m).bind oS:=rfl
theorem rY(a:E)(lo hi:Oe):cC C (.slc a lo hi) Z m=(ao C (.slc a lo hi) Z m).bind oS:=rfl
theorem oV(w:W):cC C (.cst w) Z m=(ao C (.cst w) Z m).bind oS:=rfl
theorem rZ(es:Es):cC C (.tup es) Z m=(ao C (.tup es) Z m).bind oS:=rfl
theorem r8(es:Es):cC C (.lst es) Z m=(ao C (.lst es) Z m).bind oS:=rfl
theorem r9(op:Operator)(a b:E):cC C (.bin op a b) Z m=(ao C (.bin op a b) Z m).bind oS:=rfl
theorem dj(g:G):ao C (.comp g) Z m=((jj C g Z m []).bind λ p m=>new (.lst p.1) m):=rfl
theorem fR(a:E):ao C (.frz a) Z m=zI m (ao C a Z m):=rfl
theorem mL(a:E):cC C (.rng a) Z m=(ao C a Z m).bind λ x m=>match x with
  | .int j=>if -(2^62)<=j/\j < 2^62 then .ok (.rng 0 j.toNat) m else .no
  | _=>.no:=rfl
theorem j9(a b:E):cC C (.rng2 a b) Z m=(ao C a Z m).bind λ x m=>(ao C b Z m).bind λ y m=>match x,y with
  | .int i,.int j=>if -(2^62)<=i/\i < 2^62/\-(2^62)<=j/\j < 2^62 then .ok (.rng i (j - i).toNat) m else .no
  | _,_=>.no:=rfl
theorem oW(a:E):cC C (.enm a) Z m=(ao C a Z m).bind λ x m=>match srcOf m x with
  | some s=>.ok (.enm s) m
  | none=>.no:=rfl
theorem mO(es:Es):cC C (.zip es) Z m=(bQ C es Z m).bind λ xs m=>match mJ m xs with
  | some ss=>.ok (.zip ss) m
  | none=>.no:=rfl
theorem JR{acc:List W}(e:E):jj C (.elt e) Z m acc=(ao C e Z m).bind λ w m=>if acc.length < lim then .ok (acc++[w],Z) m else .no:=rfl
theorem JS{acc:List W}(t:T)(js:List Nat)(it:E)(ifs:Es)(rest:G):jj C (.gen t js it ifs rest) Z m acc=(cC C it Z m).bind λ s m=>dB s.get t (fun Z m=>bw C ifs Z m) (fun Z m acc=>jj C rest Z m acc) (s.len m) 0 (br js Z) m acc:=rfl
theorem JT:bw C .nil Z m=.ok true m:=rfl
theorem GJ(e:E)(es:Es):bw C (.cons e es) Z m=(bx C e Z m).bind λ b m=>if b then bw C es Z m else .ok false m:=rfl
def fY:=And.intro (@aY) (@aH)
def Em:=And.intro (@j7) (@j8)
def jK:=And.intro (@JR) (@JS)
def bZ:=And.intro (@JT) (@GJ)
end
mutual
def gU(C:Cx):A->W->Loc->Mem->R Loc
 | .pt t,w,Z,m=>match aE t w Z with
  | some Z=>.ok Z m
  | none=>.no
 | .sub o i,w,Z,m=>(ao C o Z m).bind λ x m=>(ao C i Z m).bind λ y m=>(rT x y w m).bind λ _ m=>.ok Z m
 | .tup l,w,Z,m=>match aM m w with
  | some xs=>eO C l xs Z m
  | none=>.no
def eO(C:Cx):As->List W->Loc->Mem->R Loc
 | .nil,xs,Z,m=>match xs with
  | []=>.ok Z m
  | _::_=>.no
 | .cons a l,xs,Z,m=>match xs with
  | []=>.no
  | x::xs=>(gU C a x Z m).bind fun Z m=>eO C l xs Z m
end
def En(op:Operator)(x y:W)(m:Mem):R W:=match op with
 | .Add=>match x,y with
  | .int a,.int b=>.ok (.int (a+b)) m
  | _,_=>.no
 | .Sub=>match x,y with
  | .int a,.int b=>.ok (.int (a - b)) m
  | _,_=>.no
 | _=>.no
mutual
def fu(C:Cx):S->Loc->Mem->R F
 | .asg t e,Z,m=>(ao C e Z m).bind λ w m=>(gU C t w Z m).bind fun Z m=>.ok (.nx Z) m
 | .aug i op e,Z,m=>match Z[i]? with
  | some (some x)=>(ao C e Z m).bind λ y m=>(En op x y m).bind λ z m=>.ok (.nx (Z.set i (some z))) m
  | _=>.no
 | .expr e,Z,m=>(ao C e Z m).bind λ _ m=>.ok (.nx Z) m
 | .ret e,Z,m=>(ao C e Z m).bind λ w m=>.ok (.rt w) m
 | .retN,_,m=>.ok (.rt .non) m
 | .ife t a b,Z,m=>(bx C t Z m).bind λ c m=>if c then aL C a Z m else aL C b Z m
 | .for_ t it b,Z,m=>(cC C it Z m).bind λ s m=>iO s.get t (fun Z m=>aL C b Z m) (s.len m) 0 Z m
 | .while_ t b,Z,m=>qa (fun Z m=>bx C t Z m) (fun Z m=>aL C b Z m) C.fuel Z m
 | .pass,Z,m=>.ok (.nx Z) m
 | .brk,Z,m=>.ok (.bk Z) m
 | .cont,Z,m=>.ok (.ct Z) m
 | .never,_,_=>.no
 | .fas o f e,Z,m=>(ao C e Z m).bind λ w m=>(ao C o Z m).bind λ x m=>(oR C.cs x f w m).bind λ _ m=>.ok (.nx Z) m
def aL(C:Cx):Ss->Loc->Mem->R F
 | .nil,Z,m=>.ok (.nx Z) m
 | .cons s r,Z,m=>(fu C s Z m).bind λ f m=>match f with
  | .nx Z=>aL C r Z m
  | f=>.ok f m
end
section
variable{C:Cx}{Z:Loc}{m:Mem}
theorem fS(t:A)(e:E):fu C (.asg t e) Z m=(ao C e Z m).bind λ w m=>(gU C t w Z m).bind fun Z m=>.ok (.nx Z) m:=rfl
theorem jL(i:Nat)(op:Operator)(e:E):fu C (.aug i op e) Z m=match Z[i]? with
  | some (some x)=>(ao C e Z m).bind λ y m=>(En op x y m).bind λ z m=>.ok (.nx (Z.set i (some z))) m
  | _=>.no:=rfl
theorem gy(e:E):fu C (.expr e) Z m=(ao C e Z m).bind λ _ m=>.ok (.nx Z) m:=rfl
theorem iP(e:E):fu C (.ret e) Z m=(ao C e Z m).bind λ w m=>.ok (.rt w) m:=rfl
theorem gM:fu C .retN Z m=.ok (.rt .non) m:=rfl
theorem iD(t:E)(a b:Ss):fu C (.ife t a b) Z m=(bx C t Z m).bind λ c m=>if c then aL C a Z m else aL C b Z m:=rfl
theorem gz(t:T)(it:E)(b:Ss):fu C (.for_ t it b) Z m=(cC C it Z m).bind λ s m=>iO s.get t (fun Z m=>aL C b Z m) (s.len m) 0 Z m:=rfl
theorem eB(t:E)(b:Ss):fu C (.while_ t b) Z m=qa (fun Z m=>bx C t Z m) (fun Z m=>aL C b Z m) C.fuel Z m:=rfl
theorem gO:fu C .pass Z m=.ok (.nx Z) m:=rfl
theorem jk:fu C .brk Z m=.ok (.bk Z) m:=rfl
theorem gP:fu C .cont Z m=.ok (.ct Z) m:=rfl
theorem fB:fu C .never Z m=.no:=rfl
theorem iQ(o:E)(f:Str)(e:E):fu C (.fas o f e) Z m=(ao C e Z m).bind λ w m=>(ao C o Z m).bind λ x m=>(oR C.cs x f w m).bind λ _ m=>.ok (.nx Z) m:=rfl
theorem jw:aL C .nil Z m=.ok (.nx Z) m:=rfl
theorem gn(s:S)(r:Ss):aL C (.cons s r) Z m=(fu C s Z m).bind λ f m=>match f with
  | .nx Z=>aL C r Z m
  | f=>.ok f m:=rfl
end
set_option genInjectivity false in
structure Fn where
 np:Nat
 nl:Nat
 body:Ss
def gA(n:Nat)(ws:List W):Loc:=ws.map some++List.replicate (n - ws.length) none
def outF:F->Mem->R W
 | .nx _,m=>.ok .non m
 | .rt w,m=>.ok w m
 | _,_=>.no
end D
end
section
namespace D
open PySem PySem.Spec PyProof.Rows L2 List
variable{H H2:Hp}{K:PySem.W.Frag}{X:L2.Cx}{d p:Addr}{ds:Es}{e:Expr}{es:List Expr}{j n:Nat}{o:O}{v:V}{vs:List V}{w:W}{Δ:Option Addr}{J β2:List Addr}{Y:L2.St}
def sd(K:PySem.W.Frag)(H:Hp)(a:Addr)(xs:List V):Prop:=(∃o,H a=@(.frz o (.lst xs)))\/
 ∃(o:Obj) (its:Array Value) (n:Nat),K.lookup a=some o/\o.cls=.type "list"/\o.dict=none/\o.data=.seq its n/\its.size<=sizeLine/\Vals xs its.toList
theorem sd.l{a:Addr}{xs:List V}(h:sd K H a xs):gE K H a xs:=h.elim (λ ⟨o,e⟩=>.inl (.inr ⟨o,e⟩)) .inr
def aS(K:PySem.W.Frag)(c:Str):Addr:=match PySem.W.nsIn K mainGlobals c with
 | some (some (.ref C))=>C
 | _=>0
set_option genInjectivity false in
structure Cl where
 P:Program
 w:World
section
variable(K:PySem.W.Frag)(cl:Cl)
mutual
inductive RW(J:List Addr)(H:Hp):W->V->Prop
 | non:RW J H .non .non
 | bl (b):RW J H (.bl b) (.bl b)
 | int (i):RW J H (.int i) (.int i)
 | str (x):RW J H (.str x) (.str x)
 | tup {a vs xs}:dI K H a vs->aW J H xs vs->RW J H (.tup xs) (.ref a)
 | fz {a vs xs}:sd K H a vs->aW J H xs vs->RW J H (.fz xs) (.ref a)
 | obj {a c ks xs dx o fs}:H a=some (.frz o (.ins (aS K c) dx fs))->ks=fs.map (·.1)->aW J H xs (fs.map (·.2))->RW J H (.obj c ks xs) (.ref a)
 | ref {n a}:J[n]?=some a->RW J H (.ref n) (.ref a)
inductive aW(J:List Addr)(H:Hp):List W->List V->Prop
 | nil:aW J H [] []
 | cons {w v ws vs}:RW J H w v->aW J H ws vs->aW J H (w::ws) (v::vs)
end
inductive iE(J:List Addr)(H:Hp):List (Str×W)->List (Str×V)->Prop
 | nil:iE J H [] []
 | cons {f w v ws vs}:RW K J H w v->iE J H ws vs->iE J H ((f,w)::ws) ((f,v)::vs)
def keyed(fs:List (Str×V)):List (Key×V):=fs.map λ p=>(.inr p.1,p.2)
def RO(J:List Addr)(H:Hp)(a:Addr):O->Prop
 | .lst ws=>∃vs,H a=some (.lst vs)/\aW K J H ws vs
 | .ins c fs=>∃dx fs',H a=some (.ins (aS K c) dx fs')/\iE K J H fs fs'
 | .set ks=>∃S,H a=some (mz cl.P cl.w a S ks.length)/\∀k,S k=mE k ks
 | .dic fs=>∃fs',H a=some (.dK (keyed fs'))/\iE K J H fs fs'
structure Rel(J:List Addr)(m:Mem)(H:Hp):Prop where
 len:J.length=m.length
 nd:J.Nodup
 obj:∀{n:Nat} {o:O} {a:Addr},m[n]?=some o->J[n]?=some a->RO K cl J H a o
structure dM(Δ:Option Addr)(J:List Addr)(H:Hp)(J':List Addr)(H':Hp):Prop where
 pre:∃γ,J'=J++γ/\∀a∈γ,H a=none
 keep:∀{a:Addr} {o:HO},H a=some o->a∉J->some a≠Δ->H' a=some o
abbrev Ext:=dM none
structure RL(J:List Addr)(H:Hp)(Z:Loc)(Y:L2.St):Prop where
 len:Z.length=Y.length
 at_:∀{i:Nat} {w:W},Z[i]?=some (some w)->∃v,Y[i]?=some (some v)/\RW K J H w v
end
section
variable{K:PySem.W.Frag}{cl:Cl}{J J' J'':List Addr}{H H' Od:Hp}{m m':Mem}{a:Addr}
theorem Rel.mem(r:Rel K cl J m H)(h:a∈J):∃(n:Nat) (o:O),J[n]?=some a/\m[n]?=some o/\RO K cl J H a o:=by
 let⟨n,hn⟩:=getElem?_of_mem h;have hl:n < m.length:=by
  have:=(Qd.mp hn).1;rw[r.len] at this;exact this
 exact⟨n,m[n],hn,by simp[hl],r.obj (by simp[hl]) hn⟩
theorem RO.ex(h:RO K cl J H a o):∃u,H a=some u/\(∀xs,u≠.tup xs)/\∀ob x,u≠.frz ob x:=by
 cases o with
 | lst ws=>let⟨vs,e,_⟩:=h;exact⟨_,e,(by intro _ z;cases z),(by intro _ _ z;cases z)⟩
 | ins c fs=>let⟨dx,fs',e,_⟩:=h;exact⟨_,e,(by intro _ z;cases z),(by intro _ _ z;cases z)⟩
 | set ks=>let⟨S,e,_⟩:=h;exact⟨_,e,(by intro _ z;cases z),(by intro _ _ z;cases z)⟩
 | dic fs=>let⟨fs',e,_⟩:=h;exact⟨_,e,(by intro _ z;cases z),(by intro _ _ z;cases z)⟩
theorem Rel.ex(r:Rel K cl J m H)(h:a∈J):∃u,H a=some u/\(∀xs,u≠.tup xs)/\∀ob x,u≠.frz ob x:=by
 let⟨n,o,_,_,x⟩:=r.mem h;exact x.ex
theorem Ext.refl:dM Δ J H J H:=⟨⟨[],by simp,by simp⟩,λ h _ _=>h⟩
theorem dM.trans(x:dM Δ J H J' H')(r':Rel K cl J' m' H')(y:dM Δ J' H' J'' Od)(hD:∀d,Δ=some d->H' d≠none:=by intro d z;cases z):dM Δ J H J'' Od:=by
 let⟨γ,rfl,hγ⟩:=x.pre;let⟨δ,rfl,hδ⟩:=y.pre;refine⟨⟨γ++δ,by simp,λ a ha=>?_⟩,λ {a o} h hn hd=>?_⟩
 .rcases QW.mp ha with z | z
  .exact hγ a z
  .by_cases hb:a∈J
   .let⟨u,e,_⟩:=r'.ex (mem_append_left _ hb);rw[hδ a z] at e;cases e
   .cases e:H a with
    | none=>rfl
    | some o=>
     by_cases hd:some a=Δ
     .exact absurd (hδ a z) (hD a hd.symm)
     .have:=x.keep e hb hd;rw[hδ a z] at this;cases this
 .refine y.keep (x.keep h hn hd) (λ z=>?_) hd;rcases QW.mp z with z | z
  .exact hn z
  .rw[hγ a z] at h;cases h
def kc:Option HO->Prop
 | some (.lst _)=>True
 | some (.dK _)=>True
 | _=>False
theorem dM.toD(x:Ext J H J' H'):dM (some d) J H J' H':=⟨x.pre,λ h hn _=>x.keep h hn 's'⟩
theorem dM.LJ(x:dM Δ J H J' H')(r:Rel K cl J m H)(hD:∀d,Δ=some d->kc (H d))(h:dI K H a vs):dI K H' a vs:=by
 rcases h with h | h
 .refine .inl ?_;have na:a∉J:=λ z=>by
   let⟨u,e,n1,n2⟩:=r.ex z;rcases h with h | ⟨o,h⟩
   .rw[h] at e;cases e;exact n1 _ rfl
   .rw[h] at e;cases e;exact n2 _ _ rfl
  have nd:some a≠Δ:=λ z=>by
   have e:=hD a z.symm;rcases h with h | ⟨o,h⟩
   .rw[h] at e;exact e
   .rw[h] at e;exact e
  rcases h with h | ⟨o,h⟩
  .exact .inl (x.keep h na nd)
  .exact .inr ⟨o,x.keep h na nd⟩
 .exact .inr h
theorem dM.OS(x:dM Δ J H J' H')(r:Rel K cl J m H)(hD:∀d,Δ=some d->kc (H d))(h:sd K H a vs):sd K H' a vs:=by
 rcases h with⟨o,h⟩ | h
 .refine .inl ⟨o,x.keep h (λ z=>?_) λ z=>?_⟩
  .let⟨u,e,n1,n2⟩:=r.ex z;rw[h] at e;cases e;exact n2 _ _ rfl
  .have e:=hD a z.symm;rw[h] at e;exact e
 .exact .inr h
theorem dM.fz(x:dM Δ J H J' H')(r:Rel K cl J m H)(hD:∀d,Δ=some d->kc (H d)){o:Obj}{u:HO}(h:H a=@(.frz o u)):H' a=some (.frz o u):=by
 refine x.keep h (λ z=>?_) λ z=>?_
 .let⟨u,e,n1,n2⟩:=r.ex z;rw[h] at e;cases e;exact n2 _ _ rfl
 .have e:=hD a z.symm;rw[h] at e;exact e
theorem dM.get(x:dM Δ J H J' H')(h:J[n]?=some a):J'[n]?=some a:=by
 let⟨γ,rfl,_⟩:=x.pre;rw[Qw (Qd.mp h).1];exact h
theorem RW.gen(hT:∀{a:Addr} {vs:List V},dI K H a vs->dI K H2 a vs)(hF:∀{a:Addr} {vs:List V},sd K H a vs->sd K H2 a vs)(hO:∀{a:Addr} {o:Obj} {u:HO},H a=some (.frz o u)->H2 a=@(.frz o u))(hR:∀{n:Nat} {a:Addr},J[n]?=some a->β2[n]?=some a)(q:RW K J H w v):RW K β2 H2 w v:=
 RW.rec (motive_1:=λ w v _=>RW K β2 H2 w v) (motive_2:=λ w v _=>aW K β2 H2 w v) .non .bl .int .str (λ h _ i=>.tup (hT h) i) (λ h _ i=>.fz (hF h) i) (λ h e _ i=>.obj (hO h) e i) (λ h=>.ref (hR h)) .nil (λ _ _ a b=>.cons a b) q
theorem aW.xJ(f:∀{w:W} {v:V},RW K J H w v->RW K β2 H2 w v){w:List W}{v:List V}(q:aW K J H w v):aW K β2 H2 w v:=by
 induction w generalizing v with
 | nil=>cases q;exact .nil
 | cons x w ih=>cases q with | cons a b=>exact .cons (f a) (ih b)
theorem iE.xJ(f:∀{w:W} {v:V},RW K J H w v->RW K β2 H2 w v){w:List (Str×W)}{v:List (Str×V)}(q:iE K J H w v):iE K β2 H2 w v:=by
 induction q with
 | nil=>exact .nil
 | cons a b ih=>exact .cons (f a) ih
theorem RW.cY(r:Rel K cl J m H)(hD:∀d,Δ=some d->kc (H d))(x:dM Δ J H J' H')(q:RW K J H w v):RW K J' H' w v:=
 q.gen (x.LJ r hD) (x.OS r hD) (x.fz r hD) x.get
theorem aW.cY(r:Rel K cl J m H)(hD:∀d,Δ=some d->kc (H d))(x:dM Δ J H J' H'){w:List W}{v:List V}(q:aW K J H w v):aW K J' H' w v:=q.xJ (RW.cY r hD x)
theorem BB{P:Addr->Prop}:∀d,(none:Option Addr)=some d->P d:=λ d z=>by cases z
theorem RW.mono(r:Rel K cl J m H)(x:Ext J H J' H')(h:RW K J H w v):RW K J' H' w v:=h.cY r BB x
theorem aW.mono(r:Rel K cl J m H)(x:Ext J H J' H'){w:List W}{v:List V}(h:aW K J H w v):aW K J' H' w v:=h.cY r BB x
theorem iE.cY(r:Rel K cl J m H)(hD:∀d,Δ=some d->kc (H d))(x:dM Δ J H J' H'){w:List (Str×W)}{v:List (Str×V)}(q:iE K J H w v):iE K J' H' w v:=q.xJ (RW.cY r hD x)
theorem RL.cY(r:Rel K cl J m H)(hD:∀d,Δ=some d->kc (H d))(x:dM Δ J H J' H'){Z:Loc}(l:RL K J H Z Y):RL K J' H' Z Y:=
 ⟨l.len,λ h=>let ⟨v,e,q⟩:=l.at_ h;⟨v,e,q.cY r hD x⟩⟩
theorem RL.mono(r:Rel K cl J m H)(x:Ext J H J' H'){Z:Loc}(l:RL K J H Z Y):RL K J' H' Z Y:=l.cY r BB x
theorem RO.cY(r:Rel K cl J m H)(hD:∀d,Δ=some d->kc (H d))(x:dM Δ J H J' H')(hk:H' a=H a)(h:RO K cl J H a o):RO K cl J' H' a o:=by
 cases o with
 | lst ws=>let⟨vs,e,t⟩:=h;exact⟨vs,hk.trans e,t.cY r hD x⟩
 | ins c fs=>let⟨dx,fs',e,t⟩:=h;exact⟨dx,fs',hk.trans e,t.cY r hD x⟩
 | set ks=>let⟨S,e,t⟩:=h;exact⟨S,hk.trans e,t⟩
 | dic fs=>let⟨fs',e,t⟩:=h;exact⟨fs',hk.trans e,t.cY r hD x⟩
theorem RO.mono(r:Rel K cl J m H)(x:Ext J H J' H')(hk:H' a=H a)(h:RO K cl J H a o):RO K cl J' H' a o:=h.cY r BB x hk
theorem aW.length:∀{ws:List W} {vs:List V},aW K J H ws vs->ws.length=vs.length
 | _,_,.nil=>rfl
 | _,_,.cons _ t=>by rw[QB,QB,aW.length t]
theorem aW.get:∀{ws:List W} {vs:List V} {i:Nat} {w:W},aW K J H ws vs->ws[i]?=some w->∃v,vs[i]?=some v/\RW K J H w v
 | _,_,_,_,.nil,e=>by simp at e
 | _,_,0,_,.cons h t,e=>by simp at e;subst e;exact⟨_,rfl,h⟩
 | _,_,i+1,_,.cons h t,e=>by simpa using aW.get (i:=i) t (by simpa using e)
theorem aW.append:∀{v w:List W} {d e:List V},aW K J H v d->aW K J H w e->aW K J H (v++w) (d++e):=by
 intro v
 induction v with
 | nil=>intro w d e h s;cases h;exact s
 | cons x v ih=>intro w d e h s;cases h with | cons q t=>exact .cons q (ih t s)
theorem aW.take:∀{ws:List W} {vs:List V} (n:Nat),aW K J H ws vs->aW K J H (ws.take n) (vs.take n)
 | _,_,0,_=>.nil
 | _,_,_+1,.nil=>.nil
 | _,_,n+1,.cons h t=>.cons h (aW.take n t)
theorem aW.drop:∀{ws:List W} {vs:List V} (n:Nat),aW K J H ws vs->aW K J H (ws.drop n) (vs.drop n)
 | _,_,0,r=>r
 | _,_,_+1,.nil=>.nil
 | _,_,n+1,.cons h t=>aW.drop n t
theorem aW.set(r:RW K J H w v):∀{ws:List W} {vs:List V} (i:Nat),aW K J H ws vs->aW K J H (ws.set i w) (vs.set i v)
 | _,_,_,.nil=>.nil
 | _,_,0,.cons _ t=>.cons r t
 | _,_,i+1,.cons q t=>.cons q (aW.set r i t)
theorem aW.eraseIdx:∀{ws:List W} {vs:List V} (i:Nat),aW K J H ws vs->aW K J H (ws.eraseIdx i) (vs.eraseIdx i)
 | _,_,_,.nil=>.nil
 | _,_,0,.cons _ t=>t
 | _,_,i+1,.cons q t=>.cons q (aW.eraseIdx i t)
theorem aW.dropLast{ws:List W}(h:aW K J H ws vs):aW K J H ws.dropLast vs.dropLast:=by
 rw[dropLast_eq_take,dropLast_eq_take,h.length];exact h.take _
theorem aW.bools{bs:List Bool}:∀{ws:List W} {vs:List V},aW K J H ws vs->D.bools ws=Option.some bs->vs=bs.map V.bl:=by
 induction bs with
 | nil=>
  intro ws vs h e;cases h with
  | nil=>rfl
  | cons q t=>cases q<;>simp[D.bools] at e
 | cons b bs ih=>
  intro ws vs h e;cases h with
  | nil=>simp[D.bools] at e
  | cons q t=>
   cases q with
   | bl c=>
    erw[D.bools,Qe] at e;let⟨r,e1,e2⟩:=e;cases e2;rw[ih t e1];rfl
   | _=>simp[D.bools] at e
theorem RW.sub(h:∀{n:Nat} {a:Addr},J[n]?=Option.some a->J'[n]?=Option.some a)(q:RW K J H w v):RW K J' H w v:=q.gen id id id h
theorem aW.sub(h:∀{n:Nat} {a:Addr},J[n]?=Option.some a->J'[n]?=Option.some a){w:List W}{v:List V}(q:aW K J H w v):aW K J' H w v:=q.xJ (RW.sub h)
theorem iE.sub(h:∀{n:Nat} {a:Addr},J[n]?=Option.some a->J'[n]?=Option.some a){w:List (Str×W)}{v:List (Str×V)}(q:iE K J H w v):iE K J' H w v:=q.xJ (RW.sub h)
theorem RO.sub(h:∀{n:Nat} {a:Addr},J[n]?=Option.some a->J'[n]?=Option.some a)(q:RO K cl J H a o):RO K cl J' H a o:=by
 cases o with
 | lst ws=>let⟨vs,e,t⟩:=q;exact⟨vs,e,t.sub h⟩
 | ins c fs=>let⟨dx,fs',e,t⟩:=q;exact⟨dx,fs',e,t.sub h⟩
 | set ks=>exact q
 | dic fs=>let⟨fs',e,t⟩:=q;exact⟨fs',e,t.sub h⟩
theorem Rel.qb(r:Rel K cl J m H)(hp:H p=none)(vs:List V):Ext J H J (upd H p (.tup vs))/\Rel K cl J m (upd H p (.tup vs)):=by
 have x:Ext J H J (upd H p (.tup vs)):=⟨⟨[],by simp,by simp⟩,λ h _ _=>by rw[aq (au h hp)];exact h⟩;refine⟨x,r.len,r.nd,λ h1 h2=>?_⟩;have q:=r.obj h1 h2;let⟨u,e,_⟩:=q.ex;exact q.mono r x (aq (au e hp))
theorem Rel.CD(r:Rel K cl J m H)(hp:H p=none):p∉J:=λ z=>by
 let⟨u,e,_⟩:=r.ex z;rw[hp] at e;cases e
theorem Rel.GK(r:Rel K cl J m H){ho:HO}(hp:H p=none)(q:∀x:Ext J H (J++[p]) (upd H p ho),RO K cl (J++[p]) (upd H p ho) p o):Ext J H (J++[p]) (upd H p ho)/\Rel K cl (J++[p]) (m++[o]) (upd H p ho):=by
 have x:Ext J H (J++[p]) (upd H p ho):=⟨⟨[p],rfl,λ a ha=>by simp at ha;rw[ha];exact hp⟩,λ h _ _=>by rw[aq (au h hp)];exact h⟩;refine⟨x,by simp[r.len],?_,λ {n o' a} h1 h2=>?_⟩
 .rw[nodup_append];refine⟨r.nd,by simp,λ a ha b hb=>?_⟩;simp at hb;subst hb;rintro rfl;exact r.CD hp ha
 .by_cases hn:n < m.length
  .rw[Qw hn] at h1;rw[Qw (by rw[r.len];exact hn)] at h2;have q:=r.obj h1 h2;let⟨u,e,_⟩:=q.ex;exact q.mono r x (aq (au e hp))
  .have e1:=(Qd.mp h1).1;simp at e1;have e:n=m.length:=by omega
   subst e;rw[QH (Qk _)] at h1;rw[<-r.len,QH (Qk _)] at h2;simp at h1 h2;subst h1 h2;exact q x
theorem Rel.newL(r:Rel K cl J m H)(hp:H p=none){ws:List W}(q:aW K J H ws vs):Ext J H (J++[p]) (upd H p (.lst vs))/\Rel K cl (J++[p]) (m++[.lst ws]) (upd H p (.lst vs)):=
 r.GK hp λ x=>⟨vs,aJ,q.mono r x⟩
theorem Rel.Ni(r:Rel K cl J m H){u':HO}(hd:kc (H d))(hn:d∉J):dM (Option.some d) J H J (upd H d u')/\Rel K cl J m (upd H d u'):=by
 have x:dM (Option.some d) J H J (upd H d u'):=⟨⟨[],by simp,by simp⟩,λ {a o} h _ na=>by rw[aq (λ z=>na (by rw[z]))];exact h⟩;refine⟨x,r.len,r.nd,λ h1 h2=>?_⟩;have q:=r.obj h1 h2;refine q.cY r (λ d' z=>?_) x (aq λ z=>?_)
 .cases z;exact hd
 .exact hn (by rw[<-z];exact QX h2)
theorem Rel.out(r:Rel K cl J m H){ob:O}(hn:d∉J)(t:RO K cl J H d ob):Rel K cl (J++[d]) (m++[ob]) H:=by
 have xx:∀{n:Nat} {a:Addr},J[n]?=Option.some a->(J++[d])[n]?=Option.some a:=λ {n a} h=>by
  rw[Qw (Qd.mp h).1];exact h
 refine⟨by simp[r.len],?_,λ {n o a} h1 h2=>?_⟩
 .rw[nodup_append];refine⟨r.nd,by simp,λ a ha b hb=>?_⟩;simp at hb;subst hb;rintro rfl;exact hn ha
 .by_cases hl:n < m.length
  .rw[Qw hl] at h1;rw[Qw (by rw[r.len];exact hl)] at h2;exact(r.obj h1 h2).sub xx
  .have e1:=(Qd.mp h1).1;simp at e1;have e:n=m.length:=by omega
   subst e;rw[QH (Qk _)] at h1;rw[<-r.len,QH (Qk _)] at h2;simp at h1 h2;subst h1 h2;exact t.sub xx
theorem Rel.last(r:Rel K cl J m H)(p:Addr):(J++[p])[m.length]?=Option.some p:=by
 rw[<-r.len,QH (Qk _)];simp
theorem Rel.CG(r:Rel K cl J m H){Nj:List W}{vs':List V}(hm:m[n]?=Option.some o)(hb:J[n]?=Option.some a)(q:aW K J H Nj vs'):Ext J H J (upd H a (.lst vs'))/\Rel K cl J (m.set n (.lst Nj)) (upd H a (.lst vs')):=by
 have ha:a∈J:=QX hb;have x:Ext J H J (upd H a (.lst vs')):=⟨⟨[],by simp,by simp⟩,λ {b u} h hn _=>by rw[aq (show b≠a from λ z=>hn (by rw[z];exact ha))];exact h⟩;refine⟨x,by simp[r.len],r.nd,λ {k o' b} h1 h2=>?_⟩
 by_cases hk:n=k
 .subst hk;rw[hb] at h2;cases h2;rw[QN (Qd.mp hm).1] at h1;cases h1;exact⟨vs',aJ,q.mono r x⟩
 .rw[QT hk] at h1;have q':=r.obj h1 h2;refine q'.mono r x (aq ?_);rintro rfl;let⟨h3,e3⟩:=Qd.mp h2;let⟨h4,e4⟩:=Qd.mp hb;exact hk ((getElem_inj r.nd).mp (e4.trans e3.symm))
theorem Rel.getL(r:Rel K cl J m H){ws:List W}(q:RW K J H w v)(e:D.getL m w=Option.some ws):∃a vs,v=.ref a/\gE K H a vs/\aW K J H ws vs:=by
 cases q with
 | ref h=>
  unfold D.getL at e;dsimp only at e;split at e
  .ext xs e1;cases e;let⟨vs,z,t⟩:=r.obj e1 h;exact⟨_,vs,rfl,.inl (.inl z),t⟩
  .cases e
 | fz h t=>cases e;exact⟨_,_,rfl,h.l,t⟩
 | _=>simp[D.getL] at e
theorem Rel.aM(r:Rel K cl J m H){ws:List W}(q:RW K J H w v)(e:D.aM m w=Option.some ws):∃a vs,v=.ref a/\(gE K H a vs\/dI K H a vs)/\aW K J H ws vs:=by
 cases w with
 | tup xs=>
  cases q with
  | tup h t=>
   cases e;exact⟨_,_,rfl,.inr h,t⟩
 | _=>
  let⟨a,vs,e1,e2,e3⟩:=r.getL q e;exact⟨a,vs,e1,.inl e2,e3⟩
theorem Rel.lst(r:Rel K cl J m H){ws:List W}(q:RW K J H (.ref n) v)(e:m[n]?=Option.some (.lst ws)):∃a vs,v=.ref a/\J[n]?=Option.some a/\H a=Option.some (.lst vs)/\aW K J H ws vs:=by
 cases q with
 | ref h=>
  let⟨vs,z,t⟩:=r.obj e h;exact⟨_,vs,rfl,h,z,t⟩
theorem iR{f:W->Option PyData}:∀{ws:List W} {vs:List V} {ds:List PyData},(∀w v d,w∈ws->RW K J H w v->f w=Option.some d->Dt K H v d)->aW K J H ws vs->dw f ws=Option.some ds->Ei K H vs ds
 | [],_,_,_,.nil,e=>by cases e;exact .nil
 | w::ws,_,_,h,.cons q t,e=>by
  unfold dw at e;split at e
  .cases e
  .ext d e1;split at e
   .cases e
   .ext ds e2;cases e;exact .cons (h w _ d Qu q e1) (iR (λ w' v' d' hw=>h w' v' d' (Qj _ hw)) t e2)
theorem iu(r:Rel K cl J m H):∀(n:Nat) {w:W} {v:V} {d:PyData},RW K J H w v->toD n m w=Option.some d->Dt K H v d
 | 0,_,_,_,_,e=>by cases e
 | n+1,w,v,d,q,e=>by
  unfold toD at e;cases q with
  | non=>cases e;exact .non
  | bl b=>cases e;exact .bl b
  | int i=>cases e;exact .int i
  | str x=>
   dsimp only at e;split at e
   .cases e;exact .str x
   .cases e
  | tup h t=>
   erw[Qe] at e;let⟨ds,e1,e2⟩:=e;subst e2;exact .tup h (iR (λ w v d _ q e=>iu r n q e) t e1)
  | fz h t=>
   erw[Qe] at e;let⟨ds,e1,e2⟩:=e;subst e2;exact .lst h.l (iR (λ w v d _ q e=>iu r n q e) t e1)
  | obj h e0 t=>cases e
  | ref h=>
   dsimp only at e;split at e
   .ext xs e1;erw[Qe] at e;let⟨ds,e2,e3⟩:=e;subst e3;let⟨a,vs,z1,z2,z3⟩:=r.getL (.ref h) e1;cases z1;exact .lst z2 (iR (λ w v d _ q e=>iu r n q e) z3 e2)
   .cases e
theorem iS{f:W->Option PyData}:∀{ws:List W} {ds:List PyData},(∀w d,f w=Option.some d->d.canLay0=true/\d.depth<=n)->dw f ws=Option.some ds->PyData.canLayAll0 ds=true/\PyData.depthAll ds<=n
 | [],_,_,e=>by cases e;exact⟨rfl,RC _⟩
 | w::ws,_,h,e=>by
  unfold dw at e;split at e
  .cases e
  .ext d e1;split at e
   .cases e
   .ext ds e2;cases e;let⟨a1,a2⟩:=h w d e1;let⟨b1,b2⟩:=iS h e2;refine⟨by simp[PyData.canLayAll0,a1,b1],?_⟩;erw[PyData.depthAll];omega
theorem eE:∀(n:Nat) {w:W} {d:PyData},toD n m w=Option.some d->d.canLay0=true/\d.depth<=n
 | 0,_,_,e=>by cases e
 | n+1,w,d,e=>by
  unfold toD at e;cases w with
  | non=>cases e;exact⟨rfl,by simp[PyData.depth]⟩
  | bl b=>cases e;exact⟨rfl,by simp[PyData.depth]⟩
  | int i=>cases e;exact⟨rfl,by simp[PyData.depth]⟩
  | str x=>
   dsimp only at e;split at e
   .ext hx;cases e;exact⟨hx,by simp[PyData.depth]⟩
   .cases e
  | tup xs=>
   erw[Qe] at e;let⟨ds,e1,e2⟩:=e;subst e2;let⟨a1,a2⟩:=iS (λ w d e=>eE n e) e1;exact⟨a1,by erw[PyData.depth];omega⟩
  | fz xs=>
   erw[Qe] at e;let⟨ds,e1,e2⟩:=e;subst e2;let⟨a1,a2⟩:=iS (λ w d e=>eE n e) e1;exact⟨a1,by erw[PyData.depth];omega⟩
  | obj c ks vs=>cases e
  | ref k=>
   dsimp only at e;split at e
   .erw[Qe] at e;let⟨ds,e2,e3⟩:=e;subst e3;let⟨a1,a2⟩:=iS (λ w d e=>eE n e) e2;exact⟨a1,by erw[PyData.depth];omega⟩
   .cases e
theorem R.ah{α γ:Type}{x:R α}{f:α->Mem->R γ}{c:γ}(h:x.bind f=.ok c m'):∃a m,x=.ok a m/\f a m=.ok c m':=by
 cases x with
 | no=>cases h
 | ok a m=>exact⟨a,m,rfl,h⟩
end
structure UN(X:L2.Cx)(cl:Cl):Prop where
 un:X.A.units+64 < cLine
 P:cl.P=X.prog
 w:cl.w=X.w
 gd:X.A.guards=some []
theorem cN:lim<=sizeLine:=by rw[RN];decide
section
variable(X:L2.Cx)(cl:Cl)
def SE(ev:Loc->Mem->R W):TE:=fun Y H Q=>∃J Z m w m',Rel X.K cl J m H/\RL X.K J H Z Y/\ev Z m=.ok w m'/\∀J' H' v,Ext J H J' H'->Rel X.K cl J' m' H'->RW X.K J' H' w v->Q v H'
def ST(ev:Loc->Mem->R Bool):TT:=fun Y H Q=>∃J Z m b m',Rel X.K cl J m H/\RL X.K J H Z Y/\ev Z m=.ok b m'/\∀J' H',Ext J H J' H'->Rel X.K cl J' m' H'->Q b H'
def SA(ev:Loc->Mem->R (List W)):TA:=fun Y H Q=>∃J Z m ws m',Rel X.K cl J m H/\RL X.K J H Z Y/\ev Z m=.ok ws m'/\∀J' H' vs,Ext J H J' H'->Rel X.K cl J' m' H'->aW X.K J' H' ws vs->Q vs H'
def JU(ev:Loc->Mem->R (Option Int)):TO:=fun Y H Q=>∃J Z m o m',Rel X.K cl J m H/\RL X.K J H Z Y/\ev Z m=.ok o m'/\∀J' H',Ext J H J' H'->Rel X.K cl J' m' H'->Q o H'
def Eo(f:W->W->Mem->R W):R2:=λ x y H Q=>∃J m wx wy w m',Rel X.K cl J m H/\RW X.K J H wx x/\RW X.K J H wy y/\f wx wy m=.ok w m'/\∀J' H' v,Ext J H J' H'->Rel X.K cl J' m' H'->RW X.K J' H' w v->Q v H'
def OT(f:List W->Mem->R W):List V->Hp->VK->Prop:=λ xs H Q=>∃J m ws w m',Rel X.K cl J m H/\aW X.K J H ws xs/\f ws m=.ok w m'/\∀J' H' v,Ext J H J' H'->Rel X.K cl J' m' H'->RW X.K J' H' w v->Q v H'
end
theorem PE.imp{t t':TE}(h:PE X e t)(i:∀Y H Q,t' Y H Q->t Y H Q):PE X e t':=λ aa s Y H Q I q=>h aa s Y H Q I (i Y H Q q)
theorem PT.imp{t t':TT}(h:PT X e t)(i:∀Y H Q,t' Y H Q->t Y H Q):PT X e t':=λ aa s Y H Q I q=>h aa s Y H Q I (i Y H Q q)
theorem PW.imp{t t':TT}(h:PW X e t)(i:∀Y H Q,t' Y H Q->t Y H Q):PW X e t':=λ wh aa s Y H Q I q=>h wh aa s Y H Q I (i Y H Q q)
theorem PA.imp{e:List Expr}{t t':TA}(h:PA X e t)(i:∀Y H Q,t' Y H Q->t Y H Q):PA X e t':=λ pos aa s Y H Q I q=>h pos aa s Y H Q I (i Y H Q q)
theorem PO.imp{e:Option Expr}{t t':TO}(h:PO X e t)(i:∀Y H Q,t' Y H Q->t Y H Q):PO X e t':=λ aa s Y H Q I q=>h aa s Y H Q I (i Y H Q q)
theorem kg{z:Str}:∀(fs:List (Str×V)),k9 (keyed fs) (.inr z)=fs.lookup z:=by
 intro fs
 induction fs with
 | nil=>rfl
 | cons p r ih=>
  let⟨k,v⟩:=p;unfold k9 keyed at ih ⊢;rw[QM,find?_cons,Qy]
  by_cases h:k=z
  .subst h;simp
  .have h1:(z==k)=false:=by simpa using λ e=>h e.symm
   have h2:decide ((Sum.inr k:Key)=.inr z)=false:=QE λ e=>h (Sum.inr.inj e);rw[h1];erw[h2];exact ih
theorem iE.look{z:Str}{fs:List (Str×W)}{gs:List (Str×V)}(h:iE K J H fs gs):(fs.lookup z).isSome=(gs.lookup z).isSome/\∀w,fs.lookup z=some w->∃v,gs.lookup z=some v/\RW K J H w v:=by
 induction h with
 | nil=>exact⟨rfl,λ w e=>by cases e⟩
 | @cons f w v ws vs q t ih=>
  rw[Qy,Qy];cases h:z==f with
  | true=>exact⟨rfl,λ w' e=>by cases e;exact⟨v,rfl,q⟩⟩
  | false=>exact ih
theorem GL:IM X (λ x y H Q=>∃z a fs v,y=.str z/\x=.ref a/\H a=some (.dK (keyed fs))/\fs.lookup z=some v/\Q v H):=by
 intro value slice aa s Y H x y v u Q I rx ry h hs;let⟨z,a,fs,o,rfl,rfl,e,hl,q⟩:=h;cases rx;let⟨_,hd,vs,rel,dd⟩:=za I.hok (.inl e);let⟨w',hw,rw'⟩:=iF.some_of (v:=o) (o:=valueAt vs (.inr z)) (by rw[<-hl,<-kg];exact rel.val (.inr z));exact tail_any dd.typeIs slot_dict_getitem.lookup (wpAny_getItem_of (vg (k:=.inr z) ry) dd.mapOf hw ⟨o,H,I.tok _,rw',q⟩) hs
section
variable{X:L2.Cx}{cl:Cl}
theorem zL:ie X (binaryOp .Add) (λ x y H Q=>∃a b ys,x=.ref a/\y=.ref b/\dI X.K H a []/\dI X.K H b ys/\Q (.ref b) H):=by
 intro aa s Y H x y v u Q I rx ry h;let⟨a,b,ys,rfl,rfl,h1,h2,q⟩:=h;cases rx;cases ry;let⟨its,rv,p1,_⟩:=I.tuple h1;let⟨its2,rv2,p2,_⟩:=I.tuple h2;cases rv;let⟨⟨cls,dd,data,sl⟩,ho,hc,n,hd⟩:=id p1;let⟨⟨cls2,dd2,data2,sl2⟩,ho2,hc2,n2,hd2⟩:=id p2;simp only at hc hd hc2 hd2;subst hc hd hc2 hd2;exact concat_meets ⟨_,ho,rfl⟩ ⟨_,ho2,rfl⟩ noFill_tuple_add seq_tuple_add PySem.F.slot_tuple_add PySem.F.entry_tuple_add (PySem.F.args_tuple_add_2 _ _)
   (tuple_addW0 a b _ its2.toArray n n2 dd dd2 sl sl2 's') ⟨ho,ho2,⟨.ref b,H,I,rfl,q⟩⟩
theorem CH:ie X (binaryOp .Add) (λ x y H Q=>∃a b xs ys,x=.ref a/\y=.ref b/\gE X.K H a xs/\gE X.K H b ys/\xs.length+ys.length<=sizeLine/\∀p,H p=none->Q (.ref p) (upd H p (.lst (xs++ys)))):=by
 intro aa s Y H x y v u Q I rx ry h;let⟨a,b,xs,ys,rfl,rfl,h1,h2,hz,q⟩:=h;cases rx;cases ry;let⟨its,rv,p1,_⟩:=I.list h1;let⟨its2,rv2,p2,_⟩:=I.list h2;let⟨⟨cls,dd,data,sl⟩,n,ho,hc,hdd,hd⟩:=id p1;let⟨⟨cls2,dd2,data2,sl2⟩,n2,ho2,hc2,hdd2,hd2⟩:=id p2;simp only at hc hd hc2 hd2;subst hc hd hc2 hd2;have l1:=rv.length;have l2:=rv2.length;have ea:its.toArray++its2.toArray=(its++its2).toArray:=by simp
 refine concat_meets ⟨_,ho,rfl⟩ ⟨_,ho2,rfl⟩ noFill_list_add seq_list_add PySem.F.slot_list_add PySem.F.entry_list_add (PySem.F.args_list_add_2 _ _)
   (list_addW a b its.toArray its2.toArray n n2 dd dd2 sl sl2 (by rw[Qq,Qq];omega)) ⟨ho,ho2,?_⟩
 rw[ea];exact⟨.ref _,_,I.JH (t':=s.toks) (rv.append rv2) (by rw[Q5];omega),rfl,q _ I.fresh⟩
theorem GN(op:Operator):ie X (binaryOp op) (Eo X cl (binop op)):=by
 intro aa s Y H x y v u Q I rx ry h;let⟨J,m,wx,wy,w,m',r,qx,qy,e,k⟩:=h;unfold binop at e;split at e
 .
  split at e
  .cases e;cases qx;cases qy;exact FP aa s Y H _ _ v u Q I rx ry ⟨_,_,rfl,rfl,k _ _ _ Ext.refl r (.int _)⟩
  .ext xs ys;split at e
   .ext hm;cases e;cases qx with
    | tup h1 t1=>
     cases qy with
     | tup h2 t2=>
      ext a vs b us;cases t1 with
      | nil=>exact zL aa s Y H _ _ v u Q I rx ry ⟨_,_,_,rfl,rfl,h1,h2,k _ _ _ Ext.refl r (.tup h2 (by simpa using t2))⟩
      | cons t1 tt1=>
       ext w1 v1 ws1 vs1;have hl:(v1::vs1).length+us.length<=lim:=by
        rw[<-(aW.cons t1 tt1).length,<-t2.length];exact hm
       refine Cd aa s Y H _ _ v u Q I rx ry ⟨_,_,_,_,rfl,rfl,h1,h2,by simp,QC hl cN,λ z=>?_,λ z p hp=>?_⟩
       .subst z;cases t2;exact k _ _ _ Ext.refl r (.tup h1 (by simpa using aW.cons t1 tt1))
       .let⟨x',r'⟩:=r.qb hp (v1::vs1++us);refine k _ _ _ x' r' (.tup (.of aJ) ?_);exact((aW.cons t1 tt1).append t2).mono r x'
   .cases e
  .split at e
   .ext hm;cases e;cases qx;cases qy;exact tT aa s Y H _ _ v u Q I rx ry ⟨_,_,rfl,rfl,QC hm cN,k _ _ _ Ext.refl r (.str _)⟩
   .cases e
  .unfold Cz at e;split at e
   .ext xs ys e1 e2;split at e
    .ext hm;cases e;let⟨a,vs,rfl,h1,t1⟩:=r.getL qx e1;let⟨b,us,rfl,h2,t2⟩:=r.getL qy e2;refine CH aa s Y H _ _ v u Q I rx ry ⟨_,_,_,_,rfl,rfl,h1,h2,?_,λ p hp=>?_⟩
     .rw[<-t1.length,<-t2.length];exact QC hm cN
     .let⟨x',r'⟩:=r.newL hp (t1.append t2);exact k _ _ _ x' r' (.ref (r.last p))
    .cases e
   .cases e
 .
  split at e
  .cases e;cases qx;cases qy;exact FQ aa s Y H _ _ v u Q I rx ry ⟨_,_,rfl,rfl,k _ _ _ Ext.refl r (.int _)⟩
  .cases e
 .
  split at e
  .split at e
   .ext hm;cases e;cases qx;cases qy;refine FT aa s Y H _ _ v u Q I rx ry ⟨_,_,rfl,rfl,?_,k _ _ _ Ext.refl r (.int _)⟩;simpa[kO,BU] using hm
   .cases e
  .cases e
 .split at e
  .split at e
   .ext hm;cases e;cases qx;cases qy;exact BV aa s Y H _ _ v u Q I rx ry ⟨_,_,rfl,rfl,hm,k _ _ _ Ext.refl r (.int _)⟩
   .cases e
  .cases e
 .split at e
  .split at e
   .ext hm;cases e;cases qx;cases qy;exact FU aa s Y H _ _ v u Q I rx ry ⟨_,_,rfl,rfl,hm,k _ _ _ Ext.refl r (.int _)⟩
   .cases e
  .cases e
 .split at e
  .split at e
   .ext hm;cases e;cases qx;cases qy;exact FW aa s Y H _ _ v u Q I rx ry ⟨_,_,rfl,rfl,hm,k _ _ _ Ext.refl r (.int _)⟩
   .cases e
  .cases e
 .split at e
  .split at e
   .ext hm;cases e;cases qx;cases qy;exact FY aa s Y H _ _ v u Q I rx ry ⟨_,_,rfl,rfl,hm,k _ _ _ Ext.refl r (.int _)⟩
   .cases e
  .cases e
 .split at e
  .split at e
   .ext hm;cases e;cases qx;cases qy;exact FZ aa s Y H _ _ v u Q I rx ry ⟨_,_,rfl,rfl,hm,k _ _ _ Ext.refl r (.int _)⟩
   .cases e
  .cases e
 .split at e
  .cases e;cases qx;cases qy;exact F6 aa s Y H _ _ v u Q I rx ry ⟨_,_,rfl,rfl,k _ _ _ Ext.refl r (.int _)⟩
  .cases e
 .cases e
theorem JV(hu:UN X cl):ie X (compareOp .Eq) (Eo X cl λ x y m=>(qP m x y).bind λ c m=>.ok (.bl c) m):=by
 intro aa s Y H x y v u Q I rx ry h;let⟨J,m,wx,wy,w,m',r,qx,qy,e,k⟩:=h;let⟨c,m1,e1,e2⟩:=R.ah e;cases e2;unfold qP at e1;split at e1
 .ext d1 d2 f1 f2;cases e1;exact Gy hu.un aa s Y H _ _ v u Q I rx ry ⟨_,_,iu r _ qx f1,iu r _ qy f2,(eE _ f1).1,(eE _ f2).1,(eE _ f1).2,k _ _ _ Ext.refl r (.bl _)⟩
 .cases e1
theorem JW(hu:UN X cl):ie X (compareOp .NotEq) (Eo X cl λ x y m=>((qP m x y).bind λ b m=>.ok (!b) m).bind λ c m=>.ok (.bl c) m):=by
 intro aa s Y H x y v u Q I rx ry h;let⟨J,m,wx,wy,w,m',r,qx,qy,e,k⟩:=h;let⟨c,m1,e1,e2⟩:=R.ah e;cases e2;let⟨c,m1,e1,e2⟩:=R.ah e1;cases e2;unfold qP at e1;split at e1
 .ext d1 d2 f1 f2;cases e1;exact Gz hu.un aa s Y H _ _ v u Q I rx ry ⟨_,_,iu r _ qx f1,iu r _ qy f2,(eE _ f1).1,(eE _ f2).1,(eE _ f1).2,k _ _ _ Ext.refl r (.bl _)⟩
 .cases e1
theorem kh(hu:UN X cl)(neg:Bool){aa:List (Addr×Obj)}{s:Shared}{x y:V}{v u:Value}{Q:VK}{m m':Mem}{wx wy:W}{ys:List W}{c:Bool}(I:Inv X aa Y H s)(rx:RelV x v)(ry:RelV y u)
  (r:Rel X.K cl J m H) (qx:RW X.K J H wx x) (qy:RW X.K J H wy y) (e1:aM m wy=some ys) (e2:jH m wx ys=.ok c m') (k:m'=m->Q (.bl (if neg then !c else c)) H) :
  wpAny (model X.prog X.w) X.A (compareOp (if neg then .NotIn else .In) v u) (EP X aa Y Q) X.xe s:=by
 let⟨a,vs,rfl,hs,t⟩:=r.aM qy e1;cases ry;unfold jH at e2;split at e2
 .ext d es f1 f2;cases e2;have k:=k rfl;let⟨l1,l2⟩:=eE _ f1;let⟨l3,l4⟩:=iS (λ w d e=>eE 60 e) f2;have ds:Ei X.K H vs es:=iR (λ w v d _ q e=>iu r _ q e) t f2;let⟨as,ra⟩:=I.reads (iu r _ qx f1) rx;have IP:X.A.units+1+min (PyData.depthAll es) d.depth < cLine:=by
   have:min (PyData.depthAll es) d.depth<=d.depth:=Nat.min_le_right _ _;have:=hu.un;omega
  rcases hs with hs | hs
  .let⟨bs,rb⟩:=I.reads (Dt.lst hs ds) (u:=Value.ref a) rfl;cases neg with
   | false=>exact SeqAt.in_list_reads rb ra l3 l1 IP ⟨.bl _,H,I,rfl,k⟩
   | true=>exact SeqAt.notIn_list_reads rb ra l3 l1 IP ⟨.bl _,H,I,rfl,k⟩
  .let⟨bs,rb⟩:=I.reads (Dt.tup hs ds) (u:=Value.ref a) rfl;cases neg with
   | false=>exact SeqAt.in_tuple_reads rb ra l3 l1 IP ⟨.bl _,H,I,rfl,k⟩
   | true=>exact SeqAt.notIn_tuple_reads rb ra l3 l1 IP ⟨.bl _,H,I,rfl,k⟩
 .cases e2
theorem aW.cU:∀{ws:List W} {vs:List V} {ns:List Int},aW K J H ws vs->D.cU ws=some ns->vs=ns.map V.int
 | _,_,_,.nil,h=>by cases h;rfl
 | _,_,_,.cons (w:=w) q t,h=>by
  cases w with
  | int i=>
   erw[D.cU,Qe] at h;let⟨r,h1,rfl⟩:=h;cases q;rw[t.cU h1];rfl
  | _=>cases h
theorem se{k:L2.Key}(q:RW K J H w v)(e:zz w=some k):v=kV k:=by
 cases q with
 | int i=>cases e;rfl
 | str x=>cases e;rfl
 | _=>cases e
theorem JX(hu:UN X cl):ie X (compareOp .In) (Eo X cl λ x y m=>(pZ m x y).bind λ c m=>.ok (.bl c) m):=by
 rintro aa s Y H x y v u Q I rx ry ⟨J,m,wx,wy,w,m',r,qx,qy,e,k⟩;let⟨c,m1,e1,e2⟩:=R.ah e;cases e2;unfold pZ at e1;split at e1
 .ext n;split at e1
  .ext ys e0;exact kh hu false I rx ry r qx qy (by simp[aM,getL,e0]) e1 λ z=>by subst z;exact k _ _ _ Ext.refl r (.bl _)
  .ext ks e0;split at e1
   .ext kk e3;cases e1;cases qy with
    | ref hb=>
     let⟨S,hS,hk⟩:=r.obj e0 hb;rw[hu.P,hu.w] at hS;refine xr aa s Y H _ _ v u Q I rx ry ⟨_,S,_,kk,rfl,se qx e3,hS,?_⟩;rw[hk];exact k _ _ _ Ext.refl r (.bl _)
   .cases e1
  .ext fs e0;split at e1
   .ext z;cases e1;cases qx;cases qy with
    | ref hb=>
     let⟨gs,hg,t⟩:=r.obj e0 hb;cases ry;refine M3 (o:=gs.lookup z) (by have:=hu.un;omega) I (by rw[<-kg];exact .k (k:=.inr z) hg) rx λ s' I'=>⟨.bl _,H,I',rfl,?_⟩;rw[<-t.look.1];exact k _ _ _ Ext.refl r (.bl _)
   .cases e1
  .cases e1
 .exact kh hu false I rx ry r qx qy rfl e1 λ z=>by subst z;exact k _ _ _ Ext.refl r (.bl _)
 .exact kh hu false I rx ry r qx qy rfl e1 λ z=>by subst z;exact k _ _ _ Ext.refl r (.bl _)
 .cases e1
theorem vp(q:RW K J H w v):decide (v=.non)=vn w:=by
 cases q<;>first | rfl | exact QE (λ z=>nomatch z)
theorem ki(hu:UN X cl)(op:CmpOp):ie X (compareOp op) (Eo X cl λ x y m=>(aD op x y m).bind λ c m=>.ok (.bl c) m):=by
 cases op with
 | Eq=>exact JV hu
 | NotEq=>exact JW hu
 | Lt=>
  rintro aa s Y H x y v u Q I rx ry ⟨J,m,wx,wy,w,m',r,qx,qy,e,k⟩;let⟨c,m1,e1,e2⟩:=R.ah e;cases e2;unfold aD at e1;dsimp only at e1;split at e1
  .cases e1;cases qx;cases qy;exact Jt aa s Y H _ _ v u Q I rx ry ⟨_,_,rfl,rfl,k _ _ _ Ext.refl r (.bl _)⟩
  .cases e1;cases qx;cases qy;exact wW aa s Y H _ _ v u Q I rx ry ⟨_,_,rfl,rfl,k _ _ _ Ext.refl r (.bl _)⟩
  .cases e1
 | LtE=>
  rintro aa s Y H x y v u Q I rx ry ⟨J,m,wx,wy,w,m',r,qx,qy,e,k⟩;let⟨c,m1,e1,e2⟩:=R.ah e;cases e2;unfold aD at e1;dsimp only at e1;split at e1
  .cases e1;cases qx;cases qy;exact Ju aa s Y H _ _ v u Q I rx ry ⟨_,_,rfl,rfl,k _ _ _ Ext.refl r (.bl _)⟩
  .cases e1;cases qx;cases qy;exact xu aa s Y H _ _ v u Q I rx ry ⟨_,_,rfl,rfl,k _ _ _ Ext.refl r (.bl _)⟩
  .cases e1
 | Gt=>
  rintro aa s Y H x y v u Q I rx ry ⟨J,m,wx,wy,w,m',r,qx,qy,e,k⟩;let⟨c,m1,e1,e2⟩:=R.ah e;cases e2;unfold aD at e1;dsimp only at e1;split at e1
  .cases e1;cases qx;cases qy;exact Jv aa s Y H _ _ v u Q I rx ry ⟨_,_,rfl,rfl,k _ _ _ Ext.refl r (.bl _)⟩
  .cases e1
 | GtE=>
  rintro aa s Y H x y v u Q I rx ry ⟨J,m,wx,wy,w,m',r,qx,qy,e,k⟩;let⟨c,m1,e1,e2⟩:=R.ah e;cases e2;unfold aD at e1;dsimp only at e1;split at e1
  .cases e1;cases qx;cases qy;exact Jw aa s Y H _ _ v u Q I rx ry ⟨_,_,rfl,rfl,k _ _ _ Ext.refl r (.bl _)⟩
  .cases e1
 | Is=>
  rintro aa s Y H x y v u Q I rx ry ⟨J,m,wx,wy,w,m',r,qx,qy,e,k⟩;let⟨c,m1,e1,e2⟩:=R.ah e;cases e2;unfold aD at e1;dsimp only at e1;split at e1
  .cases e1;cases qy;refine F7 aa s Y H _ _ v u Q I rx ry ⟨rfl,?_⟩;rw[vp qx];exact k _ _ _ Ext.refl r (.bl _)
  .cases e1
 | IsNot=>
  rintro aa s Y H x y v u Q I rx ry ⟨J,m,wx,wy,w,m',r,qx,qy,e,k⟩;let⟨c,m1,e1,e2⟩:=R.ah e;cases e2;unfold aD at e1;dsimp only at e1;split at e1
  .cases e1;cases qy;refine BW aa s Y H _ _ v u Q I rx ry ⟨rfl,?_⟩;rw[vp qx];exact k _ _ _ Ext.refl r (.bl _)
  .cases e1
 | In=>exact JX hu
 | NotIn=>
  rintro aa s Y H x y v u Q I rx ry ⟨J,m,wx,wy,w,m',r,qx,qy,e,k⟩;let⟨c,m1,e1,e2⟩:=R.ah e;cases e2;unfold aD at e1;dsimp only at e1;split at e1
  .ext n;split at e1
   .ext ys e0;let⟨c',m2,e3,e4⟩:=R.ah e1;cases e4;exact kh hu true I rx ry r qx qy (by simp[aM,getL,e0]) e3 λ z=>by subst z;exact k _ _ _ Ext.refl r (.bl _)
   .ext fs e0;split at e1
    .ext z;cases e1;cases qx;cases qy with
     | ref hb=>
      let⟨gs,hg,t⟩:=r.obj e0 hb;cases ry;refine Co (o:=gs.lookup z) (by have:=hu.un;omega) I (by rw[<-kg];exact .k (k:=.inr z) hg) rx λ s' I'=>⟨.bl _,H,I',rfl,?_⟩;rw[<-t.look.1];exact k _ _ _ Ext.refl r (.bl _)
    .cases e1
   .cases e1
  .let⟨c',m2,e3,e4⟩:=R.ah e1;cases e4;exact kh hu true I rx ry r qx qy rfl e3 λ z=>by subst z;exact k _ _ _ Ext.refl r (.bl _)
  .let⟨c',m2,e3,e4⟩:=R.ah e1;cases e4;exact kh hu true I rx ry r qx qy rfl e3 λ z=>by subst z;exact k _ _ _ Ext.refl r (.bl _)
  .cases e1
theorem CI{ws:List W}{i:Int}(t:aW K J H ws vs)(e:kZ ws i=some w):∃v,kZ vs i=some v/\RW K J H w v:=by
 unfold kZ at e ⊢;rw[<-t.length];cases h:nP ws.length i with
 | none=>rw[h] at e;cases e
 | some j=>rw[h] at e;exact t.get e
theorem GO:IM X (Eo X cl aX):=by
 intro value slice aa s Y H x y v u Q I rx ry h hs;let⟨J,m,wx,wy,w,m',r,qx,qy,e,k⟩:=h;unfold aX at e;split at e
 .ext i;split at e
  .split at e
   .ext hl;split at e
    .ext c e2;cases e;cases qx;cases qy;exact Gj value slice aa s Y H _ _ v u Q I rx ry ⟨_,_,_,rfl,rfl,QC hl cN,e2,k _ _ _ Ext.refl r (.str _)⟩ hs
    .cases e
   .cases e
  .split at e
   .ext ws e1;split at e
    .ext w' e2;cases e;cases qy;let⟨a,vs,rfl,hq,t⟩:=r.aM qx e1;let⟨z,e3,qz⟩:=CI t e2;rcases hq with hq | hq
     .exact Ce value slice aa s Y H _ _ v u Q I rx ry ⟨_,_,_,_,rfl,rfl,hq,e3,k _ _ _ Ext.refl r qz⟩ hs
     .exact Gi value slice aa s Y H _ _ v u Q I rx ry ⟨_,_,_,_,rfl,rfl,hq,e3,k _ _ _ Ext.refl r qz⟩ hs
    .cases e
   .cases e
 .split at e
  .split at e
   .ext fs e0;split at e
    .ext w' e2;cases e;cases qy;cases qx with
     | ref hb=>
      let⟨gs,hg,t⟩:=r.obj e0 hb;let⟨z,e3,qz⟩:=t.look.2 _ e2;exact GL value slice aa s Y H _ _ v u Q I rx ry ⟨_,_,_,_,rfl,rfl,hg,e3,k _ _ _ Ext.refl r qz⟩ hs
    .cases e
   .cases e
  .cases e
 .cases e
end
section
variable{X:L2.Cx}{cl:Cl}{C:D.Cx}{pos:Pos}
theorem zM{i:Nat}{x:Str}(hN:X.N[i]?=some x)(hv:Lx X.env.scope x)(hd:(x==("__debug__":Str))=false)(hcd:(x==("__classdict__":Str))=false):PE X (.Name x pos) (SE X cl (ao C (.var i))):=by
 refine PE.imp (Fi hN hv hd hcd) ?_;rintro Y H Q ⟨J,Z,m,w,m',r,l,e,k⟩;erw[aN] at e;split at e
 .ext w' e1;cases e;let⟨v,e2,q⟩:=l.at_ e1;exact⟨v,e2,k _ _ _ Ext.refl r q⟩
 .cases e
theorem JY{i:Int}:PE X (.Constant (.int i) j pos) (SE X cl (ao C (.cst (.int i)))):=by
 refine PE.imp Fj ?_;rintro Y H Q ⟨J,Z,m,w,m',r,l,e,k⟩;erw[ck] at e;cases e;exact k _ _ _ Ext.refl r (.int i)
theorem Nk{i:Bool}:PE X (.Constant (.bool i) j pos) (SE X cl (ao C (.cst (.bl i)))):=by
 refine PE.imp I9 ?_;rintro Y H Q ⟨J,Z,m,w,m',r,l,e,k⟩;erw[ck] at e;cases e;exact k _ _ _ Ext.refl r (.bl i)
theorem JZ:PE X (.Constant .none j pos) (SE X cl (ao C (.cst .non))):=by
 refine PE.imp yE ?_;rintro Y H Q ⟨J,Z,m,w,m',r,l,e,k⟩;erw[ck] at e;cases e;exact k _ _ _ Ext.refl r .non
theorem J0{x:Str}:PE X (.Constant (.str x) j pos) (SE X cl (ao C (.cst (.str x)))):=by
 refine PE.imp Fl ?_;rintro Y H Q ⟨J,Z,m,w,m',r,l,e,k⟩;erw[ck] at e;cases e;exact k _ _ _ Ext.refl r (.str x)
theorem J1{x:Str}(hg:Gl X x)(h:∃u v,X.mg x=some u/\RelV v u/\∀J H,RW X.K J H w v)(hd:(x==("__debug__":Str))=false):PE X (.Name x pos) (SE X cl (ao C (.cst w))):=by
 let⟨u,v,h1,h2,h3⟩:=h;refine PE.imp (BH hg h1 h2 hd) ?_;rintro Y H Q ⟨J,Z,m,w,m',r,l,e,k⟩;erw[ck] at e;cases e;exact k _ _ _ Ext.refl r (h3 _ _)
variable{a b c:Expr}{da db dc:E}
theorem J2{op:Operator}(ha:PE X a (SE X cl (ao C da)))(hb:PE X b (SE X cl (ao C db))):PE X (.BinOp a op b pos) (SE X cl (ao C (.bin op da db))):=by
 refine PE.imp (Jq (GN (cl:=cl) op) ha hb) ?_;rintro Y H Q ⟨J,Z,m,w,m',r,l,e,k⟩;erw[dO] at e;let⟨x,m1,e1,e⟩:=R.ah e;let⟨y,m2,e2,e⟩:=R.ah e;refine⟨J,Z,m,x,m1,r,l,e1,fun β1 H1 v1 x1 r1 q1=>?_⟩;refine⟨β1,Z,m1,y,m2,r1,l.mono r x1,e2,fun β2 H2 v2 x2 r2 q2=>?_⟩;exact⟨β2,m2,x,y,w,m',r2,q1.mono r1 x2,q2,e,fun β3 H3 v x3 r3 q3=>k β3 H3 v ((x1.trans r1 x2).trans r2 x3) r3 q3⟩
theorem J3{op:CmpOp}(hu:UN X cl)(ha:PE X a (SE X cl (ao C da)))(hb:PE X b (SE X cl (ao C db)))(hm:behindInMarks op b=false):PE X (.Compare a [op] [b] pos) (SE X cl (ao C (.cmp op da db))):=by
 refine PE.imp (BX (ki (cl:=cl) hu op) ha hb hm) ?_;rintro Y H Q ⟨J,Z,m,w,m',r,l,e,k⟩;erw[cV] at e;let⟨x,m1,e1,e⟩:=R.ah e;let⟨y,m2,e2,e⟩:=R.ah e;refine⟨J,Z,m,x,m1,r,l,e1,fun β1 H1 v1 x1 r1 q1=>?_⟩;refine⟨β1,Z,m1,y,m2,r1,l.mono r x1,e2,fun β2 H2 v2 x2 r2 q2=>?_⟩;exact⟨β2,m2,x,y,w,m',r2,q1.mono r1 x2,q2,e,fun β3 H3 v x3 r3 q3=>k β3 H3 v ((x1.trans r1 x2).trans r2 x3) r3 q3⟩
theorem J4{op:CmpOp}(hu:UN X cl)(ha:PE X a (SE X cl (ao C da)))(hb:PE X b (SE X cl (ao C db)))(hm:behindInMarks op b=false):PT X (.Compare a [op] [b] pos) (ST X cl (bx C (.cmp op da db))):=by
 refine PT.imp (BY (ki (cl:=cl) hu op) ha hb hm) ?_;rintro Y H Q ⟨J,Z,m,w,m',r,l,e,k⟩;erw[bH] at e;let⟨x,m1,e1,e⟩:=R.ah e;let⟨y,m2,e2,e⟩:=R.ah e;refine⟨J,Z,m,x,m1,r,l,e1,fun β1 H1 v1 x1 r1 q1=>?_⟩;refine⟨β1,Z,m1,y,m2,r1,l.mono r x1,e2,fun β2 H2 v2 x2 r2 q2=>?_⟩;refine⟨β2,m2,x,y,.bl w,m',r2,q1.mono r1 x2,q2,by dsimp only;rw[e];rfl,fun β3 H3 v x3 r3 q3=>?_⟩;cases q3;exact⟨w,rfl,k β3 H3 ((x1.trans r1 x2).trans r2 x3) r3⟩
theorem J5(ha:PE X a (SE X cl (ao C da))):PE X (.UnaryOp .Not a pos) (SE X cl (ao C (.not da))):=by
 refine PE.imp (Fv ha) ?_;rintro Y H Q ⟨J,Z,m,w,m',r,l,e,k⟩;erw[dP] at e;let⟨x,m1,e1,e⟩:=R.ah e;refine⟨J,Z,m,x,m1,r,l,e1,fun β1 H1 v1 x1 r1 q1=>?_⟩;split at e
 .cases e;cases q1;exact⟨_,rfl,k _ _ _ x1 r1 (.bl _)⟩
 .cases e
theorem J6(ha:PT X a (ST X cl (bx C da))):PT X (.UnaryOp .Not a pos) (ST X cl (bx C (.not da))):=by
 refine PT.imp (Fq ha) ?_;rintro Y H Q ⟨J,Z,m,w,m',r,l,e,k⟩;erw[cM] at e;let⟨x,m1,e1,e⟩:=R.ah e;cases e;exact⟨J,Z,m,x,_,r,l,e1,fun β1 H1 x1 r1=>k _ _ x1 r1⟩
variable{rest:List Expr}
theorem J7(ha:PE X a (SE X cl (ao C da)))(hb:PE X (.BoolOp .And (b::rest) pos) (SE X cl (ao C db))):PE X (.BoolOp .And (a::b::rest) pos) (SE X cl (ao C (.and da db))):=by
 refine PE.imp (Ft ha hb) ?_;rintro Y H Q ⟨J,Z,m,w,m',r,l,e,k⟩;erw[dD] at e;let⟨x,m1,e1,e⟩:=R.ah e;refine⟨J,Z,m,x,m1,r,l,e1,fun β1 H1 v1 x1 r1 q1=>?_⟩;split at e
 .ext c;cases q1;refine⟨c,rfl,?_⟩;split at e
  .ext hc;rw[Qs hc];exact⟨β1,Z,m1,w,m',r1,l.mono r x1,e,fun β2 H2 v2 x2 r2 q2=>k _ _ _ (x1.trans r1 x2) r2 q2⟩
  .ext hc;rw[Qz hc];cases e;exact k _ _ _ x1 r1 (.bl _)
 .cases e
theorem Nl(ha:PE X a (SE X cl (ao C da)))(hb:PE X (.BoolOp .Or (b::rest) pos) (SE X cl (ao C db))):PE X (.BoolOp .Or (a::b::rest) pos) (SE X cl (ao C (.or da db))):=by
 refine PE.imp (Jd ha hb) ?_;rintro Y H Q ⟨J,Z,m,w,m',r,l,e,k⟩;erw[gZ] at e;let⟨x,m1,e1,e⟩:=R.ah e;refine⟨J,Z,m,x,m1,r,l,e1,fun β1 H1 v1 x1 r1 q1=>?_⟩;split at e
 .ext c;cases q1;refine⟨c,rfl,?_⟩;split at e
  .ext hc;rw[Qs hc];cases e;exact k _ _ _ x1 r1 (.bl _)
  .ext hc;rw[Qz hc];exact⟨β1,Z,m1,w,m',r1,l.mono r x1,e,fun β2 H2 v2 x2 r2 q2=>k _ _ _ (x1.trans r1 x2) r2 q2⟩
 .cases e
theorem w_and(ha:PT X a (ST X cl (bx C da)))(hb:PW X (.BoolOp .And (b::rest) pos) (ST X cl (bx C db))):PW X (.BoolOp .And (a::b::rest) pos) (ST X cl (bx C (.and da db))):=by
 refine PW.imp (Fp ha hb) ?_;rintro Y H Q ⟨J,Z,m,w,m',r,l,e,k⟩;erw[cX] at e;let⟨x,m1,e1,e⟩:=R.ah e;refine⟨J,Z,m,x,m1,r,l,e1,fun β1 H1 x1 r1=>?_⟩;split at e
 .ext hc;rw[Qs hc];exact⟨β1,Z,m1,w,m',r1,l.mono r x1,e,fun β2 H2 x2 r2=>k _ _ (x1.trans r1 x2) r2⟩
 .ext hc;rw[Qz hc];cases e;exact k _ _ x1 r1
theorem w_or(ha:PT X a (ST X cl (bx C da)))(hb:PW X (.BoolOp .Or (b::rest) pos) (ST X cl (bx C db))):PW X (.BoolOp .Or (a::b::rest) pos) (ST X cl (bx C (.or da db))):=by
 refine PW.imp (Ja ha hb) ?_;rintro Y H Q ⟨J,Z,m,w,m',r,l,e,k⟩;erw[gx] at e;let⟨x,m1,e1,e⟩:=R.ah e;refine⟨J,Z,m,x,m1,r,l,e1,fun β1 H1 x1 r1=>?_⟩;split at e
 .ext hc;rw[Qs hc];cases e;exact k _ _ x1 r1
 .ext hc;rw[Qz hc];exact⟨β1,Z,m1,w,m',r1,l.mono r x1,e,fun β2 H2 x2 r2=>k _ _ (x1.trans r1 x2) r2⟩
theorem xK{m m':Mem}{b:Bool}(r:Rel K cl J m H)(q:RW K J H w v)(e:truthy m w=.ok b m'):m'=m/\F8 K v H b:=by
 cases q with
 | non=>cases e;exact⟨rfl,rfl⟩
 | bl c=>cases e;exact⟨rfl,rfl⟩
 | int i=>cases e;exact⟨rfl,rfl⟩
 | str x=>
  erw[truthy] at e;split at e
  .ext h;cases e;exact⟨rfl,QC h cN,rfl⟩
  .cases e
 | tup h t=>
  cases e;refine⟨rfl,.inr (.inl ⟨_,h,?_⟩)⟩;cases t<;>rfl
 | fz h t=>
  cases e;refine⟨rfl,.inl ⟨_,h.l,?_⟩⟩;cases t<;>rfl
 | obj h e0 t=>cases e
 | ref h=>
  erw[truthy] at e;split at e
  .ext xs e1;cases e;let⟨a,vs,z,hs,t⟩:=r.getL (.ref h) e1;cases z;refine⟨rfl,.inl ⟨_,hs,?_⟩⟩;cases t<;>rfl
  .cases e
theorem Ep(ha:PE X a (SE X cl (ao C da)))(he:∀whole,isTrue a X.env whole=(do let v <-whole;standAt a.pos;holding [v] (PySem.truthy v)))(hd:∀Z m,bx C da Z m=(ao C da Z m).bind λ w m=>D.truthy m w):PT X a (ST X cl (bx C da)):=by
 refine PT.imp (yO ha he) ?_;rintro Y H Q ⟨J,Z,m,w,m',r,l,e,k⟩;rw[hd] at e;let⟨x,m1,e1,e⟩:=R.ah e;refine⟨J,Z,m,x,m1,r,l,e1,fun β1 H1 v1 x1 r1 q1=>?_⟩;let⟨rfl,z⟩:=xK r1 q1 e;exact⟨w,z,k _ _ x1 r1⟩
theorem J8{t:Expr}{dt:E}(ht:PT X t (ST X cl (bx C dt)))(ha:PE X a (SE X cl (ao C da)))(hb:PE X b (SE X cl (ao C db))):PE X (.IfExp t a b pos) (SE X cl (ao C (.ife dt da db))):=by
 refine PE.imp (yG ht ha hb) ?_;rintro Y H Q ⟨J,Z,m,w,m',r,l,e,k⟩;erw[dQ] at e;let⟨x,m1,e1,e⟩:=R.ah e;refine⟨J,Z,m,x,m1,r,l,e1,fun β1 H1 x1 r1=>?_⟩;split at e
 .ext hc;rw[Qs hc];exact⟨β1,Z,m1,w,m',r1,l.mono r x1,e,fun β2 H2 v2 x2 r2 q2=>k _ _ _ (x1.trans r1 x2) r2 q2⟩
 .ext hc;rw[Qz hc];exact⟨β1,Z,m1,w,m',r1,l.mono r x1,e,fun β2 H2 v2 x2 r2 q2=>k _ _ _ (x1.trans r1 x2) r2 q2⟩
theorem CJ{o1 o2:CmpOp}(hu:UN X cl)(ha:PE X a (SE X cl (ao C da)))(hb:PE X b (SE X cl (ao C db)))(hc:PE X c (SE X cl (ao C dc)))
  (h:PE X (.Compare a [o1,o2] [b,c] pos) (tR (Eo X cl λ x y m=>(aD o1 x y m).bind λ c m=>.ok (.bl c) m) (Eo X cl λ x y m=>(aD o2 x y m).bind λ c m=>.ok (.bl c) m) (SE X cl (ao C da)) (SE X cl (ao C db)) (SE X cl (ao C dc)))) :
  PE X (.Compare a [o1,o2] [b,c] pos) (SE X cl (ao C (.chain o1 o2 da db dc))):=by
 refine PE.imp h ?_;rintro Y H Q ⟨J,Z,m,w,m',r,l,e,k⟩;erw[bg] at e;let⟨x,m1,e1,e⟩:=R.ah e;let⟨y,m2,e2,e⟩:=R.ah e;let⟨z,m3,e3,e⟩:=R.ah e;refine⟨J,Z,m,x,m1,r,l,e1,fun β1 H1 v1 x1 r1 q1=>?_⟩;refine⟨β1,Z,m1,y,m2,r1,l.mono r x1,e2,fun β2 H2 v2 x2 r2 q2=>?_⟩;have l2:=(l.mono r x1).mono r1 x2;refine⟨β2,m2,x,y,.bl z,m3,r2,q1.mono r1 x2,q2,by dsimp only;rw[e3];rfl,fun β3 H3 v3 x3 r3 q3=>?_⟩;cases q3;refine⟨z,rfl,?_⟩;have J9:=(x1.trans r1 x2).trans r2 x3;split at e
 .ext hc;rw[Qs hc];let⟨u,m4,e4,e⟩:=R.ah e;refine⟨β3,Z,m3,u,m4,r3,l2.mono r2 x3,e4,fun β4 H4 v4 x4 r4 q4=>?_⟩;exact⟨β4,m4,y,u,w,m',r4,(q2.mono r2 x3).mono r3 x4,q4,e,fun β5 H5 v5 x5 r5 q5=>k _ _ _ ((J9.trans r3 x4).trans r4 x5) r5 q5⟩
 .ext hc;rw[Qz hc];cases e;exact k _ _ _ J9 r3 (.bl _)
theorem Ka:PA X [] (SA X cl (bQ C .nil)):=by
 refine PA.imp gJ ?_;rintro Y H Q ⟨J,Z,m,w,m',r,l,e,k⟩;erw[fY] at e;cases e;exact k _ _ _ Ext.refl r .nil
theorem GP{d:E}(ha:PE X a (SE X cl (ao C d)))(hr:PA X es (SA X cl (bQ C ds)))(hs:starEach (a::es) X.env=(false,eval a X.env)::starEach es X.env):PA X (a::es) (SA X cl (bQ C (.cons d ds))):=by
 refine PA.imp (ee ha hr hs) ?_;rintro Y H Q ⟨J,Z,m,w,m',r,l,e,k⟩;erw[fY] at e;let⟨x,m1,e1,e⟩:=R.ah e;let⟨y,m2,e2,e⟩:=R.ah e;cases e;refine⟨J,Z,m,x,m1,r,l,e1,fun β1 H1 v1 x1 r1 q1=>?_⟩;exact⟨β1,Z,m1,y,_,r1,l.mono r x1,e2,fun β2 H2 v2 x2 r2 q2=>k _ _ _ (x1.trans r1 x2) r2 (.cons (q1.mono r1 x2) q2)⟩
theorem Kc{x1}(ha:PA X es (SA X cl (bQ C ds))):PE X (.Tuple es x1 pos) (SE X cl (ao C (.tup ds))):=by
 refine PE.imp (Gb ha) ?_;rintro Y H Q ⟨J,Z,m,w,m',r,l,e,k⟩;erw[cD] at e;let⟨x,m1,e1,e⟩:=R.ah e;split at e
 .ext hl;cases e;refine⟨J,Z,m,x,_,r,l,e1,fun β1 H1 v1 x1 r1 q1=>⟨by rw[<-q1.length];exact QC hl cN,λ p hp=>?_⟩⟩;let⟨x2,r2⟩:=r1.qb hp v1;exact k _ _ _ (x1.trans r1 x2) r2 (.tup (.of aJ) (q1.mono r1 x2))
 .cases e
theorem Ke(ha:PA X es (SA X cl (bQ C ds))):PE X (.List es pos) (SE X cl (ao C (.lst ds))):=by
 refine PE.imp (Gd ha) ?_;rintro Y H Q ⟨J,Z,m,w,m',r,l,e,k⟩;erw[dF] at e;let⟨x,m1,e1,e⟩:=R.ah e;split at e
 .ext hl;cases e;refine⟨J,Z,m,x,_,r,l,e1,fun β1 H1 v1 x1 r1 q1=>⟨by rw[<-q1.length];exact QC hl cN,λ p hp=>?_⟩⟩;let⟨x2,r2⟩:=r1.newL hp q1;exact k _ _ _ (x1.trans r1 x2) r2 (.ref (r1.last p))
 .cases e
theorem Kf(ha:PE X a (SE X cl (ao C da)))(hb:PE X b (SE X cl (ao C db)))(hs:pP b):PE X (.Subscript a b pos) (SE X cl (ao C (.idx da db))):=by
 refine PE.imp (JE (GO (cl:=cl)) ha hb hs) ?_;rintro Y H Q ⟨J,Z,m,w,m',r,l,e,k⟩;erw[cF] at e;let⟨x,m1,e1,e⟩:=R.ah e;let⟨y,m2,e2,e⟩:=R.ah e;refine⟨J,Z,m,x,m1,r,l,e1,fun β1 H1 v1 x1 r1 q1=>?_⟩;refine⟨β1,Z,m1,y,m2,r1,l.mono r x1,e2,fun β2 H2 v2 x2 r2 q2=>?_⟩;exact⟨β2,m2,x,y,w,m',r2,q1.mono r1 x2,q2,e,fun β3 H3 v x3 r3 q3=>k β3 H3 v ((x1.trans r1 x2).trans r2 x3) r3 q3⟩
theorem GQ:PO X none (JU X cl (zK C .none)):=by
 refine PO.imp Ca ?_;rintro Y H Q ⟨J,Z,m,w,m',r,l,e,k⟩;erw[Em] at e;cases e;exact k _ _ Ext.refl r
theorem GR(ha:PE X a (SE X cl (ao C da))):PO X (some a) (JU X cl (zK C (.some da))):=by
 refine PO.imp (Cb ha) ?_;rintro Y H Q ⟨J,Z,m,w,m',r,l,e,k⟩;erw[Em] at e;let⟨x,m1,e1,e⟩:=R.ah e;refine⟨J,Z,m,x,m1,r,l,e1,fun β1 H1 v1 x1 r1 q1=>?_⟩;split at e
 .cases e;cases q1;exact⟨_,rfl,k _ _ x1 r1⟩
 .cases e
theorem vq{ws:List W}{lo hi:Option Int}(t:aW K J H ws vs):aW K J H (ux ws lo hi) (pM vs lo hi):=by
 unfold ux pM;rw[<-t.length];exact(t.drop _).take _
theorem GS:IL X (λ x lo hi H Q=>∃J m wx w m',Rel X.K cl J m H/\RW X.K J H wx x/\mF wx lo hi m=.ok w m'/\∀J' H' v,Ext J H J' H'->Rel X.K cl J' m' H'->RW X.K J' H' w v->Q v H'):=by
 intro aa s Y H x v vl vu lo hi sl Q I rx hs pl pu h;let⟨J,m,wx,w,m',r,q,e,k⟩:=h;unfold mF at e;split at e
 .cases e;cases q with
  | tup h t=>
   ext xs a vs
   by_cases hw:HT.cZ vs.length 0 lo=0/\HT.cZ vs.length vs.length hi=vs.length
   .refine Cy aa s Y H _ v vl vu lo hi sl Q I rx hs pl pu ⟨_,_,rfl,h,hw,k _ _ _ Ext.refl r ?_⟩;have:ux xs lo hi=xs:=by
     unfold ux;rw[t.length,hw.1,hw.2,<-t.length];simp
    rw[this];exact .tup h t
   .refine Gg aa s Y H _ v vl vu lo hi sl Q I rx hs pl pu ⟨_,_,rfl,h,hw,λ p hp=>?_⟩;let⟨x2,r2⟩:=r.qb hp (pM _ lo hi);exact k _ _ _ x2 r2 (.tup (.of aJ) ((vq t).mono r x2))
 .split at e
  .ext hl;cases e;cases q;exact GD aa s Y H _ v vl vu lo hi sl Q I rx hs pl pu ⟨_,rfl,QC hl cN,k _ _ _ Ext.refl r (.str _)⟩
  .cases e
 .split at e
  .ext xs e1;cases e;let⟨a,vs,rfl,hs',t⟩:=r.getL q e1;refine Cg aa s Y H _ v vl vu lo hi sl Q I rx hs pl pu ⟨_,_,rfl,hs',λ p hp=>?_⟩;let⟨x2,r2⟩:=r.newL hp (vq t);exact k _ _ _ x2 r2 (.ref (r.last p))
  .cases e
theorem Kg{lo hi:Option Expr}{dl dh:Oe}{p2:Pos}(ha:PE X a (SE X cl (ao C da)))(hl:PO X lo (JU X cl (zK C dl)))(hh:PO X hi (JU X cl (zK C dh))):PE X (.Subscript a (.Slice lo hi none p2) pos) (SE X cl (ao C (.slc da dl dh))):=by
 refine PE.imp (yX (GS (cl:=cl)) ha hl hh) ?_;rintro Y H Q ⟨J,Z,m,w,m',r,l,e,k⟩;erw[dR] at e;let⟨x,m1,e1,e⟩:=R.ah e;let⟨y,m2,e2,e⟩:=R.ah e;let⟨z,m3,e3,e⟩:=R.ah e;refine⟨J,Z,m,x,m1,r,l,e1,fun β1 H1 v1 x1 r1 q1=>?_⟩;refine⟨β1,Z,m1,y,m2,r1,l.mono r x1,e2,fun β2 H2 x2 r2=>?_⟩;refine⟨β2,Z,m2,z,m3,r2,(l.mono r x1).mono r1 x2,e3,fun β3 H3 x3 r3=>?_⟩;exact⟨β3,m3,x,w,m',r3,(q1.mono r1 x2).mono r2 x3,e,fun β4 H4 v x4 r4 q4=>k _ _ _ (((x1.trans r1 x2).trans r2 x3).trans r3 x4) r4 q4⟩
end
end D
end
section
namespace D
open PySem PySem.Spec PyProof.Rows L2 PySem.W List
variable{s:Shared}
theorem vt{α:Type}{cmp:Nat->Nat->(Bool->Shared->Prop)->Shared->Prop}{n:Nat}{zA:Nat->Nat->Bool}(hc:∀i j (Q:Bool->Shared->Prop),i < n->j < n->i≠j->Q (zA i j) s->cmp i j Q s){Q:α->Shared->Prop}:∀{t:KasT α} {a:α},eZ n zA t=some a->Q a s->t.kasWp cmp Q s
 | .ret a,_,h,q=>by cases h;exact q
 | .ask i j k,a,h,q=>by
  unfold eZ at h;split at h
  .ext hij;exact hc i j _ hij.1 hij.2.1 hij.2.2 (vt hc h q)
  .cases h
def Er(K:PySem.W.Frag)(H:Hp)(v:V)(ns:List Int):Prop:=∃a,v=.ref a/\dI K H a (ns.map V.int)
section
variable{X:L2.Cx}
theorem sj{prog:Program}{w:World}{A:Around}{Q:Bool->Shared->Prop}{fin:Bool}:∀{us ws:List Value} {ns ms:List Int} {i:Nat},IntsAre us ns->IntsAre ws ms->ns.length=ms.length->fin=false->Q (HT.lexLt ns ms) s->KatLex prog w A true fin Q (us.zip ws) i s
 | _,_,_,_,i,.nil,.nil,_,hf,q=>by subst hf;exact kat_nil q
 | _,_,_,_,i,.nil,.cons _ _ _,hl,_,_=>by simp at hl
 | _,_,_,_,i,.cons _ _ _,.nil,hl,_,_=>by simp at hl
 | _,_,_,_,i,.cons a t hu,.cons c u hw,hl,hf,q=>by
  rw[zip_cons_cons];refine kat_cons (wpAny_eqBool_int ?_);rw[HT.gq] at q
  by_cases e:a=c
  .have:(a==c)=true:=by simpa using e
   rw[this];rw[Qs e] at q;exact kat_yes (sj hu hw (by simpa using hl) hf q)
  .have:(a==c)=false:=by simpa using e
   rw[this];rw[Qz e] at q;refine kat_no ?_;cases hb:(true&&i==0) with
   | true=>exact oneLt_int q
   | false=>exact kat_one _ _ (lt_int q)
theorem qc{aa:List (Addr×Obj)}{Y:L2.St}{H:Hp}{Q:VK}{p:Addr}{ys:List V}{zA:Nat->Nat->Bool}{pm:Array Nat}(I:Inv X aa Y H s)(hq:gE X.K H p ys)(h2:2<=ys.length)(h64:ys.length < 64)
  (hr:eZ ys.length zA (kas_sort ys.length)=some pm) (xM:pm.size<=64) (q:∀l,H l=none->Q (.ref l) (upd H l (.lst (pm.toList.map λ i=>ys.getD i .non))))
  (mid:∀(its:List Value) (h':Heap) (G:SortKind->Shared->Prop),Vals ys its->(∀b o,b≠X.env.locals->s.heap.get? b=some o->h'.get? b=some o)->
   (∀κ,(∀i j (C:Bool->Shared->Prop),i < its.length->j < its.length->i≠j->C (zA i j) {s with heap:=h'}->wpAny (model X.prog X.w) X.A.in1.in1 (keyLt' κ (its.getD i Value.none) (its.getD j Value.none)) C (λ _ _=>False) {s with heap:=h'})->G κ {s with heap:=h'})->
   wpAny (model X.prog X.w) X.A.in1.in1 (keyKind' its.toArray) G (λ _ _=>False) {s with heap:=h'}) :
  wpAny (model X.prog X.w) X.A (call (.builtin "sorted") [.ref p]) (EP X aa Y Q) X.xe s:=by
 let⟨its,rvs,pl,hz⟩:=I.list hq;let⟨m,F⟩:=I.fr;have hlen:=rvs.length;rw[hlen] at h2 h64 hr;refine kat_sorted F (yD (g:=X.base) (h:=s.heap) (L:=X.env.locals)) pl.isList h2 h64 λ D e1 h' F' N' hD=>?_;have kept:∀b o,b≠X.env.locals->s.heap.get? b=some o->h'.get? b=some o:=λ b o hb e=>by
  cases z:X.base.get? b with
  | some u=>
   have:=I.bk b u z;rw[e] at this;cases this;exact F'.keep b _ z
  | none=>exact(N' (b,o) (.tail _ (gF hb z e))).1
 refine mid its h' _ rvs kept fun κ hc=>?_;refine vt (n:=its.length) (zA:=zA) (λ i j C hi hj hij hq=>hc i j C hi hj hij hq) hr ?_;have IQ:H D=none:=by
  cases z:H D with
  | none=>rfl
  | some o=>
   obtain⟨ob,eo⟩:∃ob,s.heap.get? D=some ob:=by
    have hlt:=I.hok.lt z;cases y:s.heap.get? D with
    | some ob=>exact⟨ob,rfl⟩
    | none=>
     have x:=I.hok D o z;cases o with
     | lst xs=>let⟨_,_,_,_,e⟩:=x;rw[y] at e;cases e
     | tup xs=>let⟨_,_,_,o',e,_⟩:=x;rw[y] at e;cases e
     | dK kvs=>let⟨_,_,_,_,o',_,_,e,_⟩:=x;rw[y] at e;cases e
     | dT kvs=>let⟨_,_,_,_,o',_,_,e,_⟩:=x;rw[y] at e;cases e
     | set S n=>let⟨o',_,_,_,e,_⟩:=x;rw[y] at e;cases e
     | ins C dx fs=>let⟨_,_,_,e,_⟩:=x;rw[y] at e;cases e
     | own w=>let⟨_,e⟩:=x;rw[y] at e;cases e
     | xd fs=>let⟨_,⟨_,_,_,e,_⟩,_⟩:=x;rw[y] at e;cases e
     | rng lo hi=>let⟨_,_,_,e⟩:=x;rw[y] at e;cases e
     | frz ob u=>let⟨e,_⟩:=x;rw[y] at e;cases e
     | tbl ps=>have e:s.heap.get? D=some _:=x;rw[y] at e;cases e
     | met f w=>have e:s.heap.get? D=some _:=x;rw[y] at e;cases e
     | ext φ=>let⟨_,⟨_,e⟩,_⟩:=x;rw[y] at e;cases e
   have nL:D≠X.env.locals:=λ e=>by rw[e,I.free] at z;cases z
   have nb:X.base.get? D=none:=by
    cases y:X.base.get? D with
    | none=>rfl
    | some u=>have:=(I.bs D u y).2;rw[z] at this;cases this
   exact absurd (hD (D,ob) (gF nL nb eo)) (Nat.lt_irrefl _)
 refine KasFin.intro F' N' (.head λ q hq=>Ql (hD q hq)) λ h'' c F'' N''=>?_;have nD:=N'' (D,listOf _ c) (.head _);have vv:∀b o,b≠X.env.locals->s.heap.get? b=some o->h''.get? b=some o:=λ b o hb e=>by
  cases z:X.base.get? b with
  | some u=>
   have:=I.bk b u z;rw[e] at this;cases this;exact F''.keep b _ z
  | none=>exact(N'' (b,o) (.tail _ (gF hb z e))).1
 have outs:Vals (pm.toList.map λ i=>ys.getD i .non) (pm.toList.map λ i=>its.getD i Value.none):=by
  have:∀l:List Nat,Vals (l.map λ i=>ys.getD i .non) (l.map λ i=>its.getD i Value.none):=λ l=>by
   induction l with
   | nil=>exact .nil
   | cons i l ih=>
    refine .cons ?_ ih
    by_cases hi:i < ys.length
    .let⟨u,e1,r1⟩:=rvs.get (i:=i) (x:=ys[i]) (by simp[hi]);erw[List.getD,e1,Rm,QG hi];exact r1
    .have h1:ys[i]?=none:=Rb.mpr 'o';have h2:its[i]?=none:=Rb.mpr 'o';erw[List.getD,h1,h2,Option.getD_none];rfl
  exact this _
 have sz:(pm.toList.map λ i=>ys.getD i .non).length<=sizeLine:=by
  rw[Qi,Array.length_toList];exact QC xM (by rw[RN];decide)
 have hL:=I.lt;have Of:∀b u,H b=some u->b≠X.env.locals:=λ b u e z=>by rw[z,I.free] at e;cases e
 have hok:iG X.prog X.w (upd H D (.lst (pm.toList.map λ i=>ys.getD i .non))) h'':=λ b u e=>by
  by_cases hb:b=D
  .subst hb;rw[aJ] at e;cases e;exact⟨sz,_,c,outs,nD.1⟩
  .rw[aq hb] at e;exact(I.hok b u e).stay (λ c' v hc q=>vv c' v (by
    rcases hc with z | z
    .rw[z];exact Of b u e
    .exact Of c' _ z) q) (λ c' q=>by rw[aq (au q IQ)];exact q) λ c' xs q=>by rw[aq (au q IQ)];exact q
 have OU:∀b o,s.heap.get? b=some o->b≠X.env.locals->X.base.get? b=none->b≠D:=λ b o e n1 n2=>Ql (hD (b,o) (gF n1 n2 e));have I2:Inv X aa Y (upd H D (.lst (pm.toList.map λ i=>ys.getD i .non))) {s with heap:=h'',toks:=s.toks}:=by
  refine I.step (g':=s.gens) (d':=s.drawn) (ch:=[]) (λ _ z=>nomatch z) (λ b o n1 _ _ e _=>vv b o n1 e) (λ b o n1 _ _ e _=>⟨o.slots,vv b o n1 e⟩) (λ b o _ e n=>?_) (λ b o _ e=>?_)
   (λ b xs e=>by rw[aq (au e IQ)];exact e) (λ b o u e=>by rw[aq (au e IQ)];exact e) (λ b ps e=>⟨#[],by rw[aq (au e IQ),e];simp⟩) (λ m' hm=>?_) hok I.bare
  .rw[aq ?_]
   .exact n
   .rintro rfl
    by_cases h1:b=X.env.locals
    .exact nD.2.1 h1
    .cases h2:X.base.get? b with
     | some u=>rw[nD.2.2] at h2;cases h2
     | none=>exact OU b o e h1 h2 rfl
  .by_cases h1:b=X.env.locals
   .subst h1;let⟨o',_,_,e',_⟩:=F''.ns;exact⟨o',e'⟩
   .exact⟨o,vv b o h1 e⟩
  .have:=hm.eq_nsMap.trans F.ns.eq_nsMap.symm;rw[this];exact F''.ns
 exact⟨.ref D,_,I2,rfl,q D IQ⟩
theorem qd:bB X (.builtin "sorted") (λ xs H Q=>∃(p:Addr) (ys:List V) (bA:List (List Int)) (k:Nat) (pm:Array Nat),xs=[.ref p]/\gE X.K H p ys/\Paired (Er X.K H) ys bA/\(∀t∈bA,t.length=k+1)/\2<=ys.length/\ys.length < 64/\
  eZ ys.length (λ i j=>HT.lexLt (bA.getD i []) (bA.getD j [])) (kas_sort ys.length)=some pm/\pm.size<=64/\∀l,H l=none->Q (.ref l) (upd H l (.lst (pm.toList.map λ i=>ys.getD i .non)))):=by
 intro aa s Y H xs us Q I rv h;let⟨p,ys,bA,k,pm,rfl,hq,hp,hk,h2,h64,hr,xM,q⟩:=h;let⟨u,rfl,rx⟩:=vals1 rv;cases rx;refine qc I hq h2 h64 hr xM q λ its h' G rvs kept fin=>?_;have hlen:=rvs.length;have mP:∀{a:Addr} {ns:List Int},dI X.K H a (ns.map V.int)->∃its':List Value,IntsAre its' ns/\∃o n,h'.get? a=some o/\o.cls=.type "tuple"/\o.data=.seq its'.toArray n:=λ {a ns} ht=>by
  let⟨its',rv',⟨o,e1,e2,n,e3⟩,_⟩:=I.tuple ht;have na:a≠X.env.locals:=by
   rintro rfl;let⟨m',⟨o',es,ep,e',d',_⟩,_⟩:=I.loc;rw[e'] at e1;cases e1;rw[d'] at e3;cases e3
  exact⟨its',intsAre_of rv',o,n,kept a o na e1,e2,e3⟩
 have firsts:∃fs:List Value,KatTups h' its fs/\fs.length=its.length/\∀v∈fs,∃i t,v=.int i t:=by
  clear fin hr q h2 h64 hlen hq
  induction hp generalizing its with
  | nil=>cases rvs;exact⟨[],.nil,rfl,by simp⟩
  | @cons v ns ys bA hv ht ih=>
   cases rvs with
   | cons r rr=>
    let⟨fs,f1,f2,f3⟩:=ih (λ t ht=>hk t (Qj _ ht)) _ rr;let⟨a,rfl,hs⟩:=hv;cases r;let⟨its',hi,o,n,e1,e2,e3⟩:=mP hs;have hl:=hk ns Qu;cases hi with
    | nil=>simp at hl
    | cons c t hi'=>
     exact⟨.int c t::fs,.cons e1 e2 e3 rfl f1,by simp[f2],λ v hv=>(Qp.mp hv).elim (λ e=>⟨c,t,e⟩) (f3 v)⟩
 let⟨fs,f1,f2,f3⟩:=firsts;refine kat_kind (s:={s with heap:=h'}) (T:=.type "int") f1 'o' (λ v hv=>?_) rfl ?_
 .let⟨i,t,rfl⟩:=f3 v hv;exact Looks.now
 refine fin _ λ i j C hi hj _ hc=>?_;have item:∀i,i < its.length->∃a ns,its.getD i Value.none=.ref a/\bA.getD i []=ns/\ns.length=k+1/\dI X.K H a (ns.map V.int):=λ i hi=>by
  have hy:i < ys.length:=by rw[hlen];exact hi
  let⟨u,e1,r1⟩:=rvs.get (i:=i) (x:=ys[i]) (by simp[hy]);have:∀{ys:List V} {bA:List (List Int)} {i:Nat} {y:V},Paired (Er X.K H) ys bA->ys[i]?=some y->∃t,bA[i]?=some t/\Er X.K H y t:=by
   intro ys bA i y hp
   induction hp generalizing i with
   | nil=>intro e;simp at e
   | @cons a b l1 l2 h t ih=>
    intro e;cases i with
    | zero=>simp at e;subst e;exact⟨_,rfl,h⟩
    | succ i=>simpa using ih (by simpa using e)
  let⟨t,e2,a,e3,hs⟩:=this hp (by simp[hy]:ys[i]?=some ys[i]);rw[e3] at r1;cases r1;exact⟨a,t,by simp[e1],by simp[e2],hk t (QX e2),hs⟩
 let⟨a,ns,x1,x2,x3,x4⟩:=item i hi;let⟨b,ms,y1,y2,y3,y4⟩:=item j hj;let⟨itsA,ia,oa,na,ea1,ea2,ea3⟩:=mP x4;let⟨itsB,ib,ob,nb,eb1,eb2,eb3⟩:=mP y4;show wpAny _ _ (keyLt' (tuples' true) (its.getD i Value.none) (its.getD j Value.none)) C (λ _ _=>False) _;rw[x1,y1];rw[x2,y2] at hc;refine kat_lt (s:={s with heap:=h'}) ea1 ea3 eb1 eb3 (sj ia ib 'o' ?_ hc);have l1:=ia.length;have l2:=ib.length;simp;omega
def LK(K:PySem.W.Frag)(H:Hp)(v:V)(ns:List Int):Prop:=∃a zs,v=.ref a/\dI K H a (ns.map V.int++zs)
theorem uA{xs ys:List V}:∀{us:List Value},Vals (xs++ys) us->∃v1 v2,us=v1++v2/\Vals xs v1/\Vals ys v2:=by
 induction xs with
 | nil=>intro us h;exact⟨[],us,rfl,.nil,h⟩
 | cons x xs ih=>
  intro us h;cases h with
  | cons r t=>
   let⟨v1,v2,rfl,h1,h2⟩:=ih t;exact⟨_::v1,v2,rfl,.cons r h1,h2⟩
theorem oX{prog:Program}{w:World}{A:Around}{Q:Bool->Shared->Prop}{fin:Bool}{r r':List Value}:∀{us ws:List Value} {ns ms:List Int} {i:Nat},IntsAre us ns->IntsAre ws ms->ns.length=ms.length->ns≠ms->Q (HT.lexLt ns ms) s->KatLex prog w A true fin Q ((us++r).zip (ws++r')) i s
 | _,_,_,_,i,.nil,.nil,_,hf,q=>absurd rfl hf
 | _,_,_,_,i,.nil,.cons _ _ _,hl,_,_=>by simp at hl
 | _,_,_,_,i,.cons _ _ _,.nil,hl,_,_=>by simp at hl
 | _,_,_,_,i,.cons a t hu,.cons c u hw,hl,hf,q=>by
  rw[cons_append,cons_append,zip_cons_cons];refine kat_cons (wpAny_eqBool_int ?_);rw[HT.gq] at q
  by_cases e:a=c
  .have:(a==c)=true:=by simpa using e
   rw[this];rw[Qs e] at q;exact kat_yes (oX hu hw (by simpa using hl) (λ z=>hf (by rw[e,z])) q)
  .have:(a==c)=false:=by simpa using e
   rw[this];rw[Qz e] at q;refine kat_no ?_;cases hb:(true&&i==0) with
   | true=>exact oneLt_int q
   | false=>exact kat_one _ _ (lt_int q)
theorem qe:bB X (.builtin "sorted") (λ xs H Q=>∃(p:Addr) (ys:List V) (bA:List (List Int)) (k:Nat) (pm:Array Nat),xs=[.ref p]/\gE X.K H p ys/\Paired (LK X.K H) ys bA/\(∀t∈bA,t.length=k+1)/\bA.Nodup/\2<=ys.length/\ys.length < 64/\
  eZ ys.length (λ i j=>HT.lexLt (bA.getD i []) (bA.getD j [])) (kas_sort ys.length)=some pm/\pm.size<=64/\∀l,H l=none->Q (.ref l) (upd H l (.lst (pm.toList.map λ i=>ys.getD i .non)))):=by
 intro aa s Y H xs us Q I rv h;let⟨p,ys,bA,k,pm,rfl,hq,hp,hk,hnd,h2,h64,hr,xM,q⟩:=h;let⟨u,rfl,rx⟩:=vals1 rv;cases rx;refine qc I hq h2 h64 hr xM q λ its h' G rvs kept fin=>?_;have hlen:=rvs.length;have mP:∀{a:Addr} {ns:List Int} {zs:List V},dI X.K H a (ns.map V.int++zs)->∃its' r:List Value,IntsAre its' ns/\∃o n,h'.get? a=some o/\o.cls=.type "tuple"/\o.data=.seq (its'++r).toArray n:=λ {a ns zs} ht=>by
  let⟨its',rv',⟨o,e1,e2,n,e3⟩,_⟩:=I.tuple ht;have na:a≠X.env.locals:=by
   rintro rfl;let⟨m',⟨o',es,ep,e',d',_⟩,_⟩:=I.loc;rw[e'] at e1;cases e1;rw[d'] at e3;cases e3
  let⟨v1,v2,rfl,r1,r2⟩:=uA rv';exact⟨v1,v2,intsAre_of r1,o,n,kept a o na e1,e2,e3⟩
 have firsts:∃fs:List Value,KatTups h' its fs/\fs.length=its.length/\∀v∈fs,∃i t,v=.int i t:=by
  clear fin hr q h2 h64 hlen hq hnd
  induction hp generalizing its with
  | nil=>cases rvs;exact⟨[],.nil,rfl,by simp⟩
  | @cons v ns ys bA hv ht ih=>
   cases rvs with
   | cons r rr=>
    let⟨fs,f1,f2,f3⟩:=ih (λ t ht=>hk t (Qj _ ht)) _ rr;let⟨a,zs,rfl,hs⟩:=hv;cases r;let⟨its',r',hi,o,n,e1,e2,e3⟩:=mP hs;have hl:=hk ns Qu;cases hi with
    | nil=>simp at hl
    | cons c t hi'=>
     exact⟨.int c t::fs,.cons e1 e2 e3 rfl f1,by simp[f2],λ v hv=>(Qp.mp hv).elim (λ e=>⟨c,t,e⟩) (f3 v)⟩
 let⟨fs,f1,f2,f3⟩:=firsts;refine kat_kind (s:={s with heap:=h'}) (T:=.type "int") f1 'o' (λ v hv=>?_) rfl ?_
 .let⟨i,t,rfl⟩:=f3 v hv;exact Looks.now
 refine fin _ λ i j C hi hj hij hc=>?_;have item:∀i,i < its.length->∃a ns zs,its.getD i Value.none=.ref a/\bA[i]?=some ns/\ns.length=k+1/\dI X.K H a (ns.map V.int++zs):=λ i hi=>by
  have hy:i < ys.length:=by rw[hlen];exact hi
  let⟨u,e1,r1⟩:=rvs.get (i:=i) (x:=ys[i]) (by simp[hy]);have:∀{ys:List V} {bA:List (List Int)} {i:Nat} {y:V},Paired (LK X.K H) ys bA->ys[i]?=some y->∃t,bA[i]?=some t/\LK X.K H y t:=by
   intro ys bA i y hp
   induction hp generalizing i with
   | nil=>intro e;simp at e
   | @cons a b l1 l2 h t ih=>
    intro e;cases i with
    | zero=>simp at e;subst e;exact⟨_,rfl,h⟩
    | succ i=>simpa using ih (by simpa using e)
  let⟨t,e2,a,zs,e3,hs⟩:=this hp (by simp[hy]:ys[i]?=some ys[i]);rw[e3] at r1;cases r1;exact⟨a,t,zs,by simp[e1],e2,hk t (QX e2),hs⟩
 let⟨a,ns,zs,x1,x2,x3,x4⟩:=item i hi;let⟨b,ms,zs',y1,y2,y3,y4⟩:=item j hj;let⟨itsA,rA,ia,oa,na,ea1,ea2,ea3⟩:=mP x4;let⟨itsB,rB,ib,ob,nb,eb1,eb2,eb3⟩:=mP y4;show wpAny _ _ (keyLt' (tuples' true) (its.getD i Value.none) (its.getD j Value.none)) C (λ _ _=>False) _;rw[x1,y1];erw[RD,x2,y2,Rm] at hc;refine kat_lt (s:={s with heap:=h'}) ea1 ea3 eb1 eb3 (oX ia ib 'o' (λ z=>hij ?_) hc);subst z;let⟨q1,q2⟩:=Qd.mp x2;let⟨q3,q4⟩:=Qd.mp y2;exact(getElem_inj hnd).mp (q2.trans q4.symm)
theorem qf:bB X (.builtin "sorted") (λ xs H Q=>∃(p:Addr) (ns:List Int) (pm:Array Nat),xs=[.ref p]/\gE X.K H p (ns.map V.int)/\2<=ns.length/\ns.length < 64/\
  eZ ns.length (λ i j=>decide (ns.getD i 0 < ns.getD j 0)) (kas_sort ns.length)=some pm/\pm.size<=64/\∀l,H l=none->Q (.ref l) (upd H l (.lst (pm.toList.map λ i=>(ns.map V.int).getD i .non)))):=by
 intro aa s Y H xs us Q I rv h;let⟨p,ns,pm,rfl,hq,h2,h64,hr,xM,q⟩:=h;let⟨u,rfl,rx⟩:=vals1 rv;cases rx;refine qc I hq (by simpa using h2) (by simpa using h64) (zA:=λ i j=>decide (ns.getD i 0 < ns.getD j 0)) (by simpa using hr) xM q λ its h' G rvs kept fin=>?_;have hi:=intsAre_of rvs;have len:ns.length=its.length:=by have:=rvs.length;simpa using this
 have item:∀i,i < its.length->∃t,its.getD i Value.none=.int (ns.getD i 0) t:=λ i hi=>by
  let⟨u,e1,r1⟩:=rvs.get (i:=i) (x:=.int (ns.getD i 0)) (by rw[<-len] at hi;simp[hi]);let⟨t,rfl⟩:=r1;exact⟨t,by simp[List.getD,e1]⟩
 refine kas_kind (T:=.type "int") 'o' (λ v hv=>?_) rfl rfl (fin _ λ i j C hi hj _ hc=>?_)
 .let⟨i,hi,e⟩:=Rz hv;let⟨t,e2⟩:=item i hi;have:v=.int (ns.getD i 0) t:=by rw[<-e2,<-e];simp[List.getD,hi]
  rw[this];exact Looks.now
 .let⟨t,e1⟩:=item i hi;let⟨u,e2⟩:=item j hj;rw[e1,e2,keyLt'_oneType];exact oneLt_int hc
end
end D
end
section
namespace D
open PySem PySem.Spec PyProof.Rows L2 List
variable{X:L2.Cx}
theorem iw:bB X (.builtin "sorted") (λ xs H Q=>∃(p:Addr) (y:V),xs=[.ref p]/\gE X.K H p [y]/\∀l,H l=none->Q (.ref l) (upd H l (.lst [y]))):=by
 intro aa s Y H xs us Q I rv h;let⟨p,y,rfl,hq,q⟩:=h;let⟨u,rfl,rx⟩:=vals1 rv;cases rx;let⟨its,rvs,pl,_⟩:=I.list hq;let⟨v,rfl,ry⟩:=vals1 rvs;refine lA (v:=v) pl.isList λ D h' n' hD hg hk=>?_;exact⟨.ref D,_,I.laid (t':=s.toks) (o:=.lst [y]) hk hD ⟨by simp;decide +kernel,[v],n',.cons ry .nil,hg⟩,rfl,q _ (I.hok.fresh hD)⟩
theorem qg:bB X (.builtin "sorted") (λ xs H Q=>∃(p:Addr),xs=[.ref p]/\gE X.K H p []/\∀l,H l=none->Q (.ref l) (upd H l (.lst []))):=by
 intro aa s Y H xs us Q I rv h;let⟨p,rfl,hq,q⟩:=h;let⟨u,rfl,rx⟩:=vals1 rv;cases rx;let⟨its,rvs,pl,_⟩:=I.list hq;cases rvs;refine j5 pl.isList λ D h' n' hD hg hk=>?_;exact⟨.ref D,_,I.laid (t':=s.toks) (o:=.lst []) hk hD ⟨by simp,[],n',.nil,hg⟩,rfl,q _ (I.hok.fresh hD)⟩
theorem Kh(hh:X.A.handled=none):bB X (.builtin "sum") (λ xs H Q=>∃(p:Addr) (ns:List Int),xs=[.ref p]/\gE X.K H p (ns.map V.int)/\Q (.int ns.sum) H):=by
 intro aa s Y H xs us Q I rv h;let⟨p,ns,rfl,hq,q⟩:=h;let⟨u,rfl,rx⟩:=vals1 rv;cases rx;let⟨its,rvs,pl,_⟩:=I.list hq;have hi:=intsAre_of rvs;let⟨xs,hx⟩:=hi.allInts.items;have hn:(numsOf its.toArray.toList)=ns:=hi.numsOf;rw[hx,nums_intItems] at hn;have hl:=pl.isList;rw[hx] at hl;refine sum_intListG hh hl λ h' tk t' hk=>?_;have e:preSum (numAt xs) xs.size=ns.sum:=by rw[preSum_eq,take_of_length_le 's',hn]
 rw[e];exact⟨.int ns.sum,H,I.kept hk,⟨t',rfl⟩,q⟩
end D
end
section
namespace L2
open PySem PySem.Spec PyProof.Rows List
section
variable{X:Cx}
structure GU(K:PySem.W.Frag)(C:Addr):Prop where
 cls:yt K C
 ha:PySem.W.findIn K (.ref C) "__class__"=@(some (.builtin "object.__class__"))
 hn:PySem.W.specialIn K (.builtin "object.__class__") "__get__"=@(some (.builtin "getset_descriptor.__get__"))
 htk:PySem.W.takesIn K (.builtin "object.__class__")=some true
 hm:PySem.W.mroIn K C (.type "object")=some true
end
section
variable{X:Cx}
theorem GV{h:Heap}{a:Addr}{its:Array Value}(p:PlainL h a its):∃n sl,h.get? a=some {cls:=.type "list",dict:=none,data:=.seq its n,slots:=sl}:=by
 let⟨o,n,e,h1,h2,h3⟩:=p;refine⟨n,o.slots,?_⟩;rw[e];cases o;subst h1 h2 h3;rfl
def GW(K:PySem.W.Frag):V->List V->Hp->VK->Prop:=λ x vs H Q=>∃l xs y j,x=.ref l/\vs=[y]/\gE K H l xs/\mh y=true/\xs.all mh=true/\j < 1000000/\(∃z,xs[j]?=some z/\yY z y=true)/\(∀m z,m < j->xs[m]?=some z->yY z y=false)/\Q (.int (j:Nat)) H
theorem zN:JG X "list.index" (GW X.K):=by
 intro aa s Y H x vs v us Q I rx rv h;let⟨l,xs,y,j,rfl,rfl,hH,fy,fx,h6,⟨z0,hz0,hz1⟩,hm,q⟩:=h;cases rx;let⟨u,rfl,ru⟩:=rv.one;let⟨its,r,pl,hz⟩:=I.list hH;let⟨n,sl,e⟩:=GV pl;have at_:∀(i:Nat) (x:V),xs[i]?=some x->∃w,its[i]?=some w/\LC y w=yY x y:=λ i x hx=>by
  let⟨w,hw,rw_⟩:=r.get hx;exact⟨w,hw,yZ rw_ (Qx.mp fx x (QX hx))⟩
 let⟨w0,hw0,e0⟩:=at_ j z0 hz0;let⟨hj,ej⟩:=Qd.mp hw0;have len:=r.length;refine call_meets F.slot_list_index ⟨_,e,rfl⟩ F.entry_list_index (F.args_list_index_2 _ _) (SeqAt.list_indexAt l its.toArray n none sl u (LC y) j (by simpa using hj) 'o' (by simp[ej,e0,hz1]) (λ m hm' hlt=>?_)) ⟨e,λ w hw=>rH ru fy r fx w (by simpa using hw),?_⟩
 .have Og:m < xs.length:=by rw[len];simpa using hm'
  let⟨w,hw,ew⟩:=at_ m xs[m] (by simp[Og]);have:its.toArray[m]=w:=by
   let⟨_,q⟩:=Qd.mp hw;simpa using q
  rw[this,ew];exact hm m xs[m] hlt (by simp[Og])
 .exact⟨.int _,H,I.tok _,⟨_,rfl⟩,q⟩
end
end L2
end
section
namespace D
open PySem PySem.Spec PyProof.Rows L2 List
variable{C:D.Cx}{H H' H0:Hp}{K:PySem.W.Frag}{P:Program}{Q:Value->Shared->Prop}{X:L2.Cx}{args elts es ifs:List Expr}{b e elt iter o target tg:Expr}{c:Str}{cl:Cl}{d da:E}{di ds:Es}{dx z:Addr}{env:Env}{f:Expr->Option E}{gens:List Comprehension}{gs:List (Str×V)}{h h':Heap}{i n:Nat}{id:String}{it:Value}{ks:List (Bool×Addr×Addr)}{m m':Mem}{p pos pp spos tpos:Pos}{aa:List (Addr×Obj)}{q:Bool×Addr}{qs:List (Bool×Addr)}{rest:G}{s:Shared}{scope:Scope}{st:Stmt}{t:T}{v:V}{vs xs:List V}{w:W}{J J' β0 γ:List Addr}{Z:Loc}{Y:L2.St}
section
variable{X:L2.Cx}
theorem xN{α J:Type}{R:α->J->Prop}{xs:List α}{ys:List J}(h:Paired R xs ys):∀{j:Nat} {y:J},ys[j]?=some y->∃x,xs[j]?=some x/\R x y:=by
 induction h with
 | nil=>intro j y e;simp at e
 | cons r t ih=>
  intro j y e;cases j with
  | zero=>cases e;exact⟨_,rfl,r⟩
  | succ j=>exact ih (by simpa using e)
theorem uB{α J:Type}{R:α->J->Prop}{xs:List α}{ys:List J}(h:Paired R xs ys):∀{j:Nat} {x:α},xs[j]?=some x->∃y,ys[j]?=some y/\R x y:=by
 induction h with
 | nil=>intro j y e;simp at e
 | cons r t ih=>
  intro j y e;cases j with
  | zero=>cases e;exact⟨_,rfl,r⟩
  | succ j=>exact ih (by simpa using e)
theorem vz{ys:List V}{its:List Value}{bA:List (List Int)}(I:Inv X aa Y H s)(rv:Vals ys its)(hp:Paired (Er X.K H) ys bA)(j:Nat)(ns:List Int)(v:Value)(h1:bA[j]?=some ns)(h2:its.toArray[j]?=some v) :
  ∃(a:Addr) (jt:Array Value),v=Value.ref a/\IsTup s.heap a jt/\IntsAre jt.toList ns:=by
 let⟨y,hy,a,rfl,hq⟩:=xN hp h1;let⟨u,hu,ru⟩:=uB rv hy;have e:v=u:=by
  have:its[j]?=some v:=by simpa using h2
  rw[hu] at this;cases this;rfl
 subst e;cases ru;let⟨jt,rj,tj,_⟩:=I.tuple hq;exact⟨a,jt.toArray,rfl,tj,by simpa using intsAre_of rj⟩
theorem zO{prog:Program}{w:World}{vs:List Value}{ns:List Int}(h:IntsAre vs ns):ItemsAre (intKind prog w) ns vs:=by
 induction h with
 | nil=>exact .nil
 | cons a t h ih=>exact .cons (by show Value.isInt a (.int a t)=true;simp[Value.isInt]) ih
def mQ(a:Addr)(n:Nat):HO:=.ext λ h=>∃hs,mC h a n hs
theorem xO{w:World}{a:Addr}(x:∃hs,mC h a n hs):bU P w H h a (mQ a n):=by
 let⟨hs,es,ep,t,e,r⟩:=id x;exact⟨x,⟨_,e⟩,λ h1 h2 ⟨hs1,es1,ep1,t1,e1,r1⟩ k=>⟨hs1,es1,ep1,t1,k _ e1,r1⟩⟩
theorem xP(hh:X.A.handled=none)(hu:X.A.units+64 < cLine):bB X (.type "set") (λ xs H Q=>∃(p:Addr) (ys:List V) (bA:List (List Int)),xs=[.ref p]/\gE X.K H p ys/\Paired (Er X.K H) ys bA/\
  bA.length<=4/\(∀t∈bA,eY t=true)/\bA.Nodup/\∀l,H l=none->Q (.ref l) (upd H l (mQ l bA.length))):=by
 intro aa s Y H xs us Q I rv h;let⟨p,ys,bA,rfl,hq,hp,hz,hok,hnd,q⟩:=h;let⟨u,rfl,rx⟩:=vals1 rv;cases rx;let⟨its,rvs,pl,_⟩:=I.list hq;refine mD (kN:=bA) hh 'o' pl.isList hz (by rw[Qq,<-rvs.length,hp.length]) hok hnd (λ j ks v h1 h2=>?_) λ h' tk hs hL hk=>?_
 .let⟨a,jt,hv,⟨o,ho,hc,n,hd⟩,hi⟩:=vz I rvs hp j ks v h1 h2;exact⟨a,hv,o,jt,n,ho,hc,hd,zO hi⟩
 .have kp:∀b o,s.heap.get? b=some o->h'.get? b=some o:=λ b o e=>hk b o (Qh e) e;exact⟨.ref s.heap.objs.size,_,I.laid (t':=tk) (o:=mQ s.heap.objs.size bA.length) kp (Qk _) (xO ⟨hs,hL⟩),rfl,q _ (I.hok.fresh (Qk _))⟩
theorem xQ:bB X (.builtin "len") (λ xs H Q=>∃(a:Addr) (n:Nat),xs=[.ref a]/\H a=some (mQ a n)/\n<=4/\Q (.int n) H):=by
 intro aa s Y H xs us Q I r h;let⟨a,n,rfl,hq,hz,q⟩:=h;let⟨u,rfl,rx⟩:=vals1 r;cases rx;let⟨⟨hs,es,ep,t,h1,h2,h3,h4,h5,h6⟩,_⟩:=I.hok _ _ hq;subst h5;refine call_len_set h1 ⟨rfl,rfl,rfl⟩ rfl (by unfold SetTable.fits SetTable.fill;rw[h2,h3,h4];simp;omega) 'o' ⟨.int _,H,I.tok _,⟨_,rfl⟩,q⟩
end
section
variable{X:L2.Cx}
def Kl(K:PySem.W.Frag)(te:TE):TE:=fun Y H Q=>te Y H λ x H1=>∃(p:Addr) (ys:List V) (bA:List (List Int)),x=.ref p/\gE K H1 p ys/\Paired (Er K H1) ys bA/\(∀n0,bA.head?=some n0->∀ns∈bA,HT.lexLt ns n0=false)/\Q (ys.head?.getD .non) H1
theorem CK{te:TE}{kpos cpos:Pos}{j:Nat}(hh:X.A.handled=none)(hu:X.A.units+64 < cLine)(hg:Gl X "min")(hm:X.mg "min"=none)(ha:PE X e te)(he:starEach [e] X.env=[(false,eval e X.env)]) :
  PE X (.Call (.Name "min" p) [e] [⟨some "default",.Constant .none j cpos,kpos⟩] pos) (Kl X.K te):=by
 intro aa s Y H Q I h;refine RG (g9 (u:=.builtin "min") I hg hm 'k' ?_ 'k' 'k');refine callWith_builtin_kwB (by rw[he];rfl) rfl ?_;have hp:=ee ha gJ he pos aa s Y H (λ vs H1=>match vs with
  | [x]=>∃(p:Addr) (ys:List V) (bA:List (List Int)),x=.ref p/\gE X.K H1 p ys/\Paired (Er X.K H1) ys bA/\(∀n0,bA.head?=some n0->∀ns∈bA,HT.lexLt ns n0=false)/\Q (ys.head?.getD .non) H1
  | _=>False) I h
 rw[he] at hp ⊢;refine evalArgs_kwB rfl (bY hp λ us s1 hz=>?_);let⟨vs,H1,I1,rv,hz⟩:=hz
 match vs,hz,rv with
 | [x],hz,rv=>
 let⟨a,ys,bA,rfl,hq,hp,hlt,q⟩:=hz;refine bY (B7 yE Ge pos aa s1 Y H1 (λ zs H2=>zs=[.non]/\H2=H1) I1 ⟨rfl,rfl⟩) λ ws s2 hz=>?_;let⟨zs,H2,I2,rz,rfl,rfl⟩:=hz;let⟨u,rfl,rx⟩:=vals1 rv;let⟨z,rfl,rz1⟩:=vals1 rz;cases rx;cases rz1;let⟨its,rvs,pl,_⟩:=I2.list hq;refine nZ (nss:=bA) hh 'o' pl.isList (by rw[Qq,<-rvs.length,hp.length]) hlt (λ j ns v h1 h2=>vz I2 rvs hp j ns v h1 h2) λ h' tk hk=>?_;cases rvs with
 | nil=>exact⟨.non,H2,I2.kept (t':=tk) hk,rfl,q⟩
 | cons r t=>exact⟨_,H2,I2.kept (t':=tk) hk,r,q⟩
end
section
variable{X:L2.Cx}{cl:Cl}{C:D.Cx}{pos:Pos}
theorem zP(bs:List Bool):((List.range bs.length).any λ i=>bs.getD i true)=bs.any _root_.id:=by
 have e:∀(f g:Nat->Bool) (l:List Nat),(∀i∈l,f i=g i)->l.any f=l.any g:=λ f g l h=>by
  induction l with
  | nil=>rfl
  | cons x r ih=>rw[any_cons,any_cons,h x Qu,ih λ i hi=>h i (Qj _ hi)]
 induction bs with
 | nil=>rfl
 | cons b r ih=>
  rw[QB,range_succ_eq_map,any_cons,any_map,any_cons];have:((List.range r.length).any ((λ i=>(b::r).getD i true)∘Nat.succ))=((List.range r.length).any λ i=>r.getD i true):=e _ _ _ λ i _=>by simp
  rw[this,ih];rfl
theorem zQ(hh:X.A.handled=none):bB X (.builtin "any") (λ xs H Q=>∃(p:Addr) (bs:List Bool),xs=[.ref p]/\gE X.K H p (bs.map V.bl)/\Q (.bl (bs.any _root_.id)) H):=by
 intro aa s Y H xs us Q I r h;let⟨p,bs,rfl,hq,q⟩:=h;let⟨u,rfl,rx⟩:=vals1 r;cases rx;let⟨its,rv,pl,hz⟩:=I.list hq;have hl:=pl.isList;have hlt:p < s.heap.objs.size:=by let⟨_,e,_⟩:=hl;exact Qh e
 have len:=rv.length;rw[Qi] at len;refine call_any_walk (RP hl ?_);refine⟨_,_,_,_,_,_,(λ i=>bs.getD i true),rfl,Walks.list (A:=X.A.in1) hh s.heap.objs.size p (Ql hlt) its.toArray,⟨⟨_,Qm _ rfl,rfl,rfl⟩,hl.push _⟩,?_,?_⟩
 .intro i v s' Q' E' hv hq';have hv:its[i]?=some v:=by simpa using hv
  have hi:i < its.length:=(Qd.mp hv).1;have hb:i < bs.length:=by omega
  have e:(bs.map V.bl)[i]?=some (V.bl (bs[i])):=by simp[hb]
  let⟨u,hu,ru⟩:=rv.get e;rw[hv] at hu;cases hu;cases ru;have:bs.getD i true=bs[i]:=by simp[List.getD,hb]
  dsimp only at hq';rw[this] at hq';exact Ra hq'
 .intro h' tk hk;have e:((List.range its.toArray.size).any λ i=>bs.getD i true)=bs.any _root_.id:=by
   rw[Qq,<-len];exact zP bs
  rw[e];refine⟨.bl _,H,I.kept (t':=tk) λ b o eb=>hk b o (λ z=>?_) (Qc _ eb),rfl,q⟩;rw[QY] at z;exact Ql (Qh eb) z
def zR:B->Value
 | .len=>.builtin "len" | .abs=>.builtin "abs" | .max=>.builtin "max" | .min=>.builtin "min" | .divmod=>.builtin "divmod" | .all=>.builtin "all" | .any=>.builtin "any"
 | .list=>.type "list" | .tuple=>.type "tuple" | .int=>.type "int" | .sorted=>.builtin "sorted" | .sum=>.builtin "sum" | .repr=>.builtin "repr" | .str=>.type "str" | .dum=>.builtin "repr"
theorem jx(h:aW K J H [w] vs):∃v,vs=[v]/\RW K J H w v:=by
 cases h with
 | cons q t=>cases t;exact⟨_,rfl,q⟩
theorem GX{w':W}(h:aW K J H [w,w'] vs):∃v v',vs=[v,v']/\RW K J H w v/\RW K J H w' v':=by
 cases h with
 | cons q t=>let⟨v',rfl,q'⟩:=jx t;exact⟨_,_,rfl,q,q'⟩
theorem aW.pick{ws:List W}(t:aW K J H ws vs):∀(is:List Nat),aW K J H (is.map λ i=>ws.getD i .non) (is.map λ i=>vs.getD i .non)
 | []=>.nil
 | i::is=>by
  refine .cons ?_ (t.pick is);dsimp only
  by_cases h:i < ws.length
  .let⟨v,e,q⟩:=t.get (i:=i) (w:=ws[i]) (by simp[h]);have h1:ws.getD i .non=ws[i]:=by simp[List.getD,h]
   have h2:vs.getD i .non=v:=by simp[List.getD,e]
   rw[h1,h2];exact q
  .have h':¬i < vs.length:=by rw[<-t.length];exact h
   have h1:ws.getD i .non=.non:=by simp[List.getD,getElem?_eq_none (Nat.le_of_not_lt h)]
   have h2:vs.getD i .non=.non:=by simp[List.getD,getElem?_eq_none (Nat.le_of_not_lt h')]
   rw[h1,h2];exact .non
theorem aW.tups:∀{ws:List W} {vs:List V} {bA:List (List Int)},aW K J H ws vs->dw gK ws=some bA->Paired (Er K H) vs bA
 | _,_,_,.nil,h=>by cases h;exact .nil
 | _,_,_,.cons (w:=w) q t,h=>by
  erw[dw] at h;split at h
  .cases h
  .ext d h1;split at h
   .cases h
   .ext ds h2;cases h;refine .cons ?_ (t.tups h2);cases w with
    | tup xs=>
     cases q with
     | tup hs t'=>
      have:=t'.cU h1;subst this;exact⟨_,rfl,hs⟩
    | _=>cases h1
theorem aW.Km{ws:List W}:∀{vs:List V} {bA:List (List Int)},aW K J H ws vs->dw zC ws=some bA->Paired (LK K H) vs bA/\∀t∈bA,t.length=2+1:=by
 induction ws with
 | nil=>
  intro vs bA t h;cases t;cases h;exact⟨.nil,by simp⟩
 | cons w ws ih=>
  intro vs bA t h;cases t with
  | cons q t=>
   erw[dw] at h;split at h
   .cases h
   .ext d h1;split at h
    .cases h
    .ext ds h2;cases h;let⟨p1,p2⟩:=ih t h2;unfold zC at h1;split at h1
     .cases h1;cases q with
      | tup hs t'=>
       cases t' with
       | cons q1 t'=>cases t' with
        | cons q2 t'=>cases t' with
         | cons q3 t'=>
          cases q1;cases q2;cases q3;exact⟨.cons ⟨_,_,rfl,hs⟩ p1,λ t ht=>(Qp.mp ht).elim (λ e=>by rw[e];rfl) (p2 t)⟩
     .cases h1
set_option maxHeartbeats 2000000 in
theorem zS(hu:UN X cl)(hc:X.calm=true)(hh:X.A.handled=none)(b:B):bB X (zR b) (OT X cl (aZ b)):=by
 intro aa s Y H xs us Q I rv h;let⟨J,m,ws,w,m',r,q,e,k⟩:=h;unfold aZ at e;split at e
 .split at e
  .
   split at e
   .split at e
    .ext hl;cases e;let⟨v,rfl,qv⟩:=jx q;cases qv;exact pT aa s Y H _ us Q I rv ⟨_,rfl,QC hl cN,k _ _ _ Ext.refl r (.int _)⟩
    .cases e
   .split at e
    .ext ys e1;cases e;let⟨v,rfl,qv⟩:=jx q;let⟨a,vs,rfl,hs,t⟩:=r.aM qv e1;exact pR aa s Y H _ us Q I rv ⟨_,_,rfl,hs,k _ _ _ Ext.refl r (by rw[<-t.length];exact .int _)⟩
    .cases e
  .cases e
 .split at e
  .
   cases e;let⟨v,rfl,qv⟩:=jx q;cases qv;exact yP aa s Y H _ us Q I rv ⟨_,rfl,k _ _ _ Ext.refl r (.int _)⟩
  .cases e
 .split at e
  .cases e;let⟨v,v',rfl,qv,qv'⟩:=GX q;cases qv;cases qv';exact wX hc aa s Y H _ us Q I rv ⟨_,_,rfl,k _ _ _ Ext.refl r (.int _)⟩
  .cases e
 .split at e
  .cases e;let⟨v,v',rfl,qv,qv'⟩:=GX q;cases qv;cases qv';exact wY hc aa s Y H _ us Q I rv ⟨_,_,rfl,k _ _ _ Ext.refl r (.int _)⟩
  .cases e
 .split at e
  .split at e
   .ext hd;cases e;let⟨v,v',rfl,qv,qv'⟩:=GX q;cases qv;cases qv';refine q9 aa s Y H _ us Q I rv ⟨_,_,rfl,hd,λ p hp=>?_⟩;let⟨x2,r2⟩:=r.qb hp [.int _,.int _];exact k _ _ _ x2 r2 (.tup (.of aJ) %[.int _,|.int _])
   .cases e
  .cases e
 .split at e
  .
   split at e
   .ext ys e1;split at e
    .ext bs e2;cases e;let⟨v,rfl,qv⟩:=jx q;let⟨a,vs,rfl,hs,t⟩:=r.getL qv e1;have z:=t.bools e2;subst z;exact zh hh aa s Y H _ us Q I rv ⟨_,_,rfl,hs,k _ _ _ Ext.refl r (.bl _)⟩
    .cases e
   .cases e
  .cases e
 .split at e
  .split at e
   .ext ys e1;split at e
    .ext bs e2;cases e;let⟨v,rfl,qv⟩:=jx q;let⟨a,vs,rfl,hs,t⟩:=r.getL qv e1;have z:=t.bools e2;subst z;exact zQ hh aa s Y H _ us Q I rv ⟨_,_,rfl,hs,k _ _ _ Ext.refl r (.bl _)⟩
    .cases e
   .cases e
  .cases e
 .split at e
  .
   split at e
   .ext ys e1;cases e;let⟨v,rfl,qv⟩:=jx q;let⟨a,vs,rfl,hs,t⟩:=r.aM qv e1;refine pU aa s Y H _ us Q I rv ⟨_,_,rfl,hs,λ p hp=>?_⟩;let⟨x2,r2⟩:=r.newL hp t;exact k _ _ _ x2 r2 (.ref (r.last p))
   .cases e
  .cases e
 .split at e
  .split at e
   .ext ys e1;cases e;let⟨v,rfl,qv⟩:=jx q;let⟨a,vs,rfl,hs,t⟩:=r.aM qv e1;refine nR aa s Y H _ us Q I rv ⟨_,vs,rfl,?_⟩;rcases hs with hs | hs
    .refine .inl ⟨hs,λ p hp=>?_⟩;let⟨x2,r2⟩:=r.qb hp vs;exact k _ _ _ x2 r2 (.tup (.of aJ) (t.mono r x2))
    .exact .inr ⟨hs,k _ _ _ Ext.refl r (.tup hs t)⟩
   .cases e
  .cases e
 .split at e
  .cases e;let⟨v,rfl,qv⟩:=jx q;cases qv;exact oz aa s Y H _ us Q I rv (.inl ⟨_,rfl,k _ _ _ Ext.refl r (.int _)⟩)
  .cases e;let⟨v,rfl,qv⟩:=jx q;cases qv;exact oz aa s Y H _ us Q I rv (.inr ⟨_,rfl,k _ _ _ Ext.refl r (.int _)⟩)
  .cases e
 .split at e
  .
   split at e
   .ext ys e1;split at e
    .ext zs e3;cases e;let⟨v,rfl,qv⟩:=jx q;let⟨a,vs,rfl,hs,t⟩:=r.getL qv e1;have hl:=t.length;unfold kP at e3;split at e3
     .ext ns e2;have z:=t.cU e2;unfold sortI at e3;split at e3
      .ext h1;cases e3;cases ys with
       | nil=>
        cases t;refine qg aa s Y H _ us Q I rv ⟨a,rfl,hs,λ p hp=>?_⟩;let⟨x2,r2⟩:=r.newL hp (.nil:aW X.K J H [] []);exact k _ _ _ x2 r2 (.ref (r.last p))
       | cons y0 ys=>
        let⟨y,rfl⟩:=List.length_eq_one_iff.mp (show vs.length=1 by simp at h1 hl;simp[h1] at hl;omega);refine iw aa s Y H _ us Q I rv ⟨a,y,rfl,hs,λ p hp=>?_⟩;let⟨x2,r2⟩:=r.newL hp t;exact k _ _ _ x2 r2 (.ref (r.last p))
      .ext h1;split at e3
       .ext h64;split at e3
        .ext pm e4;split at e3
         .ext xM;cases e3;subst z;have hn:ns.length=ys.length:=by simpa using hl.symm
          refine qf aa s Y H _ us Q I rv ⟨a,ns,pm,rfl,hs,by omega,by omega,e4,xM,λ p hp=>?_⟩;let⟨x2,r2⟩:=r.newL hp (t.pick pm.toList);exact k _ _ _ x2 r2 (.ref (r.last p))
         .cases e3
        .cases e3
       .cases e3
     split at e3
     .ext bA e2;unfold El at e3;split at e3
      .ext h1;cases e3;let⟨y,rfl⟩:=List.length_eq_one_iff.mp (hl.symm.trans h1);refine iw aa s Y H _ us Q I rv ⟨a,y,rfl,hs,λ p hp=>?_⟩;let⟨x2,r2⟩:=r.newL hp t;exact k _ _ _ x2 r2 (.ref (r.last p))
      split at e3
      .ext hz;split at e3
       .ext pm e4;split at e3
        .ext xM;cases e3;refine qd aa s Y H _ us Q I rv ⟨a,vs,bA,(bA.headD []).length - 1,pm,rfl,hs,t.tups e2,λ x hx=>?_,by omega,by omega,by rw[<-hl];exact e4,xM,λ p hp=>?_⟩
         .have:=Qx.mp hz.2.1 x hx;have:=Ro.mp this;omega
         .let⟨x2,r2⟩:=r.newL hp (t.pick pm.toList);exact k _ _ _ x2 r2 (.ref (r.last p))
        .cases e3
       .cases e3
      .cases e3
     .split at e3
      .ext bA e2;unfold rU at e3;split at e3
       .ext h1;cases e3;let⟨y,rfl⟩:=List.length_eq_one_iff.mp (hl.symm.trans h1);refine iw aa s Y H _ us Q I rv ⟨a,y,rfl,hs,λ p hp=>?_⟩;let⟨x2,r2⟩:=r.newL hp t;exact k _ _ _ x2 r2 (.ref (r.last p))
       split at e3
       .ext hz;split at e3
        .ext pm e4;split at e3
         .ext xM;cases e3;refine qe aa s Y H _ us Q I rv ⟨a,vs,bA,2,pm,rfl,hs,(t.Km e2).1,(t.Km e2).2,hz.1,by omega,by omega,by rw[<-hl];exact e4,xM,λ p hp=>?_⟩;let⟨x2,r2⟩:=r.newL hp (t.pick pm.toList);exact k _ _ _ x2 r2 (.ref (r.last p))
         .cases e3
        .cases e3
       .cases e3
      .cases e3
    .cases e
   .cases e
  .cases e
 .cases e
theorem GY{x:Str}{b:B}{a:Expr}(hu:UN X cl)(hc:X.calm=true)(hh:X.A.handled=none)(hb:zR b=.builtin id)(hg:Gl X x)(hm:X.mg x=none)(hv:bootBuiltins x=@(.builtin id))(ha:PA X (a::es) (SA X cl (bQ C ds)))
  (hn:x≠"__name__") (hdb:(x==("__debug__":Str))=false) (he:starEach (a::es) X.env=(false,eval a X.env)::starEach es X.env) (hpl:(backTo pos (starEach es X.env)).any (·.1)=false):PE X (.Call (.Name x p) (a::es) [] pos) (SE X cl (ao C (.blt b ds))):=by
 refine PE.imp (rG (hb▸zS (cl:=cl) hu hc hh b) hg hm hv ha hn hdb he hpl) ?_;rintro Y H Q ⟨J,Z,m,w,m',r,l,e,k⟩;erw[bC] at e;let⟨x,m1,e1,e⟩:=R.ah e;exact⟨J,Z,m,x,m1,r,l,e1,fun β1 H1 v1 x1 r1 q1=>⟨β1,m1,x,w,m',r1,q1,e,fun β2 H2 v2 x2 r2 q2=>k _ _ _ (x1.trans r1 x2) r2 q2⟩⟩
theorem GZ{x:Str}{b:B}{a:Expr}(hu:UN X cl)(hc:X.calm=true)(hh:X.A.handled=none)(hb:zR b=.type id)(hg:Gl X x)(hm:X.mg x=none)(hv:bootBuiltins x=@(.type id))(ha:PA X (a::es) (SA X cl (bQ C ds)))
  (hn:x≠"__name__") (hdb:(x==("__debug__":Str))=false) (he:starEach (a::es) X.env=(false,eval a X.env)::starEach es X.env) (hpl:(backTo pos (starEach es X.env)).any (·.1)=false):PE X (.Call (.Name x p) (a::es) [] pos) (SE X cl (ao C (.blt b ds))):=by
 refine PE.imp (iZ (hb▸zS (cl:=cl) hu hc hh b) hg hm hv ha hn hdb he hpl) ?_;rintro Y H Q ⟨J,Z,m,w,m',r,l,e,k⟩;erw[bC] at e;let⟨x,m1,e1,e⟩:=R.ah e;exact⟨J,Z,m,x,m1,r,l,e1,fun β1 H1 v1 x1 r1 q1=>⟨β1,m1,x,w,m',r1,q1,e,fun β2 H2 v2 x2 r2 q2=>k _ _ _ (x1.trans r1 x2) r2 q2⟩⟩
theorem Rel.CM(r:Rel K cl J m H){p:Addr}(hp:H p=none)(o:HO):Ext J H J (upd H p o)/\Rel K cl J m (upd H p o):=by
 have x:Ext J H J (upd H p o):=⟨⟨[],by simp,by simp⟩,λ h _ _=>by rw[aq (au h hp)];exact h⟩;refine⟨x,r.len,r.nd,λ h1 h2=>?_⟩;have q:=r.obj h1 h2;let⟨u,e,_⟩:=q.ex;exact q.mono r x (aq (au e hp))
theorem zT(n:Nat):aW K J H ((List.range n).map λ i=>W.int (i:Nat)) (L2.upTo n):=by
 unfold L2.upTo;generalize List.range n=l
 induction l with
 | nil=>exact .nil
 | cons a l ih=>exact .cons (.int _) ih
theorem G0{a:Expr}{p2 pos2:Pos}(hh:X.A.handled=none)(hg:Gl X "list")(hm:X.mg "list"=none)(G1:Gl X "range")(hm2:X.mg "range"=none)(ha:PE X a (SE X cl (ao C d)))(he:starEach [a] X.env=[(false,eval a X.env)]) :
  PE X (.Call (.Name "list" p) [.Call (.Name "range" p2) [a] [] pos2] [] pos) (SE X cl (ao C (.lrng d))):=by
 refine PE.imp (iZ (nW hh) hg hm 'k' (ee (iZ zl G1 hm2 'k' (ee ha gJ he) 'k' 'k' he rfl) gJ) 'k' 'k' rfl rfl) ?_;rintro Y H Q ⟨J,Z,m,w,m',r,l,e,k⟩;erw[bV] at e;let⟨x,m1,e1,e⟩:=R.ah e;split at e
 .ext j;split at e
  .ext hj;cases e;refine⟨J,Z,m,.int j,_,r,l,e1,fun β1 H1 v1 x1 r1 q1=>?_⟩;cases q1;refine⟨j,rfl,λ p hp=>?_⟩;let⟨x2,r2⟩:=r1.CM hp (.rng 0 j);refine⟨p,j.toNat,rfl,by rw[aJ,Int.toNat_of_nonneg hj.1],by omega,λ q hq=>?_⟩;let⟨x3,r3⟩:=r2.newL hq (zT j.toNat);exact k _ _ _ ((x1.trans r1 x2).trans r2 x3) r3 (.ref (r2.last q))
  .cases e
 .cases e
def LL:List String:=["int","bool","str","list","tuple","dict","NoneType"]
def SM(X:L2.Cx)(cl:Cl)(name:String):V->List V->Hp->VK->Prop:=λ x xs H Q=>∃J m wx ws w m',Rel X.K cl J m H/\RW X.K J H wx x/\aW X.K J H ws xs/\bJ wx name ws m=.ok w m'/\∀J' H' v,Ext J H J' H'->Rel X.K cl J' m' H'->RW X.K J' H' w v->Q v H'
theorem CN{name:String}(h:p8 name=.lst):¬name="join"/\¬name="index"/\¬name="add"/\¬name="endswith"/\¬name="split":=by
 unfold p8 at h;split at h
 .cases h
 .ext h1;split at h
  .cases h
  .ext h2;exact⟨λ z=>h1 (.inl z),λ z=>h1 (.inr (.inl z)),h2,λ z=>h1 (.inr (.inr (.inl z))),λ z=>h1 (.inr (.inr (.inr z)))⟩
theorem su{o:W}{name:String}{ws:List W}(hn:p8 name=.lst)(hi:¬name="lindex")(e:bJ o name ws m=.ok w m'):∃n ys,o=.ref n/\m[n]?=some (.lst ys)/\iM n ys name ws m=.ok w m':=by
 let⟨h1,h2,h3,h4,h5⟩:=CN hn;unfold bJ at e;split at e
 .split at e
  .ext n _ ys e1;exact⟨_,_,rfl,e1,e⟩
  .erw[i7,h3,QK] at e;cases e
  .cases e
 .erw[vo,h1,h2,h4,h5,QK] at e;cases e
 .rw[Qz hi] at e;cases e
 .cases e
theorem xR:Gh X "list.index" (SM X cl "lindex"):=by
 intro aa s Y H x xs v us Q I rx rv h;let⟨J,m,wx,ws,w,m',r,qx,qs,e,k⟩:=h;have hg:∃ys,D.getL m wx=some ys/\jI ys ws m=.ok w m':=by
  unfold bJ at e;split at e
  .split at e
   .ext n _ ys e1;erw[iM,String.reduceEq,QK,QL] at e;exact⟨ys,by erw[D.getL,e1],e⟩
   .erw[i7,String.reduceEq,QK] at e;cases e
   .cases e
  .erw[vo,String.reduceEq,QK] at e;cases e
  .erw[QL] at e;exact⟨_,rfl,e⟩
  .cases e
 clear e;let⟨ys,hy,e⟩:=hg;let⟨a,vs,rfl,hq,t⟩:=r.getL qx hy;unfold jI at e;split at e
 .split at e
  .ext i _ ns e1;split at e
   .ext hl;cases e;have z:=t.cU e1;subst z;let⟨v1,rfl,q1⟩:=jx qs;cases q1;refine zN aa s Y H _ _ v us Q I rx rv ⟨_,_,_,ns.idxOf i,rfl,rfl,hq,rfl,?_,?_,⟨.int i,?_,?_⟩,λ j z hj hz=>?_,?_⟩
    .rw[all_map];exact Qx.mpr λ _ _=>rfl
    .have:=hl.1;have:=hl.2;omega
    .rw[getElem?_map,QG hl.1];have:=getElem_idxOf hl.1;rw[this];rfl
    .simp[yY]
    .rw[getElem?_map,Qe] at hz;let⟨y,hy1,rfl⟩:=hz;let⟨hj2,rfl⟩:=Qd.mp hy1;have:=not_of_lt_findIdx hj;simpa[yY] using this
    .exact k _ _ _ Ext.refl r (.int _)
   .cases e
  .cases e
 .cases e
theorem xS:Gh X "list.append" (SM X cl "append"):=by
 intro aa s Y H x xs v us Q I rx rv h;let⟨J,m,wx,ws,w,m',r,qx,qs,e,k⟩:=h;let⟨n,ys,rfl,e0,e⟩:=su 'd' 'd' e;erw[iM,Qs] at e;unfold iL at e;split at e
 .split at e
  .ext hl;cases e;let⟨a,vs,rfl,hb,ha,t⟩:=r.lst qx e0;let⟨v1,rfl,q1⟩:=jx qs;let⟨x2,r2⟩:=r.CG e0 hb (t.append %[|q1]);exact oH aa s Y H _ _ v us Q I rx rv ⟨_,_,_,rfl,rfl,ha,QA (by rw[<-t.length];exact hl) cN,k _ _ _ x2 r2 .non⟩
  .cases e
 .cases e
theorem G2:Gh X "list.pop" (SM X cl "pop"):=by
 intro aa s Y H x xs v us Q I rx rv h;let⟨J,m,wx,ws,w,m',r,qx,qs,e,k⟩:=h;let⟨n,ys,rfl,e0,e⟩:=su 'd' 'd' e;erw[iM,Qs,String.reduceEq,QK] at e;unfold oQ at e;let⟨a,vs,rfl,hb,ha,t⟩:=r.lst qx e0;split at e
 .split at e
  .ext y e1;cases e;cases qs;let⟨z,e2,qz⟩:=t.get e1;let⟨x2,r2⟩:=r.CG e0 hb t.dropLast;exact Gp aa s Y H _ _ v us Q I rx rv ⟨_,_,_,rfl,rfl,ha,by rw[<-t.length];exact e2,k _ _ _ x2 r2 (qz.mono r x2)⟩
  .cases e
 .split at e
  .ext hi;split at e
   .ext kk e3;split at e
    .ext y e1;cases e;let⟨v1,rfl,q1⟩:=jx qs;cases q1;let⟨z,e2,qz⟩:=t.get e1;let⟨x2,r2⟩:=r.CG e0 hb (t.eraseIdx kk);exact y9 aa s Y H _ _ v us Q I rx rv ⟨_,_,_,kk,_,rfl,rfl,ha,hi.1,hi.2,by rw[<-t.length];exact e3,e2,k _ _ _ x2 r2 (qz.mono r x2)⟩
    .cases e
   .cases e
  .cases e
 .cases e
theorem zU{o:W}{ws:List W}(e:bJ o "add" ws m=.ok w m'):∃n ks,o=.ref n/\m[n]?=some (.set ks)/\i7 n ks "add" ws m=.ok w m':=by
 unfold bJ at e;split at e
 .split at e
  .erw[iM,String.reduceEq,QK] at e;cases e
  .ext n _ ks e1;exact⟨_,_,rfl,e1,e⟩
  .cases e
 .erw[vo,String.reduceEq,QK] at e;cases e
 .erw[String.reduceEq,QK] at e;cases e
 .cases e
theorem Rel.Nm{a:Addr}(r:Rel K cl J m H){o:O}{ks:List L2.Key}{S:L2.Key->Bool}(hm:m[n]?=some o)(hb:J[n]?=some a)(q:∀k,S k=mE k ks) :
  Ext J H J (upd H a (mz cl.P cl.w a S ks.length))/\Rel K cl J (m.set n (.set ks)) (upd H a (mz cl.P cl.w a S ks.length)):=by
 have ha:a∈J:=QX hb;have x:Ext J H J (upd H a (mz cl.P cl.w a S ks.length)):=⟨⟨[],by simp,by simp⟩,λ {b u} h hn _=>by rw[aq (show b≠a from λ z=>hn (by rw[z];exact ha))];exact h⟩;refine⟨x,by simp[r.len],r.nd,λ {k o' b} h1 h2=>?_⟩
 by_cases hk:n=k
 .subst hk;rw[hb] at h2;cases h2;rw[QN (Qd.mp hm).1] at h1;cases h1;exact⟨S,aJ,q⟩
 .rw[QT hk] at h1;have q':=r.obj h1 h2;refine q'.mono r x (aq ?_);rintro rfl;let⟨h3,e3⟩:=Qd.mp h2;let⟨h4,e4⟩:=Qd.mp hb;exact hk ((getElem_inj r.nd).mp (e4.trans e3.symm))
theorem G3(hu:UN X cl):Gh X "set.add" (SM X cl "add"):=by
 intro aa s Y H x xs v us Q I rx rv h;let⟨J,m,wx,ws,w,m',r,qx,qs,e,k⟩:=h;let⟨n,ks,rfl,e0,e⟩:=zU e;erw[i7,Qs] at e;unfold zH at e;split at e
 .split at e
  .ext kk e1;split at e
   .ext hl;cases e;let⟨v1,rfl,q1⟩:=jx qs;have z:=se q1 e1;subst z;cases qx with
    | ref hb=>
     let⟨S,hS,hk⟩:=r.obj e0 hb;have hS':=hS;rw[hu.P,hu.w] at hS';refine ug aa s Y H _ _ v us Q I rx rv ⟨_,S,_,kk,rfl,rfl,hS',hl,?_⟩;have hk':∀j,(S j||decide (j=kk))=mE j (if mE kk ks then ks else ks++[kk]):=λ j=>by
      rw[hk];split
      .ext hm;cases hd:decide (j=kk) with
       | false=>simp
       | true=>
        have:=of_decide_eq_true hd;subst this;simp[hm]
      .erw[mE,any_append,any_cons,any_nil,Bool.or_false];congr 1;exact decide_eq_decide.mpr eq_comm
     let⟨x2,r2⟩:=r.Nm e0 hb hk';have hlen:(if mE kk ks then ks else ks++[kk]).length=if S kk then ks.length else ks.length+1:=by
      rw[hk];split<;>simp
     rw[hlen,hu.P,hu.w] at x2 r2;exact k _ _ _ x2 r2 .non
   .cases e
  .cases e
 .cases e
def Nn(X:L2.Cx)(T:String)(x:V)(H:Hp):Prop:=∀(aa:List (Addr×Obj)) (s:Shared) (Y:L2.St) (v:Value),Inv X aa Y H s->RelV x v->s.TypeIs v T/\∀a,v=.ref a->∃ob,s.heap.get? a=some ob/\ob.dict=none
def Kn:Kd->String
 | .lst=>"list" | .str=>"str" | .set=>"set" | .no=>""
theorem Et{kd:Kd}(r:Rel X.K cl J m H)(q:RW X.K J H w v)(hk:kd≠.no)(e:kdOf m w=kd):Nn X (Kn kd) v H:=by
 intro aa s Y u I rv;cases q with
 | ref h=>
  erw[kdOf] at e;split at e
  .ext ws e1;let⟨vs,z,_⟩:=r.obj e1 h;subst e;exact ud (T:="list") I rv (.inl ⟨rfl,_,.inl (.inl z)⟩)
  .ext ks e1;subst e;let⟨S,z,_⟩:=r.obj e1 h;cases rv;let⟨⟨o,_,_,_,e,ex,_⟩,_⟩:=I.hok _ _ z;refine⟨⟨o,e,ex.1⟩,λ a e2=>?_⟩;cases e2;exact⟨o,e,ex.2.1⟩
  .exact absurd e.symm hk
 | str x=>
  erw[kdOf] at e;subst e;exact ud (T:="str") I rv rfl
 | fz h tt=>
  erw[kdOf] at e;subst e;exact ud (T:="list") I rv (.inl ⟨rfl,_,h.l⟩)
 | _=>exact absurd (by simpa[kdOf] using e.symm) hk
section
variable{o:Expr}{d:E}{name:Str}{nm id:String}{apos:Pos}
theorem CO{T:String}(hT:T=Kn (p8 nm))(pa:PlainAttrs T)(slot:Slot T name id)(hty:typeOf (.builtin id)=pure (.type "method_descriptor"))(hm:Gh X id (SM X cl nm))(ho:PE X o (SE X cl (ao C d)))
  (hbase:attributeBase o name X.env (eval o X.env)=eval o X.env) (hline:(apos.endLine==pos.line)=true):PE X (.Call (.Attribute o name apos) [] [] pos) (SE X cl (ao C (.meth d nm .nil))):=by
 intro aa s Y H Q I h;refine wpAny_Call_method0_late hbase hline ?_;let⟨J,Z,m,w,m',r,l,e,k⟩:=h;erw[bD] at e;let⟨x,m1,e1,e⟩:=R.ah e;refine bY (ho aa s Y H (λ v H1=>Nn X T v H1/\SM X cl nm v [] H1 Q) I ⟨J,Z,m,x,m1,r,l,e1,fun β1 H1 v1 x1 r1 q1=>?_⟩) λ v s1 ⟨x,H1,I1,r1,ty,q1⟩=>?_
 .split at e
  .ext hk;erw[fY,R.bind] at e;exact⟨by rw[hT];exact Et r1 q1 (by unfold p8;split<;>(try split)<;>(intro z;cases z)) hk,β1,m1,x,[],w,m',r1,q1,.nil,e,fun β2 H2 v2 x2 r2 q2=>k _ _ _ (x1.trans r1 x2) r2 q2⟩
  .cases e
 .let⟨h1,h2⟩:=ty aa s1 Y v I1 r1;exact⟨T,id,pa,slot,hty,h1,h2,Calls.callWith_builtin rfl (PySem.evalArgs_none (hm aa s1 Y H1 x [] v [] Q I1 r1 .nil q1))⟩
theorem G4{T:String}{a:Expr}(hT:T=Kn (p8 nm))(pa:PlainAttrs T)(slot:Slot T name id)(hty:typeOf (.builtin id)=pure (.type "method_descriptor"))(hm:Gh X id (SM X cl nm))(ho:PE X o (SE X cl (ao C d)))(ha:PA X (a::es) (SA X cl (bQ C ds)))
  (hbase:attributeBase o name X.env (eval o X.env)=eval o X.env)
  (hfew:((backTo pos (starEach (a::es) X.env)).all (λ x=>!x.1)&&(backToKw pos (keywordEach [] X.env)).all (λ x=>x.1.isSome)
   && decide ((a::es).length+([]:List Keyword).length+(if ([]:List Keyword).isEmpty then 0 else 1) < 30))=true)
  (hline:(apos.endLine==pos.line)=true) (hs:starEach (a::es) X.env=(false,eval a X.env)::starEach es X.env) (hplain:(backTo pos (starEach es X.env)).any (·.1)=false):PE X (.Call (.Attribute o name apos) (a::es) [] pos) (SE X cl (ao C (.meth d nm ds))):=by
 intro aa s Y H Q I h;refine wpAny_Call_method_late hbase hfew hline rfl ?_;let⟨J,Z,m,w,m',r,l,e,k⟩:=h;erw[bD] at e;let⟨x,m1,e1,e⟩:=R.ah e;refine bY (ho aa s Y H (λ v H1=>Nn X T v H1/\SA X cl (bQ C ds) Y H1 λ xs H2=>SM X cl nm v xs H2 Q) I ⟨J,Z,m,x,m1,r,l,e1,fun β1 H1 v1 x1 r1 q1=>?_⟩) λ v s1 ⟨x,H1,I1,r1,ty,q1⟩=>?_
 .split at e
  .ext hk;let⟨ws,m2,e2,e⟩:=R.ah e;exact⟨by rw[hT];exact Et r1 q1 (by unfold p8;split<;>(try split)<;>(intro z;cases z)) hk,β1,Z,m1,ws,m2,r1,l.mono r x1,e2,fun β2 H2 v2 x2 r2 q2=>
    ⟨β2,m2,x,ws,w,m',r2,q1.mono r1 x2,q2,e,fun β3 H3 v3 x3 r3 q3=>k _ _ _ ((x1.trans r1 x2).trans r2 x3) r3 q3⟩⟩
  .cases e
 .let⟨h1,h2⟩:=ty aa s1 Y v I1 r1;refine⟨T,id,pa,slot,hty,h1,h2,?_⟩;have hA:=ha pos aa s1 Y H1 _ I1 q1;rw[hs] at hA ⊢;refine Calls.callWith_builtin (by show (false||(backTo pos (starEach es X.env)).any (·.1))=false;rw[hplain]<;>rfl) (Calls.evalArgs_plain ?_);exact bY hA λ us s2 ⟨vs,H2,I2,r2,q2⟩=>hm aa s2 Y H2 x vs v us Q I2 r1 r2 q2
end
theorem G5(hu:UN X cl)(hg:Gl X "set")(hm:X.mg "set"=none):PE X (.Call (.Name "set" p) [] [] pos) (SE X cl (ao C .set0)):=by
 refine PE.imp (t7 xq hg hm 'k' 'k' 'k') ?_;rintro Y H Q ⟨J,Z,m,w,m',r,l,e,k⟩;erw[bW,new] at e;cases e;refine⟨rfl,λ p hp=>?_⟩;have:=r.GK (o:=.set []) (ho:=mz cl.P cl.w p (λ _=>false) 0) hp λ x=>⟨_,aJ,λ _=>rfl⟩;rw[hu.P,hu.w] at this;exact k _ _ _ this.1 this.2 (.ref (r.last p))
def yv(K:PySem.W.Frag)(cl:Cl)(np:Nat)(f:List W->Mem->R W):Sp:=λ vs H Q _=>vs.length=np/\∃J m ws w m',Rel K cl J m H/\aW K J H ws vs/\f ws m=.ok w m'/\∀J' H' v,Ext J H J' H'->Rel K cl J' m' H'->RW K J' H' w v->Q v H'
theorem s_call{k f:Nat}{fa:Addr}{fd:FuncData}{ps:List Str}{x:Str}{a:Expr}(F:gX X.prog X.w X.K X.mg X.base xj k fa fd ps (yv X.K cl ps.length (C.call f)))(hr:eK k X.A)(hg:Gl X x)(hm:X.mg x=@(.ref fa))(hk:PySem.W.keepIn X.K (.ref fa)=true)(hb:Binds X.K fd ps [])
  (ha:PA X (a::es) (SA X cl (bQ C ds))) (hl:∀Z m ws m',bQ C ds Z m=.ok ws m'->ws.length=ps.length) (hdb:(x==("__debug__":Str))=false) (he:starEach (a::es) X.env=(false,eval a X.env)::starEach es X.env) (hpl:(backTo pos (starEach es X.env)).any (·.1)=false) :
  PE X (.Call (.Name x p) (a::es) [] pos) (SE X cl (ao C (.call f ds))):=by
 refine PE.imp (B5 F hr hg hm hk hb .nil rM ha hdb he hpl) ?_;rintro Y H Q ⟨J,Z,m,w,m',r,l,e,k⟩;erw[dg] at e;let⟨x,m1,e1,e⟩:=R.ah e;refine⟨J,Z,m,x,m1,r,l,e1,fun β1 H1 v1 x1 r1 q1=>⟨?_,β1,m1,x,w,m',r1,by rw[append_nil];exact q1,e,fun β2 H2 v2 x2 r2 q2=>k _ _ _ (x1.trans r1 x2) r2 q2⟩⟩;rw[append_nil,<-q1.length];exact hl _ _ _ _ e1
end
section
variable(X:L2.Cx)(cl:Cl)
def IS(P9:It)(src:Src)(β0:List Addr)(H0:Hp):Prop:=∀(J:List Addr) (m:Mem) (H:Hp) (i:Nat),(∃γ,J=β0++γ)->(∀{a:Addr} {vs:List V},dI X.K H0 a vs->dI X.K H a vs)->(∀{a:Addr} {o:Obj} {u:HO},H0 a=some (.frz o u)->H a=@(.frz o u))->Rel X.K cl J m H->
 (∀w,src.get m i=.it w->P9.go i H/\∀x H',P9.yld i H x H'->Ext J H J H'/\Rel X.K cl J m H'/\RW X.K J H' w x)/\(src.get m i=.fin->P9.stop i H)
def SI(ev:Loc->Mem->R Src):TI:=fun Y H Rr=>∃J Z m src m',Rel X.K cl J m H/\RL X.K J H Z Y/\ev Z m=.ok src m'/\∀J' H' P9,Ext J H J' H'->Rel X.K cl J' m' H'->IS X cl P9 src J' H'->Rr P9 H'
def SG(ev:W->Loc->Mem->R Loc):TG:=λ v Y H Q=>∃J Z m w ρ' m',Rel X.K cl J m H/\RL X.K J H Z Y/\RW X.K J H w v/\ev w Z m=.ok ρ' m'/\∀J' H' σ',Ext J H J' H'->Rel X.K cl J' m' H'->RL X.K J' H' ρ' σ'->Q σ' H'
def IT(ev:List W->Loc->Mem->R Loc):yK:=λ vs Y H Q=>∃J Z m ws ρ' m',Rel X.K cl J m H/\RL X.K J H Z Y/\aW X.K J H ws vs/\ev ws Z m=.ok ρ' m'/\∀J' H' σ',Ext J H J' H'->Rel X.K cl J' m' H'->RL X.K J' H' ρ' σ'->Q σ' H'
def Np(D:Ends)(J:List Addr)(H:Hp):F->Prop
 | .nx Z=>∀Y,RL X.K J H Z Y->D.nx Y H
 | .rt w=>∀v,RW X.K J H w v->D.rt v H
 | .bk Z=>∀Y,RL X.K J H Z Y->D.bk Y H
 | .ct Z=>∀Y,RL X.K J H Z Y->D.ct Y H
def SS(ev:Loc->Mem->R F):TS:=λ D Y H=>∃J Z m f m',Rel X.K cl J m H/\RL X.K J H Z Y/\ev Z m=.ok f m'/\∀J' H',Ext J H J' H'->Rel X.K cl J' m' H'->Np X D J' H' f
end
theorem PI.imp{t t':TI}(h:PI X tg e t)(i:∀Y H R,t' Y H R->t Y H R):PI X tg e t':=λ aa s Y H R I q=>h aa s Y H R I (i Y H R q)
theorem PI.or{t t':TI}(h:PI X tg e t)(h':PI X tg e t'):PI X tg e (fun Y H R=>t Y H R\/t' Y H R):=λ aa s Y H R I q=>q.elim (h aa s Y H R I) (h' aa s Y H R I)
theorem PG.imp{t t':TG}(h:PG X e t)(i:∀v Y H Q,t' v Y H Q->t v Y H Q):PG X e t':=λ aa s Y H v u Q I r q=>h aa s Y H v u Q I r (i v Y H Q q)
theorem tL.imp{e:List Expr}{t t':yK}(h:tL X e t)(i:∀v Y H Q,t' v Y H Q->t v Y H Q):tL X e t':=λ aa s Y H v u Q I r q=>h aa s Y H v u Q I r (i v Y H Q q)
theorem PS.imp{e:Stmt}{t t':TS}(h:PS X e t)(i:∀D Y H,t' D Y H->t D Y H):PS X e t':=λ aa s Y H D I q=>h aa s Y H D I (i D Y H q)
theorem lV.imp{e:List Stmt}{t t':TS}(h:lV X e t)(i:∀D Y H,t' D Y H->t D Y H):lV X e t':=λ aa s Y H D I q=>h aa s Y H D I (i D Y H q)
section
variable{X:L2.Cx}{cl:Cl}{C:D.Cx}{pos:Pos}
theorem sd.keep(hf:∀{a:Addr} {o:Obj} {u:HO},H a=some (.frz o u)->H' a=@(.frz o u)){a:Addr}(h:sd K H a vs):sd K H' a vs:=
 h.elim (λ ⟨o,e⟩=>.inl ⟨o,hf e⟩) .inr
theorem RW.keep(hb:∃γ,J'=J++γ)(ht:∀{a:Addr} {vs:List V},dI K H a vs->dI K H' a vs)(hf:∀{a:Addr} {o:Obj} {u:HO},H a=some (.frz o u)->H' a=@(.frz o u))(q:RW K J H w v):RW K J' H' w v:=
 q.gen ht (λ h=>h.keep hf) hf (λ h=>by let⟨γ,rfl⟩:=hb;rw[Qw (Qd.mp h).1];exact h)
theorem aW.keep(hb:∃γ,J'=J++γ)(ht:∀{a:Addr} {vs:List V},dI K H a vs->dI K H' a vs)(hf:∀{a:Addr} {o:Obj} {u:HO},H a=some (.frz o u)->H' a=@(.frz o u)){w:List W}{v:List V}(q:aW K J H w v):aW K J' H' w v:=q.xJ (RW.keep hb ht hf)
theorem zV{a:Addr}(hb:β0[n]?=some a):IS X cl (LA X.K a) (.lst n) β0 H0:=by
 intro J m H i hβ _ _ r;let⟨γ,rfl⟩:=hβ;have hb':(β0++γ)[n]?=some a:=by rw[Qw (Qd.mp hb).1];exact hb
 refine⟨λ w e=>?_,λ e=>?_⟩
 .erw[Src.get] at e;split at e
  .ext xs e1;split at e
   .ext w' e2;cases e;let⟨a',vs,z,hs,t⟩:=r.getL (.ref hb') e1;cases z;let⟨v,e3,q⟩:=t.get e2;refine⟨⟨vs,v,hs,e3⟩,λ x H' y=>?_⟩;let⟨rfl,y⟩:=y;have:=y vs hs;rw[e3] at this;cases this;exact⟨Ext.refl,r,q⟩
   .cases e
  .cases e
 .erw[Src.get] at e;split at e
  .ext xs e1;split at e
   .cases e
   .ext e2;let⟨a',vs,z,hs,t⟩:=r.getL (.ref hb') e1;cases z;refine⟨vs,hs,?_⟩;rw[<-t.length];exact Rb.mp e2
  .cases e
theorem zW{a:Addr}{ws:List W}(G6:dI X.K H0 a vs)(t0:aW X.K β0 H0 ws vs):IS X cl (ML X.K a) (.tup ws) β0 H0:=by
 intro J m H i hβ ht hf r;have hq:=ht G6;have t:=t0.keep hβ ht hf;refine⟨λ w e=>?_,λ e=>?_⟩
 .erw[Src.get] at e;split at e
  .ext w' e2;cases e;let⟨v,e3,q⟩:=t.get e2;refine⟨⟨vs,v,hq,e3⟩,λ x H' y=>?_⟩;let⟨rfl,y⟩:=y;have:=y vs hq;rw[e3] at this;cases this;exact⟨Ext.refl,r,q⟩
  .cases e
 .erw[Src.get] at e;split at e
  .cases e
  .ext e2;exact⟨vs,hq,by rw[<-t.length];exact Rb.mp e2⟩
theorem Eu{a:Addr}{ws:List W}(G6:sd X.K H0 a vs)(t0:aW X.K β0 H0 ws vs):IS X cl (LA X.K a) (.tup ws) β0 H0:=by
 intro J m H i hβ ht hf r;have hq:=(G6.keep hf).l;have t:=t0.keep hβ ht hf;refine⟨λ w e=>?_,λ e=>?_⟩
 .erw[Src.get] at e;split at e
  .ext w' e2;cases e;let⟨v,e3,q⟩:=t.get e2;refine⟨⟨vs,v,hq,e3⟩,λ x H' y=>?_⟩;let⟨rfl,y⟩:=y;have:=y vs hq;rw[e3] at this;cases this;exact⟨Ext.refl,r,q⟩
  .cases e
 .erw[Src.get] at e;split at e
  .cases e
  .ext e2;exact⟨vs,hq,by rw[<-t.length];exact Rb.mp e2⟩
theorem G7{a:Addr}{ws:List W}(G6:sd X.K H0 a vs)(t0:aW X.K β0 H0 ws vs):IS X cl (LG X.K a) (.enm (.tup ws)) β0 H0:=by
 intro J m H i hβ ht hf r;let⟨k1,k2⟩:=Eu (X:=X) (cl:=cl) G6 t0 J m H i hβ ht hf r;refine⟨λ w e=>?_,λ e=>?_⟩
 .erw[Src.get] at e k1;split at e
  .ext w' e1;cases e;let⟨⟨xs,x,hs,hx⟩,g⟩:=k1 w' e1;refine⟨⟨xs,x,hs,hx⟩,λ y H' z=>?_⟩;let⟨p,v,hp,rfl,rfl,hv⟩:=z;let⟨_,_,q⟩:=g v H ⟨rfl,hv⟩;let⟨x2,r2⟩:=r.qb hp [.int i,v];exact⟨x2,r2,.tup (.of aJ) %[.int _,|q.mono r x2]⟩
  .cases e
  .cases e
 .erw[Src.get] at e k2;split at e
  .cases e
  .ext e1;exact k2 e1
  .cases e
theorem zX{lo:Int}:IS X cl (Jl lo n) (.rng lo n) β0 H0:=by
 intro J m H i hβ _ _ r;refine⟨λ w e=>?_,λ e=>?_⟩
 .erw[Src.get] at e;split at e
  .ext h;cases e;refine⟨h,λ x H' y=>?_⟩;let⟨rfl,rfl⟩:=y;exact⟨Ext.refl,r,.int _⟩
  .cases e
 .erw[Src.get] at e;split at e
  .cases e
  .ext h;exact Nat.le_of_not_lt h
theorem zY{s:Src}(r:Rel X.K cl J m H)(q:RW X.K J H w v)(e:srcOf m w=some s) :
  ∃a,v=.ref a/\((∃n vs,s=.lst n/\w=.ref n/\J[n]?=some a/\gE X.K H a vs)\/(∃ws vs,s=.tup ws/\w=.fz ws/\sd X.K H a vs/\aW X.K J H ws vs)\/∃ws vs,s=.tup ws/\w=.tup ws/\dI X.K H a vs/\aW X.K J H ws vs):=by
 cases q with
 | tup h t=>cases e;exact⟨_,rfl,.inr (.inr ⟨_,_,rfl,rfl,h,t⟩)⟩
 | fz h t=>cases e;exact⟨_,rfl,.inr (.inl ⟨_,_,rfl,rfl,h,t⟩)⟩
 | ref h=>
  erw[srcOf] at e;split at e
  .ext xs e1;cases e;let⟨a,vs,z,hs,t⟩:=r.getL (.ref h) e1;cases z;exact⟨_,rfl,.inl ⟨_,_,rfl,rfl,h,hs⟩⟩
  .cases e
 | _=>cases e
theorem vA{ws:List W}{s:Src}(r:Rel X.K cl J m H)(q:RW X.K J H (.tup ws) v)(e:srcOf m (.tup ws)=some s):∃a vs,v=.ref a/\s=.tup ws/\dI X.K H a vs/\aW X.K J H ws vs:=by
 cases q with
 | tup h t=>cases e;exact⟨_,_,rfl,rfl,h,t⟩
theorem zZ{ws:List W}{s:Src}(r:Rel X.K cl J m H)(q:RW X.K J H (.fz ws) v)(e:srcOf m (.fz ws)=some s):∃a vs,v=.ref a/\s=.tup ws/\sd X.K H a vs/\aW X.K J H ws vs:=by
 cases q with
 | fz h t=>cases e;exact⟨_,_,rfl,rfl,h,t⟩
theorem vB{s:Src}(r:Rel X.K cl J m H)(q:RW X.K J H (.ref n) v)(e:srcOf m (.ref n)=some s):∃a vs,v=.ref a/\s=.lst n/\J[n]?=some a/\gE X.K H a vs:=by
 obtain⟨a,rfl,⟨n',vs,rfl,z,hb,hs⟩ | ⟨_,_,_,z,_⟩ | ⟨_,_,_,z,_⟩⟩:=zY r q e
 .cases z;exact⟨a,vs,rfl,rfl,hb,hs⟩
 .cases z
 .cases z
theorem G8{z:Str}:IS X cl (Na z) (.tup (signs z)) β0 H0:=by
 intro J m H i hβ _ _ r;have hg:∀j:Nat,(signs z)[j]?=(z.cps[j]?).map λ c=>W.str ⟨#[c]⟩:=λ j=>by simp[signs]
 refine⟨λ w e=>?_,λ e=>?_⟩
 .erw[Src.get,hg] at e;cases hc:z.cps[i]? with
  | none=>rw[hc] at e;cases e
  | some c=>
   rw[hc] at e;cases e;have hi:i < z.cps.size:=by
    rcases Nat.lt_or_ge i z.cps.size with h | h
    .exact h
    .rw[Array.getElem?_eq_none h] at hc;cases hc
   refine⟨hi,λ x H' y=>?_⟩;let⟨rfl,c',h1,rfl⟩:=y;rw[hc] at h1;cases h1;exact⟨Ext.refl,r,.str _⟩
 .erw[Src.get,hg] at e;cases hc:z.cps[i]? with
  | none=>exact Array.getElem?_eq_none_iff.mp hc
  | some c=>rw[hc] at e;cases e
theorem Ko{a:Expr}(ha:PE X a (SE X cl (ao C d)))(hd:∀Z m,cC C d Z m=(ao C d Z m).bind oS):PI X tg a (SI X cl (cC C d)):=by
 refine PI.imp (PI.or (PI.or (BQ ha) (FJ ha)) (GA ha)) ?_;rintro Y H Rr ⟨J,Z,m,src,m',r,l,e,k⟩;rw[hd] at e;let⟨x,m1,e1,e⟩:=R.ah e;unfold oS at e;split at e
 .ext s e2;cases e;cases x with
  | tup xs=>
   refine .inl (.inr ⟨J,Z,m,_,_,r,l,e1,fun β1 H1 v1 x1 r1 q1=>?_⟩);let⟨a,vs,rfl,rfl,hs,t⟩:=vA r1 q1 e2;exact⟨a,rfl,⟨vs,hs⟩,k _ _ _ x1 r1 (zW hs t)⟩
  | fz xs=>
   refine .inl (.inl ⟨J,Z,m,_,_,r,l,e1,fun β1 H1 v1 x1 r1 q1=>?_⟩);let⟨a,vs,rfl,rfl,hs,t⟩:=zZ r1 q1 e2;exact⟨a,rfl,⟨vs,hs.l⟩,k _ _ _ x1 r1 (Eu hs t)⟩
  | ref n=>
   refine .inl (.inl ⟨J,Z,m,_,_,r,l,e1,fun β1 H1 v1 x1 r1 q1=>?_⟩);let⟨a,vs,rfl,rfl,hb,hs⟩:=vB r1 q1 e2;exact⟨a,rfl,⟨vs,hs⟩,k _ _ _ x1 r1 (zV hb)⟩
  | str z=>
   refine .inr ⟨J,Z,m,_,_,r,l,e1,fun β1 H1 v1 x1 r1 q1=>?_⟩;cases q1;erw[zJ] at e2;split at e2
   .ext hz;cases e2;exact⟨z,rfl,hz,k _ _ _ x1 r1 G8⟩
   .cases e2
  | _=>cases e2
 .cases e
theorem Kp{a:Expr}(hg:Gl X "range")(hm:X.mg "range"=none)(ha:PE X a (SE X cl (ao C d)))(hs:starEach [a] X.env=[(false,eval a X.env)]):PI X tg (.Call (.Name "range" p) [a] [] pos) (SI X cl (cC C (.rng d))):=by
 refine PI.imp (wR hg hm (ee ha gJ hs) hs) ?_;rintro Y H Rr ⟨J,Z,m,src,m',r,l,e,k⟩;erw[mL] at e;let⟨x,m1,e1,e⟩:=R.ah e;refine⟨J,Z,m,x,m1,r,l,e1,fun β1 H1 v1 x1 r1 q1=>?_⟩;split at e
 .split at e
  .ext hj;cases e;cases q1;exact⟨_,rfl,hj.1,hj.2,k _ _ _ x1 r1 zX⟩
  .cases e
 .cases e
theorem G9{a:Expr}{d':E}(hg:Gl X "range")(hm:X.mg "range"=none)(ha:PE X a (SE X cl (ao C d)))(hb:PE X b (SE X cl (ao C d')))(hs:starEach [a,b] X.env=[(false,eval a X.env),(false,eval b X.env)])(hs2:starEach [b] X.env=[(false,eval b X.env)]):PI X tg (.Call (.Name "range" p) [a,b] [] pos) (SI X cl (cC C (.rng2 d d'))):=by
 refine PI.imp (wU hg hm (ee ha (ee hb gJ hs2) (by rw[hs,hs2])) hs hs2) ?_;rintro Y H Rr ⟨J,Z,m,src,m',r,l,e,k⟩;erw[j9] at e;let⟨x,m1,e1,e⟩:=R.ah e;let⟨y,m2,e2,e⟩:=R.ah e;refine⟨J,Z,m,x,m1,r,l,e1,fun β1 H1 v1 x1 r1 q1=>?_⟩;refine⟨β1,Z,m1,y,m2,r1,l.mono r x1,e2,fun β2 H2 v2 x2 r2 q2=>?_⟩;have q1:=q1.mono r1 x2;split at e
 .split at e
  .ext hj;cases e;cases q1;cases q2;exact⟨_,_,rfl,hj,k _ _ _ (x1.trans r1 x2) r2 zX⟩
  .cases e
 .cases e
theorem Hf{a:Addr}(hb:β0[n]?=some a):IS X cl (LG X.K a) (.enm (.lst n)) β0 H0:=by
 intro J m H i hβ ht hf r;let⟨k1,k2⟩:=zV (X:=X) (cl:=cl) (H0:=H0) hb J m H i hβ ht hf r;refine⟨λ w e=>?_,λ e=>?_⟩
 .erw[Src.get] at e k1;split at e
  .ext w' e1;cases e;let⟨⟨xs,x,hs,hx⟩,g⟩:=k1 w' e1;refine⟨⟨xs,x,hs,hx⟩,λ y H' z=>?_⟩;let⟨p,v,hp,rfl,rfl,hv⟩:=z;let⟨_,_,q⟩:=g v H ⟨rfl,hv⟩;let⟨x2,r2⟩:=r.qb hp [.int i,v];exact⟨x2,r2,.tup (.of aJ) %[.int _,|q.mono r x2]⟩
  .cases e
  .cases e
 .erw[Src.get] at e k2;split at e
  .cases e
  .ext e1;exact k2 e1
  .cases e
theorem Hg{a:Addr}{ws:List W}(G6:dI X.K H0 a vs)(t0:aW X.K β0 H0 ws vs):IS X cl (Ng X.K a) (.enm (.tup ws)) β0 H0:=by
 intro J m H i hβ ht hf r;let⟨k1,k2⟩:=zW (X:=X) (cl:=cl) G6 t0 J m H i hβ ht hf r;refine⟨λ w e=>?_,λ e=>?_⟩
 .erw[Src.get] at e k1;split at e
  .ext w' e1;cases e;let⟨⟨xs,x,hs,hx⟩,g⟩:=k1 w' e1;refine⟨⟨xs,x,hs,hx⟩,λ y H' z=>?_⟩;let⟨p,v,hp,rfl,rfl,hv⟩:=z;let⟨_,_,q⟩:=g v H ⟨rfl,hv⟩;let⟨x2,r2⟩:=r.qb hp [.int i,v];exact⟨x2,r2,.tup (.of aJ) %[.int _,|q.mono r x2]⟩
  .cases e
  .cases e
 .erw[Src.get] at e k2;split at e
  .cases e
  .ext e1;exact k2 e1
  .cases e
theorem Kq{a:Expr}{x1}(hg:Gl X "enumerate")(hm:X.mg "enumerate"=none)(ha:PE X a (SE X cl (ao C d)))(hs:starEach [a] X.env=[(false,eval a X.env)]):PI X (.Tuple elts x1 tpos) (.Call (.Name "enumerate" p) [a] [] pos) (SI X cl (cC C (.enm d))):=by
 refine PI.imp (PI.or (Cq hg hm (ee ha gJ hs) hs) (zm hg hm (ee ha gJ hs) hs)) ?_;rintro Y H Rr ⟨J,Z,m,src,m',r,l,e,k⟩;erw[oW] at e;let⟨x,m1,e1,e⟩:=R.ah e;split at e
 .ext s e2;cases e;cases x with
  | tup xs=>
   refine .inr ⟨J,Z,m,_,_,r,l,e1,fun β1 H1 v1 x1 r1 q1=>?_⟩;let⟨a,vs,rfl,rfl,hs,t⟩:=vA r1 q1 e2;exact⟨a,rfl,⟨vs,hs⟩,k _ _ _ x1 r1 (Hg hs t)⟩
  | fz xs=>
   refine .inl ⟨J,Z,m,_,_,r,l,e1,fun β1 H1 v1 x1 r1 q1=>?_⟩;let⟨a,vs,rfl,rfl,hs,t⟩:=zZ r1 q1 e2;exact⟨a,rfl,⟨vs,hs.l⟩,k _ _ _ x1 r1 (G7 hs t)⟩
  | ref n=>
   refine .inl ⟨J,Z,m,_,_,r,l,e1,fun β1 H1 v1 x1 r1 q1=>?_⟩;let⟨a,vs,rfl,rfl,hb,hs⟩:=vB r1 q1 e2;exact⟨a,rfl,⟨vs,hs⟩,k _ _ _ x1 r1 (Hf hb)⟩
  | _=>cases e2
 .cases e
theorem RL.set(l:RL K J H Z Y)(q:RW K J H w v):RL K J H (Z.set i (some w)) (Y.set i (some v)):=by
 refine⟨by simp[l.len],λ {j w'} h=>?_⟩
 by_cases e:i=j
 .subst e;have hl:i < Z.length:=by have:=(Qd.mp h).1;simpa using this
  rw[QN hl] at h;cases h;exact⟨v,QN (by rw[<-l.len];exact hl),q⟩
 .rw[QT e] at h ⊢;exact l.at_ h
theorem Ew{x:Str}(hN:X.N.Nodup)(hi:X.N[i]?=some x)(hx:L2.Loc X.env.scope x)(hf:X.fn x=true\/X.env.scope.names.lookup x=some .local):PG X (.Name x pos) (SG X cl (gU C (.pt (.var i)))):=by
 refine PG.imp (BO hN hi hx hf) ?_;rintro v Y H Q ⟨J,Z,m,w,ρ',m',r,l,q,e,k⟩;erw[gU,aE] at e;cases e;exact k _ _ _ Ext.refl r (l.set q)
theorem z5:tL X [] (IT X cl (eO C .nil)):=by
 refine tL.imp BP ?_;rintro vs Y H Q ⟨J,Z,m,ws,ρ',m',r,l,q,e,k⟩;cases q with
 | nil=>
  erw[eO] at e;cases e;exact⟨rfl,k _ _ _ Ext.refl r l⟩
 | cons _ _=>erw[eO] at e;cases e
theorem vC{a:Expr}{da:A}{ds:As}(h1:PG X a (SG X cl (gU C da)))(h2:tL X es (IT X cl (eO C ds)))(hs:(assignEach (a::es) X.env).map (·.2)=assign a X.env::(assignEach es X.env).map (·.2)):tL X (a::es) (IT X cl (eO C (.cons da ds))):=by
 refine tL.imp (yL h1 h2 hs) ?_;rintro vs Y H Q ⟨J,Z,m,ws,ρ',m',r,l,q,e,k⟩;cases q with
 | nil=>erw[eO] at e;cases e
 | cons q1 q2=>
  erw[eO] at e;let⟨Z1,m1,e1,e⟩:=R.ah e;refine⟨_,_,rfl,J,Z,m,_,Z1,m1,r,l,q1,e1,fun β1 H1 σ1 x1 r1 l1=>?_⟩;exact⟨β1,Z1,m1,_,ρ',m',r1,l1,q2.mono r x1,e,fun β2 H2 σ2 x2 r2 l2=>k _ _ _ (x1.trans r1 x2) r2 l2⟩
def As.len:As->Nat
 | .nil=>0
 | .cons _ l=>l.len+1
theorem mT:∀{ds:As} {ws:List W} {Z ρ':Loc} {m m':Mem},eO C ds ws Z m=.ok ρ' m'->ws.length=ds.len
 | .nil,ws,_,_,_,_,e=>by
  cases ws with
  | nil=>rfl
  | cons _ _=>erw[eO] at e;cases e
 | .cons a l,ws,_,_,_,_,e=>by
  cases ws with
  | nil=>erw[eO] at e;cases e
  | cons w ws=>
   erw[eO] at e;let⟨Z1,m1,e1,e⟩:=R.ah e;rw[QB,mT e];rfl
theorem PG.or{t t':TG}(h:PG X e t)(h':PG X e t'):PG X e (λ v Y H Q=>t v Y H Q\/t' v Y H Q):=λ aa s Y H v u Q I r q=>q.elim (h aa s Y H v u Q I r) (h' aa s Y H v u Q I r)
theorem Ex{k:Nat}{ds:As}(hc:X.calm=true)(h:tL X es (IT X cl (eO C ds)))(hn:(assignEach es X.env).length=ds.len)(hst:(assignEach es X.env).findIdx? (·.1)=none):PG X (.Tuple es k pos) (SG X cl (gU C (.tup ds))):=by
 refine PG.imp (PG.or (FF hc h hn hst) (GC hc h hn hst)) ?_;rintro v Y H Q ⟨J,Z,m,w,ρ',m',r,l,q,e,k⟩;erw[gU] at e;split at e
 .ext xs e1;let⟨a,vs,rfl,hs,t⟩:=r.aM q e1;rcases hs with hs | hs
  .exact .inr ⟨_,_,rfl,hs,by rw[<-t.length];exact mT e,J,Z,m,_,ρ',m',r,l,t,e,k⟩
  .exact .inl ⟨_,_,rfl,hs,by rw[<-t.length];exact mT e,J,Z,m,_,ρ',m',r,l,t,e,k⟩
 .cases e
def T.uC:Ts->As
 | .nil=>.nil
 | .cons t ts=>.cons (.pt t) (T.uC ts)
theorem kj:∀(ts:Ts) (ws:List W) (Z ρ':Loc) (m:Mem),dJ ts ws Z=some ρ'->eO C (T.uC ts) ws Z m=.ok ρ' m
 | .nil,ws,Z,ρ',m,h=>by
  cases ws with
  | nil=>erw[dJ] at h;cases h;erw[T.uC,eO]
  | cons _ _=>erw[dJ] at h;cases h
 | .cons t ts,ws,Z,ρ',m,h=>by
  cases ws with
  | nil=>erw[dJ] at h;cases h
  | cons w ws=>
   erw[dJ] at h;split at h
   .ext Z1 e1;erw[T.uC,eO,gU,e1,R.bind];exact kj ts ws Z1 ρ' m h
   .cases h
theorem Hh{k:Nat}{ts:Ts}(h:PG X (.Tuple es k pos) (SG X cl (gU C (.tup (T.uC ts))))):PG X (.Tuple es k pos) (SG X cl (gU C (.pt (.tup ts)))):=by
 refine PG.imp h ?_;rintro v Y H Q ⟨J,Z,m,w,ρ',m',r,l,q,e,k⟩;refine⟨J,Z,m,w,ρ',m',r,l,q,?_,k⟩;erw[gU,aE] at e ⊢;cases w with
 | tup xs=>
  erw[aM] at e ⊢;split at e
  .ext Z1 e1;cases e;exact kj _ _ _ _ _ e1
  .cases e
 | fz xs=>
  erw[aM,getL] at e ⊢;split at e
  .ext Z1 e1;cases e;exact kj _ _ _ _ _ e1
  .cases e
 | _=>cases e
theorem Hi:FE X (λ o i v H Q=>∃J m wo wi wv m',Rel X.K cl J m H/\RW X.K J H wo o/\RW X.K J H wi i/\RW X.K J H wv v/\rT wo wi wv m=.ok () m'/\∀J' H',Ext J H J' H'->Rel X.K cl J' m' H'->Q H'):=by
 intro aa s Y H o i v ov iv u Q I r1 r2 r3 h;let⟨J,m,wo,wi,wv,m',r,qo,qi,qv,e,k⟩:=h;unfold rT at e;split at e
 .split at e
  .ext xs e1;split at e
   .ext j e2;cases e;cases qi;let⟨a,vs,rfl,hb,ha,t⟩:=r.lst qo e1;let⟨x2,r2'⟩:=r.CG e1 hb (t.set qv j);exact set_list aa s Y H _ _ _ ov iv u Q I r1 r2 r3 ⟨_,_,_,_,rfl,rfl,ha,by rw[<-t.length];exact e2,k _ _ x2 r2'⟩
   .cases e
  .cases e
 .cases e
theorem Kr{i:Expr}{Ks di:E}(ho:PE X o (SE X cl (ao C Ks)))(hi:PE X i (SE X cl (ao C di)))(ha:∀v,assign (.Subscript o i pos) X.env v=(do
   let ov <-holding [v] (eval o X.env)
   let iv <-holding [v,ov] (eval i X.env)
   standAt pos
   holding [v,ov,iv] (setItem ov iv v)
   release [v,ov,iv] [])):PG X (.Subscript o i pos) (SG X cl (gU C (.sub Ks di))):=by
 refine PG.imp (FG ho hi (Hi (cl:=cl)) ha) ?_;rintro v Y H Q ⟨J,Z,m,w,ρ',m',r,l,q,e,k⟩;erw[gU] at e;let⟨x,m1,e1,e⟩:=R.ah e;let⟨y,m2,e2,e⟩:=R.ah e;let⟨u,m3,e3,e⟩:=R.ah e;cases e;refine⟨J,Z,m,x,m1,r,l,e1,fun β1 H1 v1 x1 r1 q1=>?_⟩;refine⟨β1,Z,m1,y,m2,r1,l.mono r x1,e2,fun β2 H2 v2 x2 r2 q2=>?_⟩;exact⟨β2,m2,x,y,w,_,r2,q1.mono r1 x2,q2,(q.mono r x1).mono r1 x2,e3,fun β3 H3 x3 r3=>k _ _ _ ((x1.trans r1 x2).trans r2 x3) r3 (((l.mono r x1).mono r1 x2).mono r2 x3)⟩
theorem Hj:lV X [] (SS X cl (aL C .nil)):=by
 refine lV.imp BJ ?_;rintro D Y H ⟨J,Z,m,f,m',r,l,e,k⟩;erw[jw,gn] at e;cases e;exact k _ _ Ext.refl r Y l
theorem CP{rest:List Stmt}{d:S}{ds:Ss}(h1:PS X st (SS X cl (fu C d)))(h2:lV X rest (SS X cl (aL C ds))):lV X (st::rest) (SS X cl (aL C (.cons d ds))):=by
 refine lV.imp (yH h1 h2) ?_;rintro D Y H ⟨J,Z,m,f,m',r,l,e,k⟩;erw[jw,gn] at e;let⟨f1,m1,e1,e⟩:=R.ah e;refine⟨J,Z,m,f1,m1,r,l,e1,fun β1 H1 x1 r1=>?_⟩;cases f1 with
 | nx Z1=>
  intro σ1 l1;exact⟨β1,Z1,m1,f,m',r1,l1,e,fun β2 H2 x2 r2=>k _ _ (x1.trans r1 x2) r2⟩
 | rt w=>simp only at e;cases e;exact k _ _ x1 r1
 | bk Z1=>simp only at e;cases e;exact k _ _ x1 r1
 | ct Z1=>simp only at e;cases e;exact k _ _ x1 r1
theorem Hl{a:Expr}{da:A}(he:PE X a (SE X cl (ao C d)))(hg:PG X tg (SG X cl (gU C da)))(hs:swapsWithSole [tg] a pos.line X.env=pure false)(hw:swappedStores [tg] a X.env=pure none)(h1:(assignEach [tg] X.env).map (·.2)=[assign tg X.env]):PS X (.Assign [tg] a pos) (SS X cl (fu C (.asg da d))):=by
 refine PS.imp (FH he hg hs hw h1) ?_;rintro D Y H ⟨J,Z,m,f,m',r,l,e,k⟩;erw[fS] at e;let⟨w,m1,e1,e⟩:=R.ah e;let⟨Z2,m2,e2,e⟩:=R.ah e;cases e;refine⟨J,Z,m,w,m1,r,l,e1,fun β1 H1 v1 x1 r1 q1=>?_⟩;exact⟨β1,Z,m1,w,Z2,_,r1,l.mono r x1,q1,e2,fun β2 H2 σ2 x2 r2 l2=>k _ _ (x1.trans r1 x2) r2 σ2 l2⟩
theorem z6{x:Str}{a:Expr}(hN:X.N.Nodup)(hi:X.N[i]?=some x)(hx:L2.Loc X.env.scope x)(he:PE X a (SE X cl (ao C d)))(hs:swapsWith a @(.Name x p) pos.line X.env=pure false)(hf:X.fn x=true\/X.env.scope.names.lookup x=some .local):PS X (.Assign [.Name x p] a pos) (SS X cl (fu C (.asg (.pt (.var i)) d))):=by
 refine PS.imp (FI hN hi hx he hs hf) ?_;rintro D Y H ⟨J,Z,m,f,m',r,l,e,k⟩;erw[fS] at e;let⟨w,m1,e1,e⟩:=R.ah e;erw[gU,aE,R.bind] at e;cases e;exact⟨J,Z,m,w,_,r,l,e1,fun β1 H1 v1 x1 r1 q1=>k _ _ x1 r1 _ ((l.mono r x1).set q1)⟩
theorem CQ{a:Expr}(he:PE X a (SE X cl (ao C d)))(hs:swapsWith a none pos.line X.env=pure false):PS X (.Expr a pos) (SS X cl (fu C (.expr d))):=by
 refine PS.imp (BL he hs) ?_;rintro D Y H ⟨J,Z,m,f,m',r,l,e,k⟩;erw[gy] at e;let⟨w,m1,e1,e⟩:=R.ah e;cases e;exact⟨J,Z,m,w,_,r,l,e1,fun β1 H1 v1 x1 r1 q1=>k _ _ x1 r1 _ (l.mono r x1)⟩
theorem Ho{a:Expr}(he:PE X a (SE X cl (ao C d))):PS X (.Return (some a) pos) (SS X cl (fu C (.ret d))):=by
 refine PS.imp (Fx he) ?_;rintro D Y H ⟨J,Z,m,f,m',r,l,e,k⟩;erw[iP] at e;let⟨w,m1,e1,e⟩:=R.ah e;cases e;exact⟨J,Z,m,w,_,r,l,e1,fun β1 H1 v1 x1 r1 q1=>k _ _ x1 r1 _ q1⟩
theorem CS:PS X (.Return none pos) (SS X cl (fu C .retN)):=by
 refine PS.imp BN ?_;rintro D Y H ⟨J,Z,m,f,m',r,l,e,k⟩;erw[gM] at e;cases e;exact k _ _ Ext.refl r _ .non
theorem CT:PS X (.Pass pos) (SS X cl (fu C .pass)):=by
 refine PS.imp BK ?_;rintro D Y H ⟨J,Z,m,f,m',r,l,e,k⟩;erw[gO] at e;cases e;exact k _ _ Ext.refl r _ l
theorem Hq:PS X (.Break pos) (SS X cl (fu C .brk)):=by
 refine PS.imp yI ?_;rintro D Y H ⟨J,Z,m,f,m',r,l,e,k⟩;erw[jk] at e;cases e;exact k _ _ Ext.refl r _ l
theorem CU:PS X (.Continue pos) (SS X cl (fu C .cont)):=by
 refine PS.imp qZ ?_;rintro D Y H ⟨J,Z,m,f,m',r,l,e,k⟩;erw[gP] at e;cases e;exact k _ _ Ext.refl r _ l
theorem z7:PS X st (SS X cl (fu C .never)):=by
 refine PS.imp yJ ?_;rintro D Y H ⟨J,Z,m,f,m',r,l,e,k⟩;erw[fB] at e;cases e
theorem Ku{t:Expr}{dt:E}{a b:List Stmt}{da db:Ss}(ht:PT X t (ST X cl (bx C dt)))(ha:lV X a (SS X cl (aL C da)))(hb:lV X b (SS X cl (aL C db))):PS X (.If t a b pos) (SS X cl (fu C (.ife dt da db))):=by
 refine PS.imp (Ji ht ha hb) ?_;rintro D Y H ⟨J,Z,m,f,m',r,l,e,k⟩;erw[iD] at e;let⟨c,m1,e1,e⟩:=R.ah e;refine⟨J,Z,m,c,m1,r,l,e1,fun β1 H1 x1 r1=>?_⟩;split at e
 .ext hc;rw[Qs hc];exact⟨β1,Z,m1,f,m',r1,l.mono r x1,e,fun β2 H2 x2 r2=>k _ _ (x1.trans r1 x2) r2⟩
 .ext hc;rw[Qz hc];exact⟨β1,Z,m1,f,m',r1,l.mono r x1,e,fun β2 H2 x2 r2=>k _ _ (x1.trans r1 x2) r2⟩
theorem Ext.sq(r:Rel X.K cl J m H)(x:Ext J H J' H'){a:Addr}(h:dI X.K H a vs):dI X.K H' a vs:=x.LJ r BB h
theorem Hr{it:E}{body:List Stmt}{db:Ss}(hp:PassesOwn (model X.prog X.w) X.A X.env X.xe)(hc:X.calm=true)(hi:PI X tg iter (SI X cl (cC C it)))(hg:PG X tg (SG X cl (gU C (.pt t))))(hb:lV X body (SS X cl (aL C db)))
  (hs:∀x,foldedSetIterable iter X.env x=pure x):PS X (.For tg iter body [] pos) (SS X cl (fu C (.for_ t it db))):=by
 refine PS.imp (FL hp hc hi hg hb hs) ?_;rintro D Y H ⟨J,Z,m,f,m',r,l,e,k⟩;erw[gz] at e;let⟨src,m1,e1,e⟩:=R.ah e;refine⟨J,Z,m,src,m1,r,l,e1,fun β1 H1 P9 x1 r1 is=>?_⟩;refine⟨λ i n Y H=>∃J Z m,Ext β1 H1 J H/\Rel X.K cl J m H/\RL X.K J H Z Y/\iO src.get t (fun Z m=>aL C db Z m) n i Z m=.ok f m',⟨_,β1,Z,m1,Ext.refl,r1,l.mono r x1,e⟩,?_⟩;rintro i n Y H ⟨β2,Z2,m2,x2,r2,l2,e2⟩;have pre:∃γ,β2=β1++γ:=let ⟨γ,h,_⟩:=x2.pre;⟨γ,h⟩;let⟨go,stop⟩:=is β2 m2 H i pre (λ h=>x2.sq r1 h) (λ h=>x2.fz r1 BB h) r2;unfold iO at e2;split at e2
 .cases e2
 .ext e3;cases e2;exact .inl ⟨stop e3,k _ _ (x1.trans r1 x2) r2 _ l2⟩
 .ext w e3;let⟨g1,g2⟩:=go w e3;refine .inr ⟨g1,?_⟩;split at e2
  .cases e2
  .ext n';split at e2
   .cases e2
   .ext Z3 e4;let⟨ff,m4,e5,e6⟩:=R.ah e2;refine⟨fun σ' H'=>∃J Z m,Ext β1 H1 J H'/\Rel X.K cl J m H'/\RL X.K J H' Z σ'/\iO src.get t (fun Z m=>aL C db Z m) n' (i+1) Z m=.ok f m',fun σ' H' h=>⟨n',RE _,h⟩,λ x H' y=>?_⟩;let⟨x3,r3,q3⟩:=g2 x H' y;refine⟨β2,Z2,m2,w,Z3,m2,r3,l2.mono r2 x3,q3,by erw[gU,e4],fun β5 H5 Y5 x5 r5 l5=>?_⟩;refine⟨β5,Z3,m2,ff,m4,r5,l5,e5,fun β6 H6 x6 r6=>?_⟩;have LM:=((x2.trans r2 x3).trans r3 x5).trans r5 x6;cases ff with
    | nx Z6=>exact fun Y6 l6=>⟨β6,Z6,m4,LM,r6,l6,e6⟩
    | ct Z6=>exact fun Y6 l6=>⟨β6,Z6,m4,LM,r6,l6,e6⟩
    | bk Z6=>cases e6;exact fun Y6 l6=>k _ _ (x1.trans r1 LM) r6 Y6 l6
    | rt w6=>cases e6;exact λ v6 q6=>k _ _ (x1.trans r1 LM) r6 v6 q6
end
def fc(prog:Program)(w:World)(A:Around)(e elt:Expr)(d:Nat)(acc:Value)(env:Env)(Q:Shared->Prop):Option Comprehension->Shared->Prop
 | none,s=>wpAny (model prog w) A (eval elt env) (λ x s₄=>wpAny (model prog w) A (call (.builtin "list.append") [acc,x]) (λ _ s₅=>Q s₅) (λ _ _=>False) s₄) (λ _ _=>False) s
 | some g',s=>wpAny (model prog w) A (eval g'.iter env) (λ x s₄=>wpAny (model prog w) A (pyIter x) (λ it' s₅=>codeAny (model prog w) A (.compStart e (d+1) it' acc env) (λ r s₆=>match r with
   | .ok _=>Q s₆
   | .error _=>False) s₅) (λ _ _=>False) s₄) (λ _ _=>False) s
theorem n5(elt target iter:Expr)(gens:List Comprehension)(ifs:List Expr)(scope:Scope)(pos:Pos)(d:Nat)(it acc:Value)(env:Env)(h:gens[d]?=some ⟨target,iter,ifs,0⟩)(hn:gens[d+1]?=none) :
  compTurn (.ListComp elt gens scope pos) d it acc env=(do
   standAt iter.pos
   match <-pyNext it with
   | none=>pure (.done .next)
   | some v=>
    letOwnedTupleGo target it v
    assign target env v
    let mut ok:=true
    for c in ifs do
     if ok then ok <-isTrue c env (eval c env)
    if ok then
     (do let _ <-call (.builtin "list.append") [acc,<-eval elt env])
    again (.compLoop (.ListComp elt gens scope pos) d it acc env)):=by
 unfold compTurn;erw[h,hn];rfl
theorem n6(elt target iter target' iter':Expr)(gens:List Comprehension)(ifs ifs':List Expr)(scope:Scope)(pos:Pos)(d:Nat)(it acc:Value)(env:Env)(h:gens[d]?=some ⟨target,iter,ifs,0⟩)(hn:gens[d+1]?=some ⟨target',iter',ifs',0⟩) :
  compTurn (.ListComp elt gens scope pos) d it acc env=(do
   standAt iter.pos
   match <-pyNext it with
   | none=>pure (.done .next)
   | some v=>
    letOwnedTupleGo target it v
    assign target env v
    let mut ok:=true
    for c in ifs do
     if ok then ok <-isTrue c env (eval c env)
    if ok then
     let x <-eval iter' env
     standAt iter'.pos
     let x <-foldedSetIterable iter' env x
     let _ <-runOwn (.compStart (.ListComp elt gens scope pos) (d+1) (<-holding [x] (pyIter x)) acc env) env
    again (.compLoop (.ListComp elt gens scope pos) d it acc env)):=by
 unfold compTurn;erw[h,hn];rfl
section
variable{prog:Program}{w:World}{A:Around}{R:Result->Shared->Prop}{s:Shared}
theorem qh{d:Nat}{acc:Value}(hg:gens[d]?=some ⟨target,iter,ifs,0⟩)(hn:∀g',gens[d+1]?=some g'->g'.is_async=0/\∀x,foldedSetIterable g'.iter env x=pure x)(I:Nat->Shared->Prop)
  (turn:∀n s,I n s->wpAny (model prog w) A (pyNext it) (λ r s₁=>match r with
   | none=>R (.ok .next) s₁
   | some v=>wpAny (model prog w) A (letOwnedTupleGo target it v) (λ _ s₁'=>wpAny (model prog w) A (assign target env v) (λ _ s₂=>
     wpAny (model prog w) A (forIn ifs true λ c r=>if r=true then do let ok <-isTrue c env (eval c env);pure (ForInStep.yield ok) else pure (ForInStep.yield r)) (λ ok s₃=>
      if ok=true then fc prog w A (.ListComp elt gens scope pos) elt d acc env (λ s₅=>∃m,m < n/\I m s₅) gens[d+1]? s₃
      else ∃m,m < n/\I m s₃) (λ _ _=>False) s₂) (λ _ _=>False) s₁') (λ _ _=>False) s₁) (λ _ _=>False) s)
  (n:Nat) (h:I n s) :
  codeAny (model prog w) A (.compLoop (.ListComp elt gens scope pos) d it acc env) R s:=by
 refine codeAny_loop rfl I (λ n s hI=>?_) n h;show wpAny _ A ((compTurn (.ListComp elt gens scope pos) d it acc env).onRaise (λ x=>do noteFrame x env;theTreesLotGoes x)) _ _ s;refine wpAny_noted ?_;cases hx:gens[d+1]? with
 | none=>
  rw[n5 _ _ _ _ _ _ _ _ _ _ _ hg hx];refine Qa (RK (Qa (QF (turn n s hI) (λ r s₁ h₁=>?_) λ _ _ h'=>h'.elim)));cases r with
  | none=>exact Qg h₁
  | some v=>
   refine Qa (QF h₁ (λ _ s₁' h₁'=>?_) λ _ _ h'=>h'.elim);refine Qa (QF h₁' (λ _ s₂ h₂=>Qa (QF h₂ (λ ok s₃ h₃=>?_) λ _ _ h'=>h'.elim)) λ _ _ h'=>h'.elim);cases ok with
   | false=>exact Qg ⟨rfl,h₃⟩
   | true=>
    rw[hx] at h₃;exact Qa (Qa (QF h₃ (λ x s₄ h₄=>Qa (QF h₄ (λ _ s₅ h₅=>Qg (Qg ⟨rfl,h₅⟩)) λ _ _ h'=>h'.elim)) λ _ _ h'=>h'.elim))
 | some g'=>
  let⟨target',iter',ifs',as⟩:=g';let⟨h0,hfs⟩:=hn _ hx;have h0:as=0:=h0;subst h0;rw[n6 _ _ _ _ _ _ _ _ _ _ _ _ _ _ hg hx];refine Qa (RK (Qa (QF (turn n s hI) (λ r s₁ h₁=>?_) λ _ _ h'=>h'.elim)));cases r with
  | none=>exact Qg h₁
  | some v=>
   refine Qa (QF h₁ (λ _ s₁' h₁'=>?_) λ _ _ h'=>h'.elim);refine Qa (QF h₁' (λ _ s₂ h₂=>Qa (QF h₂ (λ ok s₃ h₃=>?_) λ _ _ h'=>h'.elim)) λ _ _ h'=>h'.elim);cases ok with
   | false=>exact Qg ⟨rfl,h₃⟩
   | true=>
    rw[hx] at h₃;refine Qa (QF h₃ (λ x s₄ h₄=>?_) λ _ _ h'=>h'.elim);refine Qa (RK (Qa (wpAny_of_eq (hfs x) (Qa (QV (QF h₄ (λ it' s₅ h₅=>?_) λ _ _ h'=>h'.elim))))));refine Qa (wpAny_runOwn (RU h₅ λ r s₆ h₆=>?_));cases r with
    | ok f=>exact Qg ⟨rfl,h₆⟩
    | error e=>exact h₆.elim
theorem gQ{d:Nat}{acc:Value}(hg:gens[d]?=some ⟨target,iter,ifs,0⟩)
  (h0:codeAny (model prog w) A (.compLoop (.ListComp elt gens scope pos) d it acc env) R s)
  (h:wpAny (model prog w) A (pyIter it) (λ it' s'=>codeAny (model prog w) A (.compLoop (.ListComp elt gens scope pos) d it' acc env) R s')
   (notedBy (model prog w) A env λ x s'=>R (.error x) s') s) :
  codeAny (model prog w) A (.compStart (.ListComp elt gens scope pos) d it acc env) R s:=by
 refine codeAny_of_tree ?_;show wpAny _ _ ((compStart (.ListComp elt gens scope pos) d it acc env).onRaise (λ x=>do noteFrame x env;standAt theWindowsPlace)) _ _ s;refine wpAny_notedAt ?_;unfold compStart;have hcl:(clausesOf (.ListComp elt gens scope pos))[d]?=some ⟨target,iter,ifs,0⟩:=hg;erw[hcl];show wpAny _ _ (ask >>= _) _ _ s;refine Qa (wpAny_askSetting (wpAny_ite ?_));split
 .first
   | exact Qa (Qg (Qg (And.intro rfl h0)))
   | exact Qg (And.intro rfl h0)
 .first
   | exact Qa (wpAny_rule (Qa (RK (Qa (QF h (λ it' s' h'=>Qg (And.intro rfl h')) λ _ _ x=>x)))))
   | (refine Qa (wpAny_rule ?_);show wpAny _ _ (standAt iter.pos >>= _) _ _ s;exact Qa (RK (Qa (QF h (λ it' s' h'=>Qg (And.intro rfl h')) λ _ _ x=>x))))
def sy(prog:Program)(w:World)(A:Around)(e:Expr)(d:Nat)(tg:Expr)(ifs:List Expr)(it acc:Value)(env:Env)(rw:(Shared->Prop)->Shared->Prop):Prop:=
 ∀(R:Result->Shared->Prop) (s:Shared) (I:Nat->Shared->Prop),
  (∀n s,I n s->wpAny (model prog w) A (pyNext it) (λ r s₁=>match r with
   | none=>R (.ok .next) s₁
   | some v=>wpAny (model prog w) A (letOwnedTupleGo tg it v) (λ _ s₁'=>wpAny (model prog w) A (assign tg env v) (λ _ s₂=>
     wpAny (model prog w) A (forIn ifs true λ c r=>if r=true then do let ok <-isTrue c env (eval c env);pure (ForInStep.yield ok) else pure (ForInStep.yield r)) (λ ok s₃=>
      if ok=true then rw (λ s₅=>∃m,m < n/\I m s₅) s₃
      else ∃m,m < n/\I m s₃) (λ _ _=>False) s₂) (λ _ _=>False) s₁') (λ _ _=>False) s₁) (λ _ _=>False) s)->
  ∀n,I n s->codeAny (model prog w) A (.compLoop e d it acc env) R s
theorem jy{d:Nat}{acc:Value}(hg:gens[d]?=some ⟨target,iter,ifs,0⟩)(hn:∀g',gens[d+1]?=some g'->g'.is_async=0/\∀x,foldedSetIterable g'.iter env x=pure x) :
  sy prog w A (.ListComp elt gens scope pos) d target ifs it acc env (λ Q s=>fc prog w A (.ListComp elt gens scope pos) elt d acc env Q gens[d+1]? s):=
 λ _ _ I turn n h=>qh hg hn I turn n h
end
def PB(X:L2.Cx)(rw:(Shared->Prop)->Shared->Prop)(t:L2.St->Hp->(L2.St->Hp->Prop)->Prop):Prop:=
 ∀(aa:List (Addr×Obj)) (s:Shared) (Y:L2.St) (H:Hp) (Q:L2.St->Hp->Prop),Inv X aa Y H s->t Y H Q->rw (λ s'=>∃σ' H',Inv X aa σ' H' s'/\Q σ' H') s
inductive Hs(K:PySem.W.Frag)(J:List Addr)(H:Hp):List W->List (Str×V)->Prop
 | nil:Hs K J H [] []
 | cons {k w v ws vs}:RW K J H w v->Hs K J H ws vs->Hs K J H (.tup [.str k,w]::ws) ((k,v)::vs)
def AK(b:Bool)(K:PySem.W.Frag)(J:List Addr)(H:Hp)(Δ:Addr)(acc:List W):Prop:=match b with
 | false=>∃vs,H Δ=some (.lst vs)/\aW K J H acc vs
 | true=>∃gs,H Δ=some (.dK (Gr [] (keyed gs)))/\Hs K J H acc gs
def SB(b:Bool)(X:L2.Cx)(cl:Cl)(Δ:Addr)(ev:Loc->Mem->List W->R (List W×Loc)):L2.St->Hp->(L2.St->Hp->Prop)->Prop:=fun Y H Q=>
 ∃J Z m acc acc' ρ' m',Rel X.K cl J m H/\RL X.K J H Z Y/\AK b X.K J H Δ acc/\Δ∉J/\ev Z m acc=.ok (acc',ρ') m'/\
  ∀J' H' σ',dM (some Δ) J H J' H'->Rel X.K cl J' m' H'->RL X.K J' H' ρ' σ'->AK b X.K J' H' Δ acc'->Δ∉J'->Q σ' H'
section
variable{X:L2.Cx}{cl:Cl}{C:D.Cx}{e elt:Expr}{gens:List Comprehension}{d:Nat}{Δ:Addr}{bk:Bool}
theorem Hs.cY{Δ:Option Addr}(r:Rel K cl J m H)(hD:∀d,Δ=some d->kc (H d))(x:dM Δ J H J' H'){ws:List W}(q:Hs K J H ws gs):Hs K J' H' ws gs:=by
 induction q with
 | nil=>exact .nil
 | cons a _ ih=>exact .cons (a.cY r hD x) ih
theorem AK.acc{acc:List W}(h:AK bk K J H Δ acc):kc (H Δ):=by
 cases bk
 .let⟨vs,e,_⟩:=h;rw[e];trivial
 .let⟨vs,e,_⟩:=h;rw[e];trivial
theorem AK.Kv{acc:List W}(h:AK bk K J H Δ acc):∀d,some Δ=some d->kc (H d):=λ d z=>by cases z;exact h.acc
theorem AK.CV{acc:List W}(h:AK bk K J H Δ acc):∀d,some Δ=some d->H d≠none:=λ d z e=>by cases z;have q:=h.acc;rw[e] at q;exact q
theorem Ext.CD(x:Ext J H J' H')(hd:kc (H Δ))(hn:Δ∉J):Δ∉J':=λ z=>by
 let⟨γ,rfl,hγ⟩:=x.pre;rcases QW.mp z with z | z
 .exact hn z
 .rw[hγ _ z] at hd;exact hd
theorem AK.mono{acc:List W}(h:AK bk K J H Δ acc)(r:Rel K cl J m H)(x:Ext J H J' H')(hn:Δ∉J):AK bk K J' H' Δ acc/\Δ∉J':=by
 refine⟨?_,x.CD h.acc hn⟩;cases bk
 .let⟨vs,e,q⟩:=h;exact⟨vs,x.keep e hn 's',q.mono r x⟩
 .let⟨vs,e,q⟩:=h;exact⟨vs,x.keep e hn 's',q.cY r BB x⟩
theorem Ht{de:E}(hx:X.xe=λ _ _=>False)(hn:gens[d+1]?=none)(he:PE X elt (SE X cl (ao C de))):PB X (λ Q s=>fc X.prog X.w X.A e elt d (.ref Δ) X.env Q gens[d+1]? s) (SB false X cl Δ (jj C (.elt de))):=by
 intro aa s Y H Q I h;let⟨J,Z,m,acc,acc',ρ',m',r,l,ak,nd,ev,k⟩:=h;erw[jK] at ev;let⟨w,m1,e1,ev⟩:=R.ah ev;split at ev
 .ext hl;cases ev;show fc X.prog X.w X.A e elt d (.ref Δ) X.env _ gens[d+1]? s;rw[hn];have go:=he aa s Y H (λ v H1=>∃β1,Ext J H β1 H1/\Rel X.K cl β1 m' H1/\RW X.K β1 H1 w v) I ⟨J,Z,m,w,m',r,l,e1,fun β1 H1 v1 x1 r1 q1=>⟨β1,x1,r1,q1⟩⟩;rw[hx] at go;refine QF go (λ u s1 ⟨v,H1,I1,rv,β1,x1,r1,q1⟩=>?_) λ _ _ z=>z;let⟨ak1,nd1⟩:=ak.mono r x1 nd;let⟨vs,hd1,q⟩:=id ak1;have hlen:vs.length < sizeLine:=QA (by rw[<-q.length];exact hl) cN;have ap:=oH (X:=X) aa s1 Y H1 (.ref Δ) [v] (.ref Δ) [u] (λ _ H'=>H'=upd H1 Δ (.lst (vs++[v]))) I1 rfl %[|rv] ⟨_,vs,v,rfl,rfl,hd1,hlen,rfl⟩;rw[hx] at ap;refine QF ap (λ _ s2 ⟨_,H2,I2,_,e2⟩=>?_) λ _ _ z=>z;subst e2;let⟨x2,r2⟩:=r1.Ni (u':=.lst (vs++[v])) ak1.acc nd1;refine⟨Y,_,I2,k β1 _ Y (x1.toD.trans r1 x2 ak1.CV) r2 ((l.mono r x1).cY r1 ak1.Kv x2) ⟨_,aJ,?_⟩ nd1⟩;exact(q.cY r1 ak1.Kv x2).append %[|q1.cY r1 ak1.Kv x2]
 .cases ev
theorem sA{rw:(Shared->Prop)->Shared->Prop}{P9:It}{fp:List Addr}{it:Addr}{tn:Nat->Heap->Prop}{src:Src}
  (hx:X.xe=λ _ _=>False) (hc:X.calm=true) (hlr:sy X.prog X.w X.A e d tg ifs (.ref it) (.ref Δ) X.env rw) (hmo:∀{Q Q':Shared->Prop} {s:Shared},(∀s,Q s->Q' s)->rw Q s->rw Q' s)
  (Tu:Turn X.prog X.w X.K tg P9 fp it tn) (is:IS X cl P9 src β0 H0) (pg:PG X tg (SG X cl (gU C (.pt t)))) (yw:mq X ifs (ST X cl (bw C di))) (pb:PB X rw (SB bk X cl Δ (jj C rest)))
 {ρ':Loc} {acc acc':List W} (I:Inv X aa Y H s) (st:tn 0 s.heap) (CW:∀b∈fp,jf X aa H b)
  (hpre:∃γ,J=β0++γ) (htup:∀{a:Addr} {vs:List V},dI X.K H0 a vs->dI X.K H a vs) (OV:∀{a:Addr} {o:Obj} {u:HO},H0 a=some (.frz o u)->H a=@(.frz o u)) (r:Rel X.K cl J m H) (l:RL X.K J H Z Y) (ak:AK bk X.K J H Δ acc) (nd:Δ∉J)
  (ev:dB src.get t (fun Z m=>bw C di Z m) (fun Z m acc=>jj C rest Z m acc) n 0 Z m acc=.ok (acc',ρ') m') {Rr:Result->Shared->Prop}
  (fin:∀s' σ' H' J',Inv X aa σ' H' s'->dM (some Δ) J H J' H'->Rel X.K cl J' m' H'->RL X.K J' H' ρ' σ'->AK bk X.K J' H' Δ acc'->Δ∉J'->Rr (.ok .next) s') :
  codeAny (model X.prog X.w) X.A (.compLoop e d (.ref it) (.ref Δ) X.env) Rr s:=by
 have stat:∀{H':Hp},(∀b∈fp,H' b=none)->∀b∈fp,jf X aa H' b:=λ hn b hb=>⟨hn b hb,(CW b hb).2⟩;refine hlr _ _ (λ n s'=>∃i σ' H' J' Z1 m1 acc1,Inv X aa σ' H' s'/\tn i s'.heap/\(∀b∈fp,H' b=none)/\dM (some Δ) J H J' H'/\Rel X.K cl J' m1 H'/\RL X.K J' H' Z1 σ'/\AK bk X.K J' H' Δ acc1/\Δ∉J'/\
  dB src.get t (fun Z m=>bw C di Z m) (fun Z m acc=>jj C rest Z m acc) n i Z1 m1 acc1=.ok (acc',ρ') m') ?_ n ⟨0,Y,H,J,Z,m,acc,I,st,λ b hb=>(CW b hb).1,Ext.refl,r,l,ak,nd,ev⟩
 rintro n s1 ⟨i,σ1,H1,β1,Z1,m1,acc1,I1,st1,fr1,x1,r1,l1,ak1,nd1,e1⟩;have Nq:∃γ,β1=β0++γ:=by
  let⟨γ,h1,_⟩:=x1.pre;let⟨δ,h2⟩:=hpre;exact⟨δ++γ,by rw[h1,h2,append_assoc]⟩
 let⟨go,stop⟩:=is β1 m1 H1 i Nq (λ h=>x1.LJ r ak.Kv (htup h)) (λ h=>x1.fz r ak.Kv (OV h)) r1;unfold dB at e1;split at e1
 .cases e1
 .ext e2;cases e1;refine QF (Tu.done X rfl rfl rfl hc i aa s1 σ1 H1 (λ _ _=>False) I1 (stat fr1) st1 (stop e2)) (λ rr s2 ⟨hr,I2⟩=>?_) λ _ _ z=>z;subst hr;exact fin s2 σ1 H1 β1 I2 x1 r1 l1 ak1 nd1
 .ext w e2;let⟨g1,g2⟩:=go w e2;split at e1
  .cases e1
  .ext n';split at e1
   .cases e1
   .ext Z2 e3;let⟨b,m3,e4,e5⟩:=R.ah e1;refine QF (Tu.item X rfl rfl rfl hc i aa s1 σ1 H1 (λ _ _=>False) I1 (stat fr1) st1 g1) (λ rr s2 ⟨u,hr,h2⟩=>?_) λ _ _ z=>z;subst hr;refine QF h2 (λ _ s3 ⟨x,H3,I3,r3,y3,st3,fr3⟩=>?_) λ _ _ z=>z;let⟨x3,rr3,q3⟩:=g2 x H3 y3;let⟨ak3,nd3⟩:=ak1.mono r1 x3 nd1;have OW:=I3.pinned (stat fr3) (Tu.obj _ _ st3);have l3:=l1.mono r1 x3;have Oh:=pg _ s3 σ1 H3 x u (fun Y4 H4=>∃β4,Ext β1 H3 β4 H4/\Rel X.K cl β4 m1 H4/\RL X.K β4 H4 Z2 Y4) OW r3 ⟨β1,Z1,m1,w,Z2,m1,rr3,l3,q3,by erw[gU,e3],fun β4 H4 Y4 x4 r4 l4=>⟨β4,x4,r4,l4⟩⟩;rw[hx] at Oh;refine QF Oh (λ _ s4 ⟨Y4,H4,I4,β4,x4,r4,l4⟩=>?_) λ _ _ z=>z;let⟨ak4,nd4⟩:=ak3.mono rr3 x4 nd3;have Oi:=yw _ s4 Y4 H4 (λ bb H5=>bb=b/\∃β5,Ext β4 H4 β5 H5/\Rel X.K cl β5 m3 H5) I4 ⟨β4,Z2,m1,b,m3,r4,l4,e4,fun β5 H5 x5 r5=>⟨rfl,β5,x5,r5⟩⟩;rw[hx] at Oi;refine QF Oi (λ bb s5 ⟨H5,I5,hb,β5,x5,r5⟩=>?_) λ _ _ z=>z;subst hb;let⟨ak5,nd5⟩:=ak4.mono r4 x5 nd4;have l5:=l4.mono r4 x5;have OX:Ext β1 H1 β5 H5:=(x3.trans rr3 x4).trans r4 x5;have Oj:dM (some Δ) J H β5 H5:=x1.trans r1 OX.toD ak1.CV;have again:∀{σ':L2.St} {H':Hp} {s':Shared} {J':List Addr} {Z4:Loc} {m4:Mem} {CY:List W},Inv X (aa++lX fp s3.heap) σ' H' s'->dM (some Δ) J H J' H'->Rel X.K cl J' m4 H'->RL X.K J' H' Z4 σ'->AK bk X.K J' H' Δ CY->Δ∉J'->
      dB src.get t (fun Z m=>bw C di Z m) (fun Z m acc=>jj C rest Z m acc) n' (i+1) Z4 m4 CY=.ok (acc',ρ') m'->
      ∃mm,mm < n'+1/\∃i σ' H' J' Z1 m1 acc1,Inv X aa σ' H' s'/\tn i s'.heap/\(∀b∈fp,H' b=none)/\dM (some Δ) J H J' H'/\Rel X.K cl J' m1 H'/\RL X.K J' H' Z1 σ'/\AK bk X.K J' H' Δ acc1/\Δ∉J'/\
       dB src.get t (fun Z m=>bw C di Z m) (fun Z m acc=>jj C rest Z m acc) mm i Z1 m1 acc1=.ok (acc',ρ') m':=λ {σ' H' s' J' Z4 m4 CY} I' x' r' l' ak' nd' e'=>by
     refine⟨n',RE _,i+1,σ',H',J',Z4,m4,CY,I'.jF,Tu.keep _ _ _ st3 λ b hb o eo=>(I'.pin (b,o) (Rk _ (Rk _ (ic hb eo)))).1,λ b hb=>?_,x',r',l',ak',nd',e'⟩;let⟨o,eo,_⟩:=Tu.obj _ _ st3 b hb;exact(I'.pin (b,o) (Rk _ (Rk _ (ic hb eo)))).2.1
    cases bb with
    | false=>exact again I5 Oj r5 l5 ak5 nd5 e5
    | true=>
     erw[QL] at e5 ⊢;let⟨p,m6,e6,e7⟩:=R.ah e5;let⟨acc6,Z6⟩:=p;have OY:=pb _ s5 Y4 H5 (fun Y6 H6=>∃β6,dM (some Δ) β5 H5 β6 H6/\Rel X.K cl β6 m6 H6/\RL X.K β6 H6 Z6 Y6/\AK bk X.K β6 H6 Δ acc6/\Δ∉β6) I5 ⟨β5,Z2,m3,acc1,acc6,Z6,m6,r5,l5,ak5,nd5,e6,fun β6 H6 Y6 x6 r6 l6 ak6 nd6=>⟨β6,x6,r6,l6,ak6,nd6⟩⟩;refine hmo (λ s6 ⟨Y6,H6,I6,β6,x6,r6,l6,ak6,nd6⟩=>?_) OY;exact again I6 (Oj.trans r5 x6 ak5.CV) r6 l6 ak6 nd6 e7
theorem iT{w:World}{A:Around}{Q Q':Shared->Prop}{o:Option Comprehension}(hq:∀s,Q s->Q' s)(h:fc P w A e elt d (.ref Δ) env Q o s):fc P w A e elt d (.ref Δ) env Q' o s:=by
 cases o with
 | none=>exact QF h (λ _ _ h=>QF h (λ _ s z=>hq s z) λ _ _ z=>z) λ _ _ z=>z
 | some g=>exact QF h (λ _ _ h=>QF h (λ _ s z=>RU z λ rr s' z'=>by
   cases rr with
   | ok f=>exact hq _ z'
   | error e=>exact z') λ _ _ z=>z) λ _ _ z=>z
theorem Kw{qQ:E}(hx:X.xe=λ _ _=>False)(hc:X.calm=true)(hg:gens[d+1]?=some ⟨tg,iter,ifs,0⟩)(hn:∀g',gens[d+1+1]?=some g'->g'.is_async=0/\∀x,foldedSetIterable g'.iter X.env x=pure x)
  (hi:PI X tg iter (SI X cl (cC C qQ))) (pg:PG X tg (SG X cl (gU C (.pt t)))) (yw:mq X ifs (ST X cl (bw C di))) (pb:PB X (λ Q s=>fc X.prog X.w X.A (.ListComp elt gens scope pos) elt (d+1) (.ref Δ) X.env Q gens[d+1+1]? s) (SB false X cl Δ (jj C rest))) :
  PB X (λ Q s=>fc X.prog X.w X.A (.ListComp elt gens scope pos) elt d (.ref Δ) X.env Q gens[d+1]? s) (SB false X cl Δ (jj C (.gen t [] qQ di rest))):=by
 intro aa s Y H Q I h;let⟨J,Z,m,acc,acc',ρ',m',r,l,ak,nd,ev,k⟩:=h;erw[jK,br] at ev;let⟨src,m1,e1,ev⟩:=R.ah ev;show fc X.prog X.w X.A (.ListComp elt gens scope pos) elt d (.ref Δ) X.env _ gens[d+1]? s;rw[hg];have go:=hi aa s Y H (λ P9 H1=>∃β1,Ext J H β1 H1/\Rel X.K cl β1 m1 H1/\IS X cl P9 src β1 H1) I ⟨J,Z,m,src,m1,r,l,e1,fun β1 H1 P9 x1 r1 is=>⟨β1,x1,r1,is⟩⟩;rw[hx] at go;refine QF go (λ v s1 h1=>QF h1 (λ itv s2 h2=>?_) λ _ _ z=>z) λ _ _ z=>z;let⟨it,fp,tn,P9,H1,e2,I1,Tu,st,CW,β1,x1,r1,is⟩:=h2;subst e2;let⟨ak1,nd1⟩:=ak.mono r x1 nd;have loop:codeAny (model X.prog X.w) X.A (.compLoop (.ListComp elt gens scope pos) (d+1) (.ref it) (.ref Δ) X.env) (λ rr s₆=>match rr with
   | .ok _=>∃σ' H',Inv X aa σ' H' s₆/\Q σ' H'
   | .error _=>False) s2:=
  sA hx hc (jy hg hn) iT Tu is pg yw pb I1 st CW ⟨[],by simp⟩ (λ h=>h) (λ h=>h) r1 (l.mono r x1) ak1 nd1 ev λ s' σ' H' J' I' x' r' l' ak' nd'=>⟨σ',H',I',k J' H' σ' (x1.toD.trans r1 x' ak1.CV) r' l' ak' nd'⟩
 exact gQ hg loop (Tu.self _ 0 _ _ _ st loop)
theorem RL.br:∀{js:List Nat} {Z:Loc} {Y:L2.St},RL K J H Z Y->RL K J H (D.br js Z) (L2.br js Y)
 | [],_,_,l=>l
 | j::js,Z,Y,l=>by
  refine RL.br (js:=js) ⟨by simp[l.len],λ {i w} h=>?_⟩
  by_cases e:j=i
  .subst e;rw[getElem?_set] at h;rw[Qs rfl] at h;split at h<;>cases h
  .rw[QT e] at h ⊢;exact l.at_ h
def accN:Bool->Sem Value
 | false=>newList []
 | true=>newDict
def CZ:Bool->Obj
 | false=>{cls:=.type "list",dict:=none,data:=.seq ([]:List Value).toArray}
 | true=>{cls:=.type "dict",dict:=none,data:=.dict #[]}
def qj:Bool->HO
 | false=>.lst []
 | true=>.dK []
theorem z8{A:Around}{E:Value->Shared->Prop}(h:Q (.ref s.heap.objs.size) {s with heap:=s.heap.push (CZ bk)}):wpAny (model X.prog X.w) A (accN bk) Q E s:=by
 cases bk<;>exact RQ h
theorem C0(I:Inv X aa Y H s):Inv X aa Y (upd H s.heap.objs.size (qj bk)) {s with heap:=s.heap.push (CZ bk)}:=by
 cases bk
 .exact I.JH (its:=[]) (t':=s.toks) .nil (RC _)
 .exact I.laid (a:=s.heap.objs.size) (o:=.dK []) (h':=s.heap.push {cls:=.type "dict",data:=.dict #[]}) (t':=s.toks) (λ _ _ q=>Qc _ q) (Qk _) (zb s.heap I.big)
theorem AK.zero(h:H Δ=@(qj bk)):AK bk K J H Δ []:=by
 cases bk
 .exact⟨[],h,.nil⟩
 .exact⟨[],h,.nil⟩
def uD(prog:Program)(w:World)(A:Around)(e:Expr):Prop:=∀(R:Result->Shared->Prop) (s:Shared) (it acc:Value) (env:Env),codeAny (model prog w) A (.compLoop e 0 it acc env) R s->
 wpAny (model prog w) A (pyIter it) (λ it' s'=>codeAny (model prog w) A (.compLoop e 0 it' acc env) R s') (notedBy (model prog w) A env λ x s'=>R (.error x) s') s->codeAny (model prog w) A (.compStart e 0 it acc env) R s
theorem sC{ev:Loc->Mem->R W}{js:List Nat}{gs:List Comprehension}{qQ:E}{rw:Env->Addr->(Shared->Prop)->Shared->Prop}(hc:X.calm=true)(ok:ig X.N js scope X.env.scope)(hcl:clausesOf e=⟨tg,iter,ifs,0⟩::gs)(hst:uD X.prog X.w X.A e)
  (hlr:∀it Δ env,sy X.prog X.w X.A e 0 tg ifs (.ref it) (.ref Δ) env (rw env Δ)) (hmo:∀{Δ:Addr} {env:Env} {Q Q':Shared->Prop} {s:Shared},(∀s,Q s->Q' s)->rw env Δ Q s->rw env Δ Q' s)
  (hev:∀{Z:Loc} {m:Mem} {w:W} {m':Mem},ev Z m=.ok w m'->∃acc Z9 m9 o,jj C (.gen t js qQ di rest) Z m []=.ok (acc,Z9) m9/\w=.ref m9.length/\m'=m9++[o]/\∀{J:List Addr} {H:Hp} {Δ:Addr},AK bk X.K J H Δ acc->RO X.K cl J H Δ o)
  (hi:PI X tg iter (SI X cl (cC C qQ))) (pg:∀cl' s₀ H₀ fp pn,PG (X.comp scope cl' s₀ H₀ fp pn) tg (SG (X.comp scope cl' s₀ H₀ fp pn) cl (gU C (.pt t)))) (yw:∀cl' s₀ H₀ fp pn,mq (X.comp scope cl' s₀ H₀ fp pn) ifs (ST (X.comp scope cl' s₀ H₀ fp pn) cl (bw C di)))
  (pb:∀cl' s₀ H₀ fp pn Δ,PB (X.comp scope cl' s₀ H₀ fp pn) (rw (X.comp scope cl' s₀ H₀ fp pn).env Δ) (SB bk (X.comp scope cl' s₀ H₀ fp pn) cl Δ (jj C rest)))
  (hs:∀x,foldedSetIterable iter X.env x=pure x) {Q:VK} (I:Inv X aa Y H s) (h:SE X cl ev Y H Q) {use:Option (Value->Sem Unit)} {Q':Value->Shared->Prop}
  (fin:∀(D Cf:Addr) (s':Shared) (H':Hp),(∀h',(∀b o,b≠Cf->s'.heap.get? b=some o->h'.get? b=some o)->Inv X aa Y H' {s' with heap:=h'})->Q (.ref D) H'->(∃m,s'.heap.Ns Cf m)->H' Cf=none->Cf≠X.env.locals->X.s₀.heap.objs.size<=Cf->(∀x c,X.env.cells.lookup x=some c->c≠Cf)->(∀p∈X.pn++aa,p.1≠Cf)->
   compPost (model X.prog X.w) X.A X.xe use Q' (.ref D) Cf (.ok .next) s') :
  wpAny (model X.prog X.w) X.A (comprehension e scope X.env p (accN bk) false (eval iter X.env) use) Q' X.xe s:=by
 let⟨J,Z,m,w,m',r,l,ew,k⟩:=h;let⟨ws,Z9,m9,ob,e8,rfl,rfl,hob⟩:=hev ew;clear ew;erw[jK] at e8;let⟨src,m1,e1,e9⟩:=R.ah e8;clear e8;have hclos:closureFor scope X.env=pure (eU X.env scope.names []):=nT λ y hy hk=>I.ok.has y.1 (ok.free y hy hk);refine wpAny_comprehension_free hcl hs hclos ok.kind ok.loc (bY (hi aa s Y H (λ P9 H1=>∃β1,Ext J H β1 H1/\Rel X.K cl β1 m1 H1/\IS X cl P9 src β1 H1) I ⟨J,Z,m,src,m1,r,l,e1,fun β1 H1 P9 x1 r1 is=>⟨β1,x1,r1,is⟩⟩) λ v s1 h1=>bY h1 λ itv s2 h2=>?_);let⟨it,fp,tn,P9,H2,e2,I2,Tu,st2,f2,β2,x2,r2,is⟩:=h2;subst e2;have LN:H2 s2.heap.objs.size=none:=I2.fresh;refine z8 ?_;have I3:Inv X aa Y (upd H2 s2.heap.objs.size (qj bk)) {s2 with heap:=s2.heap.push (CZ bk)}:=C0 I2;generalize hs3:({s2 with heap:=s2.heap.push (CZ bk)}:Shared)=s3 at I3 ⊢;have Ky:∀b o,s2.heap.get? b=some o->s3.heap.get? b=some o:=λ b o e=>by rw[<-hs3];exact Qc _ e
 have C1:∀b∈fp,b < s2.heap.objs.size:=λ b hb=>by
  let⟨o,e,_⟩:=Tu.obj _ _ st2 b hb;exact Qh e
 have Hu:s3.heap.objs.size=s2.heap.objs.size+1:=by rw[<-hs3];exact QJ _ _
 have f3:∀b∈fp,jf X aa (upd H2 s2.heap.objs.size (qj bk)) b:=λ b hb=>⟨by rw[aq (Ql (C1 b hb))];exact(f2 b hb).1,(f2 b hb).2⟩;refine I3.enter ok f3 (λ b hb=>by rw[Hu];exact QU (C1 b hb)) λ cells h₁ old F I4=>?_;have Ol:tn 0 h₁:=Tu.keep _ _ _ st2 λ b hb o e=>old _ _ (Ky _ _ e);have stat:∀{H':Hp},(∀b∈fp,H' b=none)->∀b∈fp,jf (X.comp scope cells s3 (upd H2 s2.heap.objs.size (qj bk)) fp aa) [] H' b:=λ {H'} hn b hb=>by
  refine⟨hn b hb,?_,λ z=>?_,.inl hb,λ x c e=>?_,λ p hp=>?_⟩
  .show b≠s3.heap.objs.size;exact Ql (by rw[Hu];exact QU (C1 b hb))
  .rcases Qp.mp (I3.pH b z) with q | q
   .exact(f2 b hb).2.1 q
   .exact(f2 b hb).2.2.1 q
  .rcases F.old x c e with e | e
   .exact(f2 b hb).2.2.2.2.1 x c e
   .exact Q6 (Nat.lt_trans (by rw[Hu];exact QU (C1 b hb)) e)
  .exact(f2 b hb).2.2.2.2.2 p (by simpa using hp)
 have x3:Ext β2 H2 β2 (upd H2 s2.heap.objs.size (qj bk)):=⟨⟨[],by simp,by simp⟩,λ h _ _=>by rw[aq (au h LN)];exact h⟩;have r3:Rel X.K cl β2 m1 (upd H2 s2.heap.objs.size (qj bk)):=⟨r2.len,r2.nd,λ h1 h2=>by
  have q:=r2.obj h1 h2;let⟨u,e,_⟩:=q.ex;exact q.mono r2 x3 (aq (au e LN))⟩
 have l3:RL X.K β2 (upd H2 s2.heap.objs.size (qj bk)) (D.br js Z) (L2.br js Y):=((l.mono r x2).mono r2 x3).br;have nD:s2.heap.objs.size∉β2:=r2.CD LN;have hD:H s2.heap.objs.size=none:=by
  cases z:H s2.heap.objs.size with
  | none=>rfl
  | some o=>
   by_cases hb:s2.heap.objs.size∈J
   .let⟨γ,hγ,_⟩:=x2.pre;exact absurd (by rw[hγ];exact mem_append_left _ hb) nD
   .have:=x2.keep z hb 's';rw[LN] at this;cases this
 have loop:∀s₄:Shared,s₄={s3 with heap:=h₁}->
   codeAny (model X.prog X.w) X.A (.compLoop e 0 (.ref it) (.ref s2.heap.objs.size) (compEnvC scope cells s3.heap.objs.size X.env))
    (compPost (model X.prog X.w) X.A X.xe use Q' (.ref s2.heap.objs.size) s3.heap.objs.size) s₄:=by
  intro s₄ e₄;subst e₄;refine sA (X:=X.comp scope cells s3 (upd H2 s2.heap.objs.size (qj bk)) fp aa) (cl:=cl) (C:=C) (Δ:=s2.heap.objs.size) rfl hc (hlr _ _ _) hmo Tu is (pg _ _ _ _ _) (yw _ _ _ _ _) (pb _ _ _ _ _ _)
   I4 Ol (stat λ b hb=>(f3 b hb).1) ⟨[],by simp⟩ (λ h=>x3.LJ r2 BB h) (λ h=>x3.fz r2 BB h) r3 l3 (AK.zero aJ) nD e9 ?_
  intro s' σ' H' J' I' x' r' l' ak' nd';let⟨m6,hm6,_⟩:=id I'.loc;have Nr:=r'.out nd' (hob ak');have Nt:Ext J H (J'++[s2.heap.objs.size]) H':=by
   let⟨γ,hγ,fγ⟩:=x2.pre;let⟨δ,hδ,fδ⟩:=x'.pre;refine⟨⟨γ++δ++[s2.heap.objs.size],by rw[hδ,hγ];simp,λ a ha=>?_⟩,λ {a o} h hb _=>?_⟩
   .rcases QW.mp ha with ha | ha
    .rcases QW.mp ha with ha | ha
     .exact fγ a ha
     .have z3:=fδ a ha;have na:a≠s2.heap.objs.size:=by
       rintro rfl;rw[aJ] at z3;cases z3
      rw[aq na] at z3;cases z:H a with
      | none=>rfl
      | some o=>
       by_cases hb:a∈J
       .let⟨u,eu,_⟩:=r2.ex (a:=a) (by rw[hγ];exact mem_append_left _ hb);rw[z3] at eu;cases eu
       .have:=x2.keep z hb 's';rw[z3] at this;cases this
    .simp at ha;rw[ha];exact hD
   .have h2:=x2.keep h hb 's';have na:a≠s2.heap.objs.size:=au h hD;have nb:a∉β2:=λ z=>by
     rw[hγ] at z;rcases QW.mp z with z | z
     .exact hb z
     .rw[fγ a z] at h;cases h
    exact x'.keep (by rw[aq na];exact h2) nb (by simpa using na)
  have Nu:Q (.ref s2.heap.objs.size) H':=k _ _ _ Nt Nr (.ref (r'.last _));refine fin _ _ s' H' (λ h' hk=>I3.Gx f3 I' hk) Nu ⟨m6,hm6⟩ I'.free (Q6 (QA I3.lt (Qk _))) I3.sz (λ x c e=>?_) (λ p hp=>Ql (Qh (I3.pin p hp).1));let⟨v,o,q,_⟩:=I3.cell x c e;exact Ql (Qh q)
 exact hst _ _ _ _ _ (loop _ rfl) (Tu.self _ 0 _ _ _ Ol (loop _ rfl))
variable{scope:Scope}{pos:Pos}{js:List Nat}{tg iter:Expr}{ifs:List Expr}{t:T}{qQ:E}{di:Es}{rest:G}
theorem vD(h:ao C (.comp (.gen t js qQ di rest)) Z m=.ok w m'):∃acc Z9 m9 o,jj C (.gen t js qQ di rest) Z m []=.ok (acc,Z9) m9/\w=.ref m9.length/\m'=m9++[o]/\∀{J:List Addr} {H:Hp} {Δ:Addr},AK false X.K J H Δ acc->RO X.K cl J H Δ o:=by
 erw[dj] at h;let⟨⟨ws,Z9⟩,m9,e8,e9⟩:=R.ah h;cases e9;exact⟨ws,Z9,m9,.lst ws,e8,rfl,rfl,λ h=>h⟩
section
variable{ev:Loc->Mem->R W}{gs:List Comprehension}{rw:Env->Addr->(Shared->Prop)->Shared->Prop}
theorem C2(hc:X.calm=true)(ok:ig X.N js scope X.env.scope)(hcl:clausesOf e=⟨tg,iter,ifs,0⟩::gs)(hst:uD X.prog X.w X.A e)
  (hlr:∀it Δ env,sy X.prog X.w X.A e 0 tg ifs (.ref it) (.ref Δ) env (rw env Δ)) (hmo:∀{Δ:Addr} {env:Env} {Q Q':Shared->Prop} {s:Shared},(∀s,Q s->Q' s)->rw env Δ Q s->rw env Δ Q' s)
  (hev:∀{Z:Loc} {m:Mem} {w:W} {m':Mem},ev Z m=.ok w m'->∃acc Z9 m9 o,jj C (.gen t js qQ di rest) Z m []=.ok (acc,Z9) m9/\w=.ref m9.length/\m'=m9++[o]/\∀{J:List Addr} {H:Hp} {Δ:Addr},AK bk X.K J H Δ acc->RO X.K cl J H Δ o)
  (hi:PI X tg iter (SI X cl (cC C qQ))) (pg:∀cl' s₀ H₀ fp pn,PG (X.comp scope cl' s₀ H₀ fp pn) tg (SG (X.comp scope cl' s₀ H₀ fp pn) cl (gU C (.pt t)))) (yw:∀cl' s₀ H₀ fp pn,mq (X.comp scope cl' s₀ H₀ fp pn) ifs (ST (X.comp scope cl' s₀ H₀ fp pn) cl (bw C di)))
  (pb:∀cl' s₀ H₀ fp pn Δ,PB (X.comp scope cl' s₀ H₀ fp pn) (rw (X.comp scope cl' s₀ H₀ fp pn).env Δ) (SB bk (X.comp scope cl' s₀ H₀ fp pn) cl Δ (jj C rest)))
  (hs:∀x,foldedSetIterable iter X.env x=pure x) (Nv:eval e X.env=comprehension e scope X.env pp (accN bk) false (eval iter X.env) none):PE X e (SE X cl ev):=by
 intro aa s Y H Q I h;rw[Nv];refine sC hc ok hcl hst hlr hmo hev hi pg yw pb hs I h ?_;intro D Cf s' H' hI q hm hn h1 h2 h3 h4;let⟨m,hm⟩:=hm;exact⟨m,hm,λ h' hs'=>⟨.ref D,H',hI h' λ b o hb e=>hs'.extBut b o hb e,rfl,q⟩⟩
theorem C3{y:Str}{py:Pos}{de:E}(hN:X.N.Nodup)(hy:X.N[i]?=some y)(hx:L2.Loc X.env.scope y)(hc:X.calm=true)(ok:ig X.N js scope X.env.scope)(hcl:clausesOf e=⟨tg,iter,ifs,0⟩::gs)(hst:uD X.prog X.w X.A e)
  (hlr:∀it Δ env,sy X.prog X.w X.A e 0 tg ifs (.ref it) (.ref Δ) env (rw env Δ)) (hmo:∀{Δ:Addr} {env:Env} {Q Q':Shared->Prop} {s:Shared},(∀s,Q s->Q' s)->rw env Δ Q s->rw env Δ Q' s)
  (hev:∀{Z:Loc} {m:Mem} {w:W} {m':Mem},ao C de Z m=.ok w m'->∃acc Z9 m9 o,jj C (.gen t js qQ di rest) Z m []=.ok (acc,Z9) m9/\w=.ref m9.length/\m'=m9++[o]/\∀{J:List Addr} {H:Hp} {Δ:Addr},AK bk X.K J H Δ acc->RO X.K cl J H Δ o)
  (hi:PI X tg iter (SI X cl (cC C qQ))) (pg:∀cl' s₀ H₀ fp pn,PG (X.comp scope cl' s₀ H₀ fp pn) tg (SG (X.comp scope cl' s₀ H₀ fp pn) cl (gU C (.pt t)))) (yw:∀cl' s₀ H₀ fp pn,mq (X.comp scope cl' s₀ H₀ fp pn) ifs (ST (X.comp scope cl' s₀ H₀ fp pn) cl (bw C di)))
  (pb:∀cl' s₀ H₀ fp pn Δ,PB (X.comp scope cl' s₀ H₀ fp pn) (rw (X.comp scope cl' s₀ H₀ fp pn).env Δ) (SB bk (X.comp scope cl' s₀ H₀ fp pn) cl Δ (jj C rest)))
  (hs:∀x,foldedSetIterable iter X.env x=pure x) (hsw:swapsWith e @(.Name y py) spos.line X.env=pure true) (hf:X.fn y=true\/X.env.scope.names.lookup y=some .local)
 (M0:evalThenUse e X.env (assign (.Name y py) X.env)=(do let _ <-comprehension e scope X.env pp (accN bk) false (eval iter X.env) @(assign (.Name y py) X.env))) :
  PS X (.Assign [.Name y py] e spos) (SS X cl (fu C (.asg (.pt (.var i)) de))):=by
 intro aa s Y H D I h;let⟨J,Z,m,f,m',r,l,e0,k⟩:=h;erw[fS] at e0;let⟨w,m1,e1,e0⟩:=R.ah e0;erw[gU,aE,R.bind] at e0;cases e0;have h:SE X cl (ao C de) Y H (λ v H'=>D.nx (Y.set i (some v)) H'):=⟨J,Z,m,w,_,r,l,e1,fun β1 H1 v1 x1 r1 q1=>k _ _ x1 r1 _ ((l.mono r x1).set q1)⟩;rw[exec_Assign_Name_used _ _ _ _ hsw];refine Qa (RK (Qa ?_));rw[M0];refine Qa (QF (sC (use:=@(assign (.Name y py) X.env)) (Q':=λ _ s'=>SP X aa D .next s') hc ok hcl hst hlr hmo hev hi pg yw pb hs I h ?_) (λ _ s' hq=>Qg (Qg hq)) λ _ _ e=>e);intro Dl Cf s' H' hI q hm hn h1 h2 h3 h4;let⟨m,hm⟩:=hm;have I':Inv X aa Y H' s':=hI s'.heap λ b o _ e=>e;refine wpAny_assign_Name (ow I' hN hy hx (v:=.ref Dl) (u:=.ref Dl) rfl (λ s2 I2 hsb=>?_) hf);let⟨a,sb,ha⟩:=hsb;have hne:Cf≠a:=by
  rcases ha with rfl | ha
  .exact h1
  .exact(h3 _ _ ha).symm
 refine⟨m,hm.sameBut sb hne,λ h' hs'=>⟨_,H',?_,q⟩⟩;exact I2.turned (t':=s2.toks) (it:=Cf) (λ b o hb e=>hs'.extBut b o hb e) hn h1 (.inr h2) h3 h4
end
structure CL(X:L2.Cx)(cl:Cl)(C:D.Cx)(elt tg iter:Expr)(ifs:List Expr)(gs:List Comprehension)(scope:Scope)(pos:Pos)(js:List Nat)(t:T)(qQ:E)(di:Es)(rest:G):Prop where
 calm:X.calm=true
 ok:ig X.N js scope X.env.scope
 next:∀g',gs[0]?=some g'->g'.is_async=0/\∀env x,foldedSetIterable g'.iter env x=pure x
 hi:PI X tg iter (SI X cl (cC C qQ))
 pg:∀cl' s₀ H₀ fp pn,PG (X.comp scope cl' s₀ H₀ fp pn) tg (SG (X.comp scope cl' s₀ H₀ fp pn) cl (gU C (.pt t)))
 yw:∀cl' s₀ H₀ fp pn,mq (X.comp scope cl' s₀ H₀ fp pn) ifs (ST (X.comp scope cl' s₀ H₀ fp pn) cl (bw C di))
 pb:∀cl' s₀ H₀ fp pn Δ,PB (X.comp scope cl' s₀ H₀ fp pn) (λ Q s=>fc X.prog X.w X.A (.ListComp elt (⟨tg,iter,ifs,0⟩::gs) scope pos) elt 0 (.ref Δ) (X.comp scope cl' s₀ H₀ fp pn).env Q (⟨tg,iter,ifs,0⟩::gs)[0+1]? s) (SB false (X.comp scope cl' s₀ H₀ fp pn) cl Δ (jj C rest))
 hs:∀x,foldedSetIterable iter X.env x=pure x
section
variable{gs:List Comprehension}
theorem Hv(h:CL X cl C elt tg iter ifs gs scope pos js t qQ di rest)(Nv:eval (.ListComp elt (⟨tg,iter,ifs,0⟩::gs) scope pos) X.env=comprehension (.ListComp elt (⟨tg,iter,ifs,0⟩::gs) scope pos) scope X.env pp (newList []) false (eval iter X.env) none) :
  PE X (.ListComp elt (⟨tg,iter,ifs,0⟩::gs) scope pos) (SE X cl (ao C (.comp (.gen t js qQ di rest)))):=
 C2 (bk:=false) (rw:=λ env Δ Q s=>fc X.prog X.w X.A (.ListComp elt (⟨tg,iter,ifs,0⟩::gs) scope pos) elt 0 (.ref Δ) env Q (⟨tg,iter,ifs,0⟩::gs)[0+1]? s) h.calm h.ok rfl (λ _ _ _ _ _ a b=>gQ rfl a b)
  (λ _ _ _=>jy rfl λ g' hg'=>⟨(h.next g' hg').1,(h.next g' hg').2 _⟩) (λ hq z=>iT hq z) (λ h=>vD h) h.hi h.pg h.yw h.pb h.hs Nv
theorem C4{y:Str}{py:Pos}(hN:X.N.Nodup)(hy:X.N[i]?=some y)(hx:L2.Loc X.env.scope y)(h:CL X cl C elt tg iter ifs gs scope pos js t qQ di rest)
  (hsw:swapsWith (.ListComp elt (⟨tg,iter,ifs,0⟩::gs) scope pos) @(.Name y py) spos.line X.env=pure true) (hf:X.fn y=true\/X.env.scope.names.lookup y=some .local) :
  PS X (.Assign [.Name y py] (.ListComp elt (⟨tg,iter,ifs,0⟩::gs) scope pos) spos) (SS X cl (fu C (.asg (.pt (.var i)) (.comp (.gen t js qQ di rest))))):=
 C3 (bk:=false) (rw:=λ env Δ Q s=>fc X.prog X.w X.A (.ListComp elt (⟨tg,iter,ifs,0⟩::gs) scope pos) elt 0 (.ref Δ) env Q (⟨tg,iter,ifs,0⟩::gs)[0+1]? s) hN hy hx h.calm h.ok rfl (λ _ _ _ _ _ a b=>gQ rfl a b)
  (λ _ _ _=>jy rfl λ g' hg'=>⟨(h.next g' hg').1,(h.next g' hg').2 _⟩) (λ hq z=>iT hq z) (λ h=>vD h) h.hi h.pg h.yw h.pb h.hs hsw hf rfl
variable{kx vx:Expr}{dk dv:E}
end
theorem C5:mq X [] (ST X cl (bw C .nil)):=by
 intro aa s Y H Q I h;let⟨J,Z,m,b,m',r,l,e,k⟩:=h;erw[bZ] at e;cases e;exact ze aa s Y H Q I (k _ _ Ext.refl r)
theorem C6{a:Expr}(ha:PT X a (ST X cl (bx C da))):mq X [a] (ST X cl (bw C %[|da])):=by
 intro aa s Y H Q I h;refine zf ha aa s Y H Q I ?_;let⟨J,Z,m,b,m',r,l,e,k⟩:=h;erw[bZ] at e;let⟨c,m1,e1,e⟩:=R.ah e;refine⟨J,Z,m,c,m1,r,l,e1,fun β1 H1 x1 r1=>?_⟩;cases c with
 | true=>erw[QL] at e;cases e;exact k _ _ x1 r1
 | false=>erw[Qv,QK] at e;cases e;exact k _ _ x1 r1
end
structure ZJ where
 k:Bool
 it:Addr
 l:Addr
 xs:Array Value
def ZJ.At(j:ZJ)(h:Heap)(i:Nat):Prop:=(j.k=true/\h.IsListIter j.it j.l i)\/(j.k=false/\h.IsTupleIter j.it j.l i)
def ZJ.Sq(j:ZJ)(h:Heap):Prop:=(j.k=true/\h.IsList j.l j.xs)\/(j.k=false/\h.IsTuple j.l j.xs)
theorem ZJ.At.keep{j:ZJ}(a:j.At h i)(k:∀o,h.get? j.it=some o->h'.get? j.it=some o):j.At h' i:=by
 rcases a with⟨e,o,a,r⟩ | ⟨e,o,a,r⟩
 .exact .inl ⟨e,o,k o a,r⟩
 .exact .inr ⟨e,o,k o a,r⟩
theorem ZJ.Sq.keep{j:ZJ}(a:j.Sq h)(k:∀o,h.get? j.l=some o->h'.get? j.l=some o):j.Sq h':=by
 rcases a with⟨e,o,a,r⟩ | ⟨e,o,a,r⟩
 .exact .inl ⟨e,o,k o a,r⟩
 .exact .inr ⟨e,o,k o a,r⟩
abbrev g6(h:Heap)(T:Addr)(a:Array Value):Prop:=h.get? T=some {cls:=.type "tuple",data:=.seq a}
section
variable{prog:Program}{w:World}{A:Around}{E:Value->Shared->Prop}{s:Shared}
theorem ZJ.next{j:ZJ}{x:Value}(a:j.At s.heap i)(b:j.Sq s.heap)(hx:j.xs[i]?=some x)(q:∀h',j.At h' (i+1)->Heap.SameBut j.it s.heap h'->Q x {s with heap:=h'}):wpAny (model prog w) A (Builtin.SmallTypes.nextOf (.ref j.it)) Q E s:=by
 rcases a with⟨e,a⟩ | ⟨e,a⟩
 .rcases b with⟨_,b⟩ | ⟨e',_⟩
  .exact wpAny_nextOf_list_item a b hx λ h' a' s'=>q h' (.inl ⟨e,a'⟩) s'
  .rw[e] at e';cases e'
 .rcases b with⟨e',_⟩ | ⟨_,b⟩
  .rw[e] at e';cases e'
  .exact nextT a b hx λ h' a' s'=>q h' (.inr ⟨e,a'⟩) s'
theorem ZJ.stop{j:ZJ}(hh:A.handled=none)(a:j.At s.heap i)(b:j.Sq s.heap)(hx:j.xs[i]?=none)
  (hE:∀h' e,Heap.ExtBut j.it s.heap h'->(∃o,h'.get? e=some o/\o.cls=.type "StopIteration")->E (.ref e) {s with heap:=h'}):wpAny (model prog w) A (Builtin.SmallTypes.nextOf (.ref j.it)) Q E s:=by
 rcases a with⟨e,a⟩ | ⟨e,a⟩
 .rcases b with⟨_,b⟩ | ⟨e',_⟩
  .exact wpAny_nextOf_list_end hh a b hx hE
  .rw[e] at e';cases e'
 .rcases b with⟨e',_⟩ | ⟨_,b⟩
  .rw[e] at e';cases e'
  .exact rO hh a b hx hE
def mU(T:Array Value):Nat->List Value->Array Value
 | _,[]=>T
 | k,v::vs=>mU (T.setIfInBounds k v) (k+1) vs
theorem mV:∀(vs:List Value) (T:Array Value) (k c:Nat),k+vs.length<=T.size->(mU T k vs)[c]?=if k<=c/\c < k+vs.length then vs[c - k]? else T[c]?
 | [],T,k,c,h=>by
  rw[Qz (by intro q;erw[RS] at q;omega)];rfl
 | v::vs,T,k,c,h=>by
  erw[QB] at h;rw[mU,mV vs _ (k+1) c (by rw[Array.size_setIfInBounds];omega)]
  by_cases h1:c=k
  .subst h1;rw[Qz 'o',Qs 's',Array.getElem?_setIfInBounds_self_of_lt 'o'];simp
  .by_cases h2:k+1<=c/\c < k+1+vs.length
   .rw[Qs h2,Qs (by simp;omega)];rw[show c - k=(c - (k+1))+1 by omega,getElem?_cons_succ]
   .rw[Qz h2,Qz (by simp;omega),Array.getElem?_setIfInBounds_ne 'o']
theorem uE{vs:List Value}{T:Array Value}(h:T.size=vs.length):mU T 0 vs=vs.toArray:=by
 apply Array.ext_getElem?;intro c;rw[mV vs T 0 c 'o']
 by_cases hc:c < vs.length
 .rw[Qs 'o'];simp
 .rw[Qz 'o'];rw[Array.getElem?_eq_none 'o',Array.getElem?_eq_none (by simp;omega)]
structure Apart(TO:Addr)(js:List ZJ):Prop where
 its:(js.map (·.it)).Nodup
 toi:∀j∈js,j.it≠TO
 tol:∀j∈js,j.l≠TO
 il:∀j∈js,∀j'∈js,j.l≠j'.it
theorem Apart.tail{TO:Addr}{j:ZJ}{js:List ZJ}(a:Apart TO (j::js)):Apart TO js:=
 ⟨(RT.mp a.its).2,λ x hx=>a.toi x (Qj _ hx),λ x hx=>a.tol x (Qj _ hx),λ x hx y hy=>a.il x (Qj _ hx) y (Qj _ hy)⟩
def Ey(prog:Program)(w:World)(A:Around)(E:Value->Shared->Prop)(Eb:Value->Shared->Prop)(TO:Addr){J:Type}(b0:J)(body:Value×Nat->J->Sem (ForInStep J)):Prop:=
 ∀(it:Addr) (k:Nat) (s:Shared) (R':ForInStep J->Shared->Prop),wpAny (model prog w) A (Builtin.SmallTypes.nextOf (.ref it)) (λ x s1=>∃T,g6 s1.heap TO T/\T.size<=100/\∀h',g6 h' TO (T.setIfInBounds k x)->Heap.SameBut TO s1.heap h'->R' (.yield b0) {s1 with heap:=h'}) Eb s->
  wpAny (model prog w) A (body (.ref it,k) b0) R' E s
theorem kQ{J:Type}{b0:J}{body:Value×Nat->J->Sem (ForInStep J)}{TO:Addr}{Eb:Value->Shared->Prop}(hb:Ey prog w A E Eb TO b0 body){Q:J->Shared->Prop}:∀(js:List ZJ) (k:Nat) (s:Shared) (T:Array Value) (vs:List Value),
  Apart TO js->(∀j∈js,j.At s.heap i/\j.Sq s.heap)->Paired (λ (j:ZJ) v=>j.xs[i]?=some v) js vs->g6 s.heap TO T->T.size<=100->
  (∀h',(∀j∈js,j.At h' (i+1))->g6 h' TO (mU T k vs)->h'.objs.size=s.heap.objs.size->(∀c o,c≠TO->c∉js.map (·.it)->s.heap.get? c=some o->h'.get? c=some o)->Q b0 {s with heap:=h'})->
  wpAny (model prog w) A (forIn ((js.map λ j=>Value.ref j.it).zipIdx k) b0 body) Q E s
 | [],k,s,T,vs,ap,hj,hv,hT,hz,q=>by
  cases hv;rw[map_nil,zipIdx_nil,forIn_nil];exact Qg (q s.heap 's' hT rfl λ c o _ _ e=>e)
 | j::js,k,s,T,vs,ap,hj,hv,hT,hz,q=>by
  cases hv with
  | @cons _ v _ vs hx hv=>
   rw[QM,zipIdx_cons,forIn_cons];let⟨a0,b0'⟩:=hj j Qu;refine Qa (hb j.it k s _ (ZJ.next a0 b0' hx λ h1 a1 s1=>⟨T,s1.extBut _ _ (ap.toi j Qu).symm hT,hz,λ h2 hT2 s2=>?_⟩));have keep:∀c o,c≠TO->c≠j.it->s.heap.get? c=some o->h2.get? c=some o:=λ c o n1 n2 e=>s2.extBut c o n1 (s1.extBut c o n2 e);have CD:j.it∉js.map (·.it):=(RT.mp ap.its).1;refine kQ hb js (k+1) {s with heap:=h2} (T.setIfInBounds k v) vs ap.tail (λ j' hj'=>?_) hv hT2 (by rw[Array.size_setIfInBounds];exact hz) λ h3 q1 q2 q3 q4=>?_
   .let⟨x1,x2⟩:=hj j' (Qj _ hj');exact⟨x1.keep λ o e=>keep _ o (ap.toi j' (Qj _ hj')) (λ z=>CD (z▸mem_map_of_mem hj')) e,x2.keep λ o e=>keep _ o (ap.tol j' (Qj _ hj')) (ap.il j' (Qj _ hj') j Qu) e⟩
   .refine q h3 (λ j' hj'=>?_) q2 (by rw[q3];show h2.objs.size=_;rw[s2.1];exact s1.1) λ c o n1 n2 e=>q4 c o n1 (λ z=>n2 (Qj _ z)) (keep c o n1 (λ z=>n2 (by rw[z];exact Qu)) e);rcases Qp.mp hj' with rfl | hj'
    .exact a1.keep λ o e=>q4 _ o (ap.toi j' Qu) CD (s2.extBut _ _ (ap.toi j' Qu) e)
    .exact q1 j' hj'
theorem mW{J:Type}{b0:J}{body:Value×Nat->J->Sem (ForInStep J)}{TO:Addr}{Eb:Value->Shared->Prop}(hh:A.handled=none)(hb:Ey prog w A E Eb TO b0 body){Q:J->Shared->Prop}:∀(pre:List ZJ) (j:ZJ) (post:List ZJ) (k:Nat) (s:Shared) (T:Array Value) (vs:List Value),
  Apart TO (pre++j::post)->(∀x∈pre++j::post,x.At s.heap i/\x.Sq s.heap)->Paired (λ (j:ZJ) v=>j.xs[i]?=some v) pre vs->j.xs[i]?=none->g6 s.heap TO T->T.size<=100->
  (∀h' e,(∀c o,c≠TO->c∉(pre++j::post).map (·.it)->s.heap.get? c=some o->h'.get? c=some o)->(∃o,h'.get? e=some o/\o.cls=.type "StopIteration")->Eb (.ref e) {s with heap:=h'})->
  wpAny (model prog w) A (forIn (((pre++j::post).map λ j=>Value.ref j.it).zipIdx k) b0 body) Q E s
 | [],j,post,k,s,T,vs,ap,hj,hv,hx,hT,hz,q=>by
  rw[nil_append,QM,zipIdx_cons,forIn_cons];let⟨a0,b0'⟩:=hj j 's';refine Qa (hb j.it k s _ (ZJ.stop hh a0 b0' hx λ h' e x y=>q h' e (λ c o _ n2 z=>x c o (λ z'=>n2 (by simp[z'])) z) y))
 | p::pre,j,post,k,s,T,vs,ap,hj,hv,hx,hT,hz,q=>by
  cases hv with
  | @cons _ v _ vs hx0 hv=>
   rw[cons_append,QM,zipIdx_cons,forIn_cons];let⟨a0,b0'⟩:=hj p Qu;refine Qa (hb p.it k s _ (ZJ.next a0 b0' hx0 λ h1 a1 s1=>⟨T,s1.extBut _ _ (ap.toi p Qu).symm hT,hz,λ h2 hT2 s2=>?_⟩));have keep:∀c o,c≠TO->c≠p.it->s.heap.get? c=some o->h2.get? c=some o:=λ c o n1 n2 e=>s2.extBut c o n1 (s1.extBut c o n2 e);have CD:p.it∉(pre++j::post).map (·.it):=(RT.mp ap.its).1;refine mW hh hb pre j post (k+1) {s with heap:=h2} (T.setIfInBounds k v) vs ap.tail (λ j' hj'=>?_) hv hx hT2 (by rw[Array.size_setIfInBounds];exact hz) λ h3 e q4 q5=>?_
   .let⟨x1,x2⟩:=hj j' (Qj _ hj');exact⟨x1.keep λ o e=>keep _ o (ap.toi j' (Qj _ hj')) (λ z=>CD (z▸mem_map_of_mem hj')) e,x2.keep λ o e=>keep _ o (ap.tol j' (Qj _ hj')) (ap.il j' (Qj _ hj') p Qu) e⟩
   .exact q h3 e (λ c o n1 n2 e'=>q4 c o n1 (λ z=>n2 (Qj _ z)) (keep c o n1 (λ z=>n2 (by rw[z];exact Qu)) e')) q5
structure xT(h:Heap)(z TI TO:Addr)(f0:Value)(js:List ZJ):Prop where
 rc:IsZip h z TI TO f0
 ti:g6 h TI (js.map λ j=>Value.ref j.it).toArray
structure ko(z TI TO:Addr)(js:List ZJ):Prop extends Apart TO js where
 iz:∀j∈js,j.it≠z
 lz:∀j∈js,j.l≠z
 toz:TO≠z
 tiz:TI≠z
 tito:TI≠TO
 tii:∀j∈js,j.it≠TI
 ne:js≠[]
theorem mX{TI TO:Addr}{js:List ZJ}{T:Array Value}{vs:List Value}(D:ko z TI TO js)(hz:xT s.heap z TI TO .none js)(hT:g6 s.heap TO T)(hsz:T.size=js.length)(hl:js.length<=100)
  (hj:∀j∈js,j.At s.heap i/\j.Sq s.heap) (hv:Paired (λ (j:ZJ) v=>j.xs[i]?=some v) js vs)
  (q:∀h',xT h' z TI TO (rawInt s.heap.objs.size) js->g6 h' TO vs.toArray->(∀j∈js,j.At h' (i+1))->g6 h' s.heap.objs.size vs.toArray->h'.objs.size=s.heap.objs.size+1->(∀c o,c≠z->c≠TO->c∉js.map (·.it)->s.heap.get? c=some o->h'.get? c=some o)->Q (.ref s.heap.objs.size) {s with heap:=h'}) :
  wpAny (model prog w) A (Builtin.«zip.__next__» ⟨[.ref z],[]⟩) (λ fin s'=>∃v,fin=.done (.ret v)/\Q v s') E s:=by
 have OZ:vs.length=js.length:=(Paired.length hv).symm;let⟨hz,hTI⟩:=hz;show wpAny _ _ (field (.ref z) 2 >>= _) _ _ _;refine Qa (Q4 hz rfl (x:=.bool false) rfl ?_);show wpAny _ _ (field (.ref z) 3 >>= _) _ _ _;refine Qa (Q4 hz rfl (x:=.ref TI) rfl ?_);refine Qa (Rt hTI rfl ?_);have hne:((js.map λ j=>Value.ref j.it).toArray.isEmpty)=false:=by
  have:=D.ne;cases hjs:js with
  | nil=>exact absurd hjs this
  | cons _ _=>simp
 dsimp only;rw[hne];erw[Qv,QK];show wpAny _ _ (Builtin.SmallTypes.ownedTupleIsFree (.ref z) >>= _) _ _ _;refine Qa ?_;unfold Builtin.SmallTypes.ownedTupleIsFree;refine Qa (Q4 hz rfl (x:=.none) rfl (Qg ?_));erw[QL];refine Qa (wpAny_rule ?_);refine Qa (Q4 hz rfl (x:=.ref TO) rfl ?_);refine Qa (Rf hz 's' λ h₁ hz₁ hs₁=>?_);replace hz₁:IsZip h₁ z TI TO .ellipsis:=hz₁;replace hs₁:Heap.SameBut z s.heap h₁:=hs₁;refine Qa (kQ (TO:=TO) (i:=i) (Eb:=λ e s1=>wpAny (model prog w) A (setField (.ref z) 0 .none) (λ _ s2=>E e s2) E s1) ?hb js 0 {s with heap:=h₁} T vs D.toApart (λ j h=>?_) hv (hs₁.extBut _ _ D.toz hT) 'o' λ h₂ q1 q2 q3 q4=>?_)
 case hb=>
  intro it k s' R' h;refine Qa (wpAny_onRaise ?_);show wpAny _ _ (Builtin.SmallTypes.nextOf (.ref it) >>= _) _ _ _;refine Qa (QF h (λ x s1 ⟨T1,t1,z1,k1⟩=>Qg ?_) λ e s1 he=>he);refine Qa (Rt t1 rfl ?_);refine Qa (wpAny_updateSeq t1 rfl ?_ (by rw[RN];omega) (by rw[Array.size_setIfInBounds,RN];omega));refine Qa (wpAny_letGo (Qg ?_));refine k1 _ ?_ (Rp ..);rw[g6,Q3 _ t1 rfl];simp[Obj.mapSeq]
 .let⟨x1,x2⟩:=hj j h;exact⟨x1.keep λ o e=>hs₁.extBut _ o (D.iz j h) e,x2.keep λ o e=>hs₁.extBut _ o (D.lz j h) e⟩
 .rw[uE 'o'] at q2;have Ny:z∉js.map (·.it):=λ z'=>by
   let⟨j,h1,h2⟩:=Qf.mp z';exact D.iz j h1 h2
  have O0:TI∉js.map (·.it):=λ z'=>by
   let⟨j,h1,h2⟩:=Qf.mp z';exact D.tii j h1 h2
  have hz₂:IsZip h₂ z TI TO .ellipsis:=q4 z _ D.toz.symm Ny hz₁;have hTI₂:g6 h₂ TI (js.map λ j=>Value.ref j.it).toArray:=q4 TI _ D.tito O0 (hs₁.extBut _ _ D.tiz hTI);have hs2:h₂.objs.size=s.heap.objs.size:=by rw[q3];exact hs₁.1
  have Kz:z < h₂.objs.size:=Qh hz₂;refine Qa (Rt q2 rfl ?_);refine Qa (wpAny_newTuple ?_ (by show vs.length<=_;rw[RN];omega));show wpAny _ _ (Builtin.SmallTypes.ownedTupleHandOut (.ref z) (.ref h₂.objs.size) >>= _) _ _ _;refine Qa ?_;unfold Builtin.SmallTypes.ownedTupleHandOut;have hz₆:IsZip (h₂.push {cls:=.type "tuple",data:=.seq vs.toArray}) z TI TO .ellipsis:=Qc _ hz₂;refine Qa (Rf hz₆ 's' λ h₇ hz₇ hs₇=>?_);replace hz₇:IsZip h₇ z TI TO (rawInt h₂.objs.size):=hz₇;replace hs₇:Heap.SameBut z (h₂.push {cls:=.type "tuple",data:=.seq vs.toArray}) h₇:=hs₇;refine Rf hz₇ 's' λ h₈ hz₈ hs₈=>?_;replace hz₈:IsZip h₈ z TI TO (rawInt h₂.objs.size):=hz₈;replace hs₈:Heap.SameBut z h₇ h₈:=hs₈;have up:∀c o,c≠z->h₂.get? c=some o->h₈.get? c=some o:=λ c o c1 e=>hs₈.extBut _ _ c1 (hs₇.extBut _ _ c1 (Qc _ e));have hT₈:g6 h₈ h₂.objs.size vs.toArray:=hs₈.extBut _ _ (Q6 Kz) (hs₇.extBut _ _ (Q6 Kz) (Qm _ rfl));have Om:h₈.objs.size=h₂.objs.size+1:=by rw[hs₈.1,hs₇.1,QJ]
  rw[hs2] at hz₈ hT₈ Om;refine Qg ⟨_,rfl,?_⟩;show Q (.ref h₂.objs.size) _;rw[hs2];exact q h₈ ⟨hz₈,up _ _ D.tiz hTI₂⟩ (up _ _ D.toz q2) (λ j hj'=>(q1 j hj').keep λ o e=>up _ o (D.iz j hj') e) hT₈ Om λ c o c1 c2 c3 e=>up c o c1 (q4 c o c2 c3 (hs₁.extBut _ _ c1 e))
theorem n8{TI TO:Addr}{pre post:List ZJ}{j:ZJ}{T:Array Value}{vs:List Value}{Q:Fin->Shared->Prop}(hh:A.handled=none)(D:ko z TI TO (pre++j::post))(hz:xT s.heap z TI TO .none (pre++j::post))(hT:g6 s.heap TO T)(hsz:T.size<=100)
  (hj:∀x∈pre++j::post,x.At s.heap i/\x.Sq s.heap) (hv:Paired (λ (j:ZJ) v=>j.xs[i]?=some v) pre vs) (hx:j.xs[i]?=none)
  (q:∀h' e,(∀c o,c≠z->c≠TO->c∉(pre++j::post).map (·.it)->s.heap.get? c=some o->h'.get? c=some o)->(∃o,h'.get? e=some o/\o.cls=.type "StopIteration")->E (.ref e) {s with heap:=h'}) :
  wpAny (model prog w) A (Builtin.«zip.__next__» ⟨[.ref z],[]⟩) Q E s:=by
 let⟨hz,hTI⟩:=hz;show wpAny _ _ (field (.ref z) 2 >>= _) _ _ _;refine Qa (Q4 hz rfl (x:=.bool false) rfl ?_);show wpAny _ _ (field (.ref z) 3 >>= _) _ _ _;refine Qa (Q4 hz rfl (x:=.ref TI) rfl ?_);refine Qa (Rt hTI rfl ?_);have hne:(((pre++j::post).map λ j=>Value.ref j.it).toArray.isEmpty)=false:=by
  have:=D.ne;cases hjs:(pre++j::post) with
  | nil=>exact absurd hjs this
  | cons _ _=>simp
 dsimp only;rw[hne];erw[Qv,QK];show wpAny _ _ (Builtin.SmallTypes.ownedTupleIsFree (.ref z) >>= _) _ _ _;refine Qa ?_;unfold Builtin.SmallTypes.ownedTupleIsFree;refine Qa (Q4 hz rfl (x:=.none) rfl (Qg ?_));erw[QL];refine Qa (wpAny_rule ?_);refine Qa (Q4 hz rfl (x:=.ref TO) rfl ?_);refine Qa (Rf hz 's' λ h₁ hz₁ hs₁=>?_);replace hz₁:IsZip h₁ z TI TO .ellipsis:=hz₁;replace hs₁:Heap.SameBut z s.heap h₁:=hs₁;refine Qa (mW (TO:=TO) (i:=i) (Eb:=λ e s1=>wpAny (model prog w) A (setField (.ref z) 0 .none) (λ _ s2=>E e s2) E s1) hh ?hb pre j post 0 {s with heap:=h₁} T vs D.toApart (λ x h=>?_) hv hx (hs₁.extBut _ _ D.toz hT) hsz λ h₂ e q4 q5=>?_)
 case hb=>
  intro it k s' R' h;refine Qa (wpAny_onRaise ?_);show wpAny _ _ (Builtin.SmallTypes.nextOf (.ref it) >>= _) _ _ _;refine Qa (QF h (λ x s1 ⟨T1,t1,z1,k1⟩=>Qg ?_) λ e s1 he=>he);refine Qa (Rt t1 rfl ?_);refine Qa (wpAny_updateSeq t1 rfl ?_ (by rw[RN];omega) (by rw[Array.size_setIfInBounds,RN];omega));refine Qa (wpAny_letGo (Qg ?_));refine k1 _ ?_ (Rp ..);rw[g6,Q3 _ t1 rfl];simp[Obj.mapSeq]
 .let⟨x1,x2⟩:=hj x h;exact⟨x1.keep λ o e=>hs₁.extBut _ o (D.iz x h) e,x2.keep λ o e=>hs₁.extBut _ o (D.lz x h) e⟩
 .have Ny:z∉(pre++j::post).map (·.it):=λ z'=>by
   let⟨j,h1,h2⟩:=Qf.mp z';exact D.iz j h1 h2
  have hz₂:IsZip h₂ z TI TO .ellipsis:=q4 z _ D.toz.symm Ny hz₁;let⟨oe,hoe,hce⟩:=q5;have O1:e≠z:=λ x=>by subst x;rw[hz₂] at hoe;cases hoe;simp at hce
  refine Rf hz₂ 's' λ h₃ _ hs₃=>q h₃ e (λ c o c1 c2 c3 x=>hs₃.extBut _ _ c1 (q4 c o c2 c3 (hs₁.extBut _ _ c1 x))) ⟨oe,hs₃.extBut _ _ O1 hoe,hce⟩
theorem z9{TI TO:Addr}{js:List ZJ}{T:Array Value}{vs:List Value}{Q:Option Value->Shared->Prop}(D:ko z TI TO js)(hz:xT s.heap z TI TO .none js)(hT:g6 s.heap TO T)(hsz:T.size=js.length)(hl:js.length<=100)
  (hj:∀j∈js,j.At s.heap i/\j.Sq s.heap) (hv:Paired (λ (j:ZJ) v=>j.xs[i]?=some v) js vs)
  (q:∀h',xT h' z TI TO (rawInt s.heap.objs.size) js->g6 h' TO vs.toArray->(∀j∈js,j.At h' (i+1))->g6 h' s.heap.objs.size vs.toArray->h'.objs.size=s.heap.objs.size+1->(∀c o,c≠z->c≠TO->c∉js.map (·.it)->s.heap.get? c=some o->h'.get? c=some o)->Q @(.ref s.heap.objs.size) {s with heap:=h'}) :
  wpAny (model prog w) A (pyNext (.ref z)) Q E s:=by
 have KA:s.TypeIs (.ref z) "zip":=⟨_,hz.rc,rfl⟩;unfold pyNext;exact Qa (wpAny_attempt (Q9 (name:=Str.ofString "__next__") KA F.slot_zip_next (RH F.slot_zip_next KA F.entry_zip_next
  (mX D hz hT hsz hl hj hv λ h' a1 a2 a3 a4 a5 a6=>Qg (q h' a1 a2 a3 a4 a5 a6)) (F.args_zip_next_1 _))))
theorem Aa{TI TO:Addr}{pre post:List ZJ}{j:ZJ}{T:Array Value}{vs:List Value}{Q:Option Value->Shared->Prop}(hh:A.handled=none)(D:ko z TI TO (pre++j::post))(hz:xT s.heap z TI TO .none (pre++j::post))(hT:g6 s.heap TO T)(hsz:T.size<=100)
  (hj:∀x∈pre++j::post,x.At s.heap i/\x.Sq s.heap) (hv:Paired (λ (j:ZJ) v=>j.xs[i]?=some v) pre vs) (hx:j.xs[i]?=none)
  (q:∀h',(∀c o,c≠z->c≠TO->c∉(pre++j::post).map (·.it)->s.heap.get? c=some o->h'.get? c=some o)->Q none {s with heap:=h'}) :
  wpAny (model prog w) A (pyNext (.ref z)) Q E s:=by
 have KA:s.TypeIs (.ref z) "zip":=⟨_,hz.rc,rfl⟩;unfold pyNext;refine Qa (wpAny_attempt (Q9 (name:=Str.ofString "__next__") KA F.slot_zip_next (RH F.slot_zip_next KA F.entry_zip_next
  (n8 (A:=A.in1) hh D hz hT hsz hj hv hx λ h' e hk he=>?_) (F.args_zip_next_1 _))))
 let⟨o,ho,hc⟩:=he;refine Qa (wpAny_isInstance (T:="StopIteration") (b:=true) ⟨o,ho,hc⟩ isSubtype_stop ?_);exact Qg (q _ hk)
end
def jM(K:PySem.W.Frag)(H:Hp)(q:Bool×Addr)(xs:List V):Prop:=(q.1=true/\gE K H q.2 xs)\/(q.1=false/\dI K H q.2 xs)
def ZJ.key(j:ZJ):Bool×Addr×Addr:=(j.k,j.it,j.l)
def xU(x:Bool×Addr×Addr):Bool×Addr:=(x.1,x.2.2)
def Nz(K:PySem.W.Frag)(qs:List (Bool×Addr)):It:=
 ⟨λ i H=>∀q∈qs,∃xs v,jM K H q xs/\xs[i]?=some v,λ i H x H'=>∃p vs,H p=none/\x=.ref p/\H'=upd H p (.tup vs)/\Paired (λ q v=>∀xs,jM K H q xs->xs[i]?=some v) qs vs,λ i H=>(∀q∈qs,∃xs,jM K H q xs)/\∃pre q post,qs=pre++q::post/\(∀p∈pre,∃xs v,jM K H p xs/\xs[i]?=some v)/\∃xs,jM K H q xs/\xs.length<=i⟩
section
variable{X:L2.Cx}{aa:List (Addr×Obj)}{Y:L2.St}{H:Hp}{s:Shared}{h':Heap}
theorem sD{t':Nat}{ch:List Addr}(I:Inv X aa Y H s)(k:∀b o,b∉ch->s.heap.get? b=some o->h'.get? b=some o)(hf:∀b∈ch,jf X aa H b):Inv X aa Y H {s with heap:=h',toks:=t'}:=by
 have D6:∀b u,H b=some u->b∉ch:=λ b u e z=>by rw[(hf b z).1] at e;cases e
 refine I.step (g':=s.gens) (d':=s.drawn) (ch:=ch) (λ b hb=>?_) (λ b o _ _ hc e _=>k b o hc e) (λ b o _ _ hc e _=>⟨o.slots,k b o hc e⟩) (λ _ _ _ _ n=>n)
  (λ b o hc e=>⟨o,k b o hc e⟩) (λ _ _ e=>e) (λ _ _ _ e=>e) (λ b ps e=>⟨#[],by rw[e];simp⟩) (λ m hm=>?_) (λ b u e=>?_) I.bare
 .let⟨f0,f1,f2,f3,f4,f5⟩:=hf b hb;exact⟨f3,f1,f4,f5⟩
 .let⟨o,es,ep,ho,r⟩:=hm;exact⟨o,es,ep,k _ o (λ z=>(hf _ z).2.1 rfl) ho,r⟩
 .refine(I.hok b u e).stay (λ c v hc q=>k c v ?_ q) (λ _ q=>q) λ _ _ q=>q;rcases hc with z | z
  .rw[z];exact D6 b u e
  .exact D6 c _ z
theorem sE{t':Nat}{ch:List Addr}{us:List Value}(I:Inv X aa Y H s)(k:∀b o,b∉ch->s.heap.get? b=some o->h'.get? b=some o)(hf:∀b∈ch,jf X aa H b)
  (ht:h'.get? s.heap.objs.size=some {cls:=.type "tuple",data:=.seq us.toArray}) (rv:Vals vs us) (hz:vs.length<=sizeLine):Inv X aa Y (upd H s.heap.objs.size (.tup vs)) {s with heap:=h',toks:=t'}:=by
 have D6:∀b u,H b=some u->b∉ch:=λ b u e z=>by rw[(hf b z).1] at e;cases e
 have nU:H s.heap.objs.size=none:=I.hok.fresh (Qk _);have hok:iG X.prog X.w (upd H s.heap.objs.size (.tup vs)) h':=by
  have lift:∀b o,H b=some o->bU X.prog X.w (upd H s.heap.objs.size (.tup vs)) h' b o:=λ b o q=>
   (I.hok b o q).stay (λ c v hcv r=>k c v (by
    rcases hcv with z | z
    .rw[z];exact D6 b o q
    .exact D6 c _ z) r) (λ c r=>by rw[aq (au r nU)];exact r) λ c ys r=>by rw[aq (au r nU)];exact r
  intro b o q
  by_cases eb:b=s.heap.objs.size
  .subst eb;rw[aJ] at q;cases q;exact⟨hz,us,rv,⟨_,ht,rfl,_,rfl⟩⟩
  .rw[aq eb] at q;exact lift b o q
 refine I.step (g':=s.gens) (d':=s.drawn) (ch:=ch) (λ b hb=>?_) (λ b o hL hb hcb q n=>k b o hcb q) (λ b o hL hb hcb q n=>⟨o.slots,k b o hcb q⟩) (λ b o hcb q n=>?_) (λ b o hcb q=>⟨o,k b o hcb q⟩) (λ b ys q=>by rw[aq (au q nU)];exact q) (λ b o u q=>by rw[aq (au q nU)];exact q)
  (λ b ps q=>⟨#[],by rw[aq (au q nU),q];simp⟩) (λ m hm=>?_) hok I.bare
 .let⟨f0,f1,f2,f3,f4,f5⟩:=hf b hb;exact⟨f3,f1,f4,f5⟩
 .rw[aq (Ql (Qh q))];exact n
 .let⟨o,es,ep,q,r⟩:=hm;exact⟨o,es,ep,k _ o (λ z=>(hf _ z).2.1 rfl) q,r⟩
theorem jM.heap(I:Inv X aa Y H s){j:ZJ}(h:jM X.K H (j.k,j.l) xs):∃its:List Value,Vals xs its/\({j with xs:=its.toArray}:ZJ).Sq s.heap/\xs.length<=sizeLine:=by
 rcases h with⟨e,h⟩ | ⟨e,h⟩
 .let⟨its,rv,p,hz⟩:=I.list h;exact⟨its,rv,.inl ⟨e,p.isList⟩,hz⟩
 .let⟨its,rv,p,hz⟩:=I.tuple h;exact⟨its,rv,.inr ⟨e,(show s.heap.IsTuple j.l its.toArray from p)⟩,hz⟩
theorem jM.inj(I:Inv X aa Y H s){ys:List V}(h:jM X.K H q xs)(h':jM X.K H q ys):xs=ys:=by
 rcases h with⟨e,h⟩ | ⟨e,h⟩<;>rcases h' with⟨e',h'⟩ | ⟨e',h'⟩
 .exact I.lW h h'
 .rw[e] at e';cases e'
 .rw[e] at e';cases e'
 .exact I.jZ h h'
theorem Ab(I:Inv X aa Y H s):∀{js:List ZJ},(∀q∈js.map (λ j=>xU j.key),∃xs v,jM X.K H q xs/\xs[i]?=some v)->
  ∃(BC:List ZJ) (us:List Value) (vs:List V),BC.map ZJ.key=js.map ZJ.key/\(∀j∈BC,j.Sq s.heap)/\Paired (λ (j:ZJ) u=>j.xs[i]?=some u) BC us/\Vals vs us/\Paired (λ q v=>∀xs,jM X.K H q xs->xs[i]?=some v) (js.map λ j=>xU j.key) vs
 | [],_=>⟨[],[],[],rfl,by simp,.nil,.nil,.nil⟩
 | j::js,h=>by
  let⟨BC,us,vs,h1,h2,h3,h4,h5⟩:=Ab I (js:=js) λ q hq=>h q (Qj _ hq);let⟨xs,v,hs,hx⟩:=h (xU j.key) Qu;let⟨its,rv,sq,hz⟩:=hs.heap I;let⟨u,hu,ru⟩:=rv.get hx;refine⟨{j with xs:=its.toArray}::BC,u::us,v::vs,by erw[QM,h1];rfl,λ x hx'=>?_,.cons (by simpa using hu) h3,.cons ru h4,.cons (λ ys hy=>by rw[hs.inj I hy] at hx;exact hx) h5⟩;rcases Qp.mp hx' with rfl | z
  .exact sq
  .exact h2 x z
theorem Ez(I:Inv X aa Y H s):∀{js:List ZJ},(∀q∈js.map (λ j=>xU j.key),∃xs,jM X.K H q xs)->∃BC:List ZJ,BC.map ZJ.key=js.map ZJ.key/\(∀j∈BC,j.Sq s.heap)
 | [],_=>⟨[],rfl,by simp⟩
 | j::js,h=>by
  let⟨BC,h1,h2⟩:=Ez I (js:=js) λ q hq=>h q (Qj _ hq);let⟨xs,hs⟩:=h (xU j.key) Qu;let⟨its,rv,sq,hz⟩:=hs.heap I;refine⟨{j with xs:=its.toArray}::BC,by erw[QM,h1];rfl,λ x hx'=>?_⟩;rcases Qp.mp hx' with rfl | z
  .exact sq
  .exact h2 x z
def EA(h:Heap)(i:Nat)(x:Bool×Addr×Addr):Prop:=(x.1=true/\h.IsListIter x.2.1 x.2.2 i)\/(x.1=false/\h.IsTupleIter x.2.1 x.2.2 i)
theorem uF{js:List ZJ}(e:js.map ZJ.key=ks):(∀j∈js,j.At h i)↔∀x∈ks,EA h i x:=by
 subst e;erw[forall_mem_map];exact Iff.rfl
theorem uG{js:List ZJ}(e:js.map ZJ.key=ks):js.map (·.it)=ks.map (·.2.1):=by
 subst e;simp[ZJ.key,RA]
theorem vE{js:List ZJ}(e:js.map ZJ.key=ks):js.map (λ j=>xU j.key)=ks.map xU:=by
 subst e;simp[RA]
structure ZK(h:Heap)(z TI TO:Addr)(f0:Value)(ks:List (Bool×Addr×Addr))(i:Nat):Prop where
 rc:IsZip h z TI TO f0
 ti:g6 h TI (ks.map λ x=>Value.ref x.2.1).toArray
 to:∃T,g6 h TO T/\T.size=ks.length
 at_:∀x∈ks,EA h i x
theorem EA.keep{x:Bool×Addr×Addr}(a:EA h i x)(k:∀o,h.get? x.2.1=some o->h'.get? x.2.1=some o):EA h' i x:=by
 rcases a with⟨e,o,a,r⟩ | ⟨e,o,a,r⟩
 .exact .inl ⟨e,o,k o a,r⟩
 .exact .inr ⟨e,o,k o a,r⟩
theorem EA.obj{x:Bool×Addr×Addr}(a:EA h i x):∃o,h.get? x.2.1=some o/\∃vs,o.data=.fields vs:=by
 rcases a with⟨e,o,a,_,r⟩ | ⟨e,o,a,_,r⟩<;>exact⟨o,a,_,r⟩
def Ac(z TI TO:Addr)(ks:List (Bool×Addr×Addr)):List Addr:=z::TI::TO::ks.map (·.2.1)
theorem Ad{w:World}{x1}{TI TO:Addr}(D:∀js:List ZJ,js.map ZJ.key=ks->ko z TI TO js)(hl:ks.length<=100) :
  Turn P w K (.Tuple elts x1 pos) (Nz K (ks.map xU)) (Ac z TI TO ks) z (λ i h=>ZK h z TI TO .none ks i) where
 mem:=by simp[Ac]
 obj:=λ i h st b hb=>by
  erw[Ac,Rq] at hb;rcases hb with rfl | rfl | rfl | hb
  .refine⟨_,st.rc,λ v q=>?_⟩;have q':Data.fields _=Data.cell v:=q;cases q'
  .refine⟨_,st.ti,λ v q=>?_⟩;have q':Data.seq _=Data.cell v:=q;cases q'
  .let⟨T,st,_⟩:=st.to;refine⟨_,st,λ v q=>?_⟩;have q':Data.seq _=Data.cell v:=q;cases q'
  .let⟨x,hx,rfl⟩:=Qf.mp hb;let⟨o,ho,vs,hd⟩:=(st.at_ x hx).obj;exact⟨o,ho,λ v q=>by rw[hd] at q;cases q⟩
 keep:=λ i h h' st k=>by
  let⟨T,t1,t2⟩:=st.to;exact⟨k z (by simp[Ac]) _ st.rc,k TI (by simp[Ac]) _ st.ti,⟨T,k TO (by simp[Ac]) _ t1,t2⟩,λ x hx=>(st.at_ x hx).keep λ o e=>k _ (by erw[Ac,Rq];exact .inr (.inr (.inr (mem_map_of_mem (f:=λ x=>x.2.1) hx)))) o e⟩
 item:=by
  intro X hP hw hK hc i aa s Y H E I hf st hg;subst hP hw hK;have hg:∀q∈ks.map xU,∃xs v,jM X.K H q xs/\xs[i]?=some v:=hg;obtain⟨js0,e0⟩:∃js0:List ZJ,js0.map ZJ.key=ks:=⟨ks.map λ x=>⟨x.1,x.2.1,x.2.2,#[]⟩,by simp[ZJ.key,RA]⟩;let⟨js,us,vs,h1,h2,h3,h4,h5⟩:=Ab I (js:=js0) (i:=i) (by rw[vE e0];exact hg);rw[e0] at h1;rw[vE e0] at h5;have dz:=D js h1;let⟨T,t1,t2⟩:=st.to;have hlen:js.length=ks.length:=by rw[<-h1,Qi]
  have LO:(js.map λ j=>Value.ref j.it)=ks.map λ x=>Value.ref x.2.1:=by subst h1;simp[ZJ.key,RA]
  refine z9 dz ⟨st.rc,by rw[LO];exact st.ti⟩ t1 (by rw[t2,hlen]) (by rw[hlen];exact hl) (λ j hj=>⟨(uF h1).mpr st.at_ j hj,h2 j hj⟩) h3 λ h' a1 a2 a3 a4 a5 a6=>⟨_,rfl,?_⟩;have Kz:z < s.heap.objs.size:=Qh st.rc;refine wpAny_letOwnedTupleGo_zip (s:={s with heap:=h'}) a1.rc λ h2' hE sb=>?_;have hit:js.map (·.it)=ks.map (·.2.1):=uG h1;have k2:∀b o,b∉z::TO::ks.map (·.2.1)->s.heap.get? b=some o->h2'.get? b=some o:=λ b o nb q=>by
   erw[Rq,not_or] at nb;exact sb.extBut b o nb.1 (a6 b o nb.1 nb.2.1 (by rw[hit];exact nb.2.2) q)
  have hf':∀b∈z::TO::ks.map (·.2.1),jf X aa H b:=λ b hb=>hf b (by
   erw[Ac,Rq] at hb ⊢;rcases hb with q | q | q
   .exact .inl q
   .exact .inr (.inr (.inl q))
   .exact .inr (.inr (.inr q)))
  have nU:H s.heap.objs.size=none:=I.hok.fresh (Qk _);have O2:vs.length<=sizeLine:=by
   have e1:vs.length=us.length:=h4.length;have e2:js.length=us.length:=Paired.length h3;rw[RN];omega
  have I2:Inv X aa Y (upd H s.heap.objs.size (.tup vs)) {s with heap:=h2'}:=sE (t':=s.toks) I k2 hf' (sb.extBut _ _ (Q6 Kz) a4) h4 O2;refine⟨.ref s.heap.objs.size,_,I2,rfl,⟨_,vs,nU,rfl,rfl,h5⟩,⟨hE,?_,⟨us.toArray,sb.extBut _ _ dz.toz a2,?_⟩,?_⟩,λ b hb=>?_⟩
  .have:=sb.extBut _ _ dz.tiz a1.ti;rw[LO] at this;exact this
  .have e2:js.length=us.length:=Paired.length h3;simp;omega
  .refine(uF h1).mp λ j hj=>(a3 j hj).keep λ o e=>sb.extBut _ o (dz.iz j hj) e
  .have:b < s.heap.objs.size:=by
    erw[Ac,Rq] at hb;rcases hb with rfl | rfl | rfl | hb
    .exact Kz
    .exact Qh st.ti
    .exact Qh t1
    .let⟨x,hx,rfl⟩:=Qf.mp hb;let⟨o,ho,_⟩:=(st.at_ x hx).obj;exact Qh ho
   rw[aq (Ql this)];exact(hf b hb).1
 done:=by
  intro X hP hw hK hc i aa s Y H E I hf st hg;subst hP hw hK;obtain⟨hall,pre,q,post,hq,hpre,xs,hsx,hxl⟩:(∀q∈ks.map xU,∃xs,jM X.K H q xs)/\∃pre q post,ks.map xU=pre++q::post/\(∀p∈pre,∃xs v,jM X.K H p xs/\xs[i]?=some v)/\∃xs,jM X.K H q xs/\xs.length<=i:=hg;let⟨kpre,kr,ek,ep,er⟩:=List.map_eq_append_iff.mp hq;let⟨kq,kpost,er',eq',epost⟩:=List.map_eq_cons_iff.mp er;subst er' eq' epost ep;obtain⟨p0,e0⟩:∃js0:List ZJ,js0.map ZJ.key=kpre:=⟨kpre.map λ x=>⟨x.1,x.2.1,x.2.2,#[]⟩,by simp[ZJ.key,RA]⟩;obtain⟨o0,f0⟩:∃js0:List ZJ,js0.map ZJ.key=kpost:=⟨kpost.map λ x=>⟨x.1,x.2.1,x.2.2,#[]⟩,by simp[ZJ.key,RA]⟩;let⟨jp,us,vs,h1,h2,h3,h4,h5⟩:=Ab I (js:=p0) (i:=i) (by rw[vE e0];exact hpre);let⟨jo,o1,o2⟩:=Ez I (js:=o0) (by rw[vE f0];exact λ q hq'=>hall q (by rw[ek];simp at hq' ⊢;exact .inr (.inr hq')));rw[e0] at h1;rw[f0] at o1;let⟨its,rv,sq,hz⟩:=jM.heap I (j:=⟨kq.1,kq.2.1,kq.2.2,#[]⟩) hsx;have hkey:(jp++(⟨kq.1,kq.2.1,kq.2.2,its.toArray⟩:ZJ)::jo).map ZJ.key=ks:=by rw[ek,Rv,QM,h1,o1];rfl
  have dz:=D _ hkey;let⟨T,t1,t2⟩:=st.to;have LO:((jp++(⟨kq.1,kq.2.1,kq.2.2,its.toArray⟩:ZJ)::jo).map λ j=>Value.ref j.it)=ks.map λ x=>Value.ref x.2.1:=by rw[<-hkey];simp[ZJ.key,RA]
  have OZ:xs.length=its.length:=rv.length;refine Aa (I.ok.hd hc) dz ⟨st.rc,by rw[LO];exact st.ti⟩ t1 (by rw[t2];exact hl) (λ j hj=>⟨(uF hkey).mpr st.at_ j hj,?_⟩) h3 (by simp;omega) λ h' a6=>⟨rfl,?_⟩
  .rcases QW.mp hj with z1 | z1
   .exact h2 j z1
   .rcases Qp.mp z1 with rfl | z1
    .exact sq
    .exact o2 j z1
  .refine sD (t':=s.toks) (ch:=z::TO::ks.map (·.2.1)) I (λ b o nb q=>?_) λ b hb=>hf b (by
    erw[Ac,Rq] at hb ⊢;rcases hb with q | q | q
    .exact .inl q
    .exact .inr (.inr (.inl q))
    .exact .inr (.inr (.inr q)))
   erw[Rq,not_or] at nb;exact a6 b o nb.1 nb.2.1 (by rw[uG hkey];exact nb.2.2) q
 self:=λ _ _ _ _ _ st h=>wpAny_pyIter_zip st.rc h
end
abbrev C7(q:Bool×Addr):Obj:={cls:=.type (if q.1 then "list_iterator" else "tuple_iterator"),data:=.fields #[.ref q.2,.int 0 0]}
def vF(h:Heap)(q:Bool×Addr):Prop:=∃xs,(q.1=true/\h.IsList q.2 xs)\/(q.1=false/\h.IsTuple q.2 xs)
theorem vF.push(x:vF h q)(o:Obj):vF (h.push o) q:=by
 obtain⟨xs,⟨e,x⟩ | ⟨e,p,x,r⟩⟩:=x
 .exact⟨xs,.inl ⟨e,Heap.IsList.push x o⟩⟩
 .exact⟨xs,.inr ⟨e,p,Qc _ x,r⟩⟩
section
variable{prog:Program}{w:World}{A:Around}{E:Value->Shared->Prop}{s:Shared}
theorem vG{k:Bool}{l:Addr}(x:vF s.heap (k,l))(hQ:Q (.ref s.heap.objs.size) {s with heap:=s.heap.push (C7 (k,l))}):wpAny (model prog w) A (pyIter (.ref l)) Q E s:=by
 obtain⟨xs,⟨e,x⟩ | ⟨e,x⟩⟩:=x
 .cases e;exact RP x hQ
 .cases e;exact wpAny_pyIter_tuple x hQ
end
theorem sF(p q:Bool×Addr) :
  Meets (Builtin.«zip.__new__» ⟨[.type "zip",.ref p.2,.ref q.2],[]⟩) (λ _ R s=>vF s.heap p/\vF s.heap q/\
   R (.ok (.ret (.ref (s.heap.objs.size+4)))) {s with heap:=((((s.heap.push (C7 p)).push (C7 q)).push {cls:=.type "tuple",data:=.seq #[.ref s.heap.objs.size,.ref (s.heap.push (C7 p)).objs.size]}).push {cls:=.type "tuple",data:=.seq #[.none,.none]}).push {cls:=.type "zip",data:=.fields #[.none,.bool false,.bool false,.ref (s.heap.objs.size+2),.ref (s.heap.objs.size+3)]}}):=
 .of_wp λ prog w A R s h=>by
  let⟨k1,l1⟩:=p;let⟨k2,l2⟩:=q;let⟨hp,g,d,tk,os⟩:=s;let⟨hl1,hl2,h⟩:=h;have hsub:=sub_zip;have O3:vF (Shared.heap ⟨hp,g,d,tk,os⟩) (k1,l1):=hl1;have O4:vF (Shared.heap ⟨hp.push (C7 (k1,l1)),g,d,tk,os⟩) (k2,l2):=vF.push hl2 _
  wp_walk using vG O3,vG O4
  refine⟨_,rfl,?_⟩;erw[QJ] at h ⊢;exact h
theorem vH{a:Addr}(e:h.get? a=@(C7 q)):EA h 0 (q.1,a,q.2):=by
 let⟨k,l⟩:=q;cases k
 .exact .inr ⟨rfl,_,e,rfl,rfl⟩
 .exact .inl ⟨rfl,_,e,rfl,rfl⟩
def keysAt(n:Nat):List (Bool×Addr)->List (Bool×Addr×Addr)
 | []=>[]
 | q::qs=>(q.1,n,q.2)::keysAt (n+1) qs
theorem sG:∀(qs:List (Bool×Addr)) (n:Nat),(keysAt n qs).map xU=qs
 | [],_=>rfl
 | q::qs,n=>by simp[keysAt,xU,sG qs]
theorem jz:∀(qs:List (Bool×Addr)) (n:Nat),(keysAt n qs).length=qs.length
 | [],_=>rfl
 | q::qs,n=>by simp[keysAt,jz qs]
theorem iy:∀{qs:List (Bool×Addr)} {n:Nat} {x:Bool×Addr×Addr},x∈keysAt n qs->(@LE.le Nat _ n x.2.1/\@LT.lt Nat _ x.2.1 (n+qs.length))/\(x.1,x.2.2)∈qs
 | [],_,_,h=>by cases h
 | q::qs,n,x,h=>by
  rcases Qp.mp h with rfl | h
  .exact⟨⟨Qk _,by simp⟩,Qu⟩
  .let⟨⟨h1,h2⟩,h3⟩:=iy h;exact⟨⟨by omega,by simp;omega⟩,Qj _ h3⟩
theorem jN:∀(qs:List (Bool×Addr)) (n:Nat),((keysAt n qs).map (·.2.1)).Nodup
 | [],_=>nodup_nil
 | q::qs,n=>by
  rw[keysAt,QM,nodup_cons];refine⟨λ h=>?_,jN qs (n+1)⟩;let⟨x,hx,e⟩:=Qf.mp h;have h1:=(iy hx).1.1;have e':@Eq Nat x.2.1 n:=e;omega
theorem Hw{m:Nat}(hq:∀q∈qs,@LT.lt Nat _ q.2 n)(hne:qs≠[])(hm:m=n+qs.length)(js:List ZJ)(hk:js.map ZJ.key=keysAt n qs):ko (m+2) m (m+1) js:=by
 have hj:∀j∈js,(@LE.le Nat _ n j.it/\@LT.lt Nat _ j.it (n+qs.length))/\@LT.lt Nat _ j.l n:=λ j h=>by
  have h1:j.key∈keysAt n qs:=by rw[<-hk];exact mem_map_of_mem h
  let⟨h2,h3⟩:=iy h1;exact⟨h2,hq _ h3⟩
 refine {its:=?_,toi:=λ j h=>?_,tol:=λ j h=>?_,il:=λ j h j' h'=>?_,iz:=λ j h=>?_,lz:=λ j h=>?_,toz:=?_,tiz:=?_,tito:=?_,tii:=λ j h=>?_,ne:=λ h=>?_}
 .rw[uG hk];exact jN qs n
 .have:=hj j h;exact λ e=>by have e':@Eq Nat _ _:=e;omega
 .have:=hj j h;exact λ e=>by have e':@Eq Nat _ _:=e;omega
 .have:=hj j h;have:=hj j' h';exact λ e=>by have e':@Eq Nat _ _:=e;omega
 .have:=hj j h;exact λ e=>by have e':@Eq Nat _ _:=e;omega
 .have:=hj j h;exact λ e=>by have e':@Eq Nat _ _:=e;omega
 .exact λ e=>by have e':@Eq Nat _ _:=e;omega
 .exact λ e=>by have e':@Eq Nat _ _:=e;omega
 .exact λ e=>by have e':@Eq Nat _ _:=e;omega
 .have:=hj j h;exact λ e=>by have e':@Eq Nat _ _:=e;omega
 .subst h;have:=jz qs n;rw[<-hk] at this;exact hne (List.length_eq_zero_iff.mp this.symm)
theorem sH{o:Obj}(e:h.objs.size=n)(f:o.isFreed=false):(h.push o).get? n=some o:=by subst e;exact Qm _ f
section
variable{prog:Program}{w:World}{A:Around}{E:Value->Shared->Prop}{s:Shared}
theorem vF.lt(x:vF h q):@LT.lt Nat _ q.2 h.objs.size:=by
 obtain⟨xs,⟨e,p,x,_⟩ | ⟨e,p,x,_⟩⟩:=x<;>exact Qh x
theorem xV(hq:∀q∈qs,vF s.heap q)(hl:qs.length=2)
  (h:∀h' m,m=s.heap.objs.size+qs.length->ZK h' (m+2) m (m+1) .none (keysAt s.heap.objs.size qs) 0->(∀c o,s.heap.get? c=some o->h'.get? c=some o)->Q (.ref (m+2)) {s with heap:=h'}) :
  wpAny (model prog w) A (call (.type "zip") (qs.map λ q=>.ref q.2)) Q E s:=by
 match qs,hl,hq,h with
 | [p,q],_,hq,h=>
  refine callType_new F.called_zip 'd' (F.typeCall_zip_2 _ _) (F.newCall_zip_2 _ _) (λ obj=>F.args_object_init_3 obj _ _) F.entry_zip_new (sF p q) ⟨hq p 's',hq q 's',?_⟩;have z1:(s.heap.push (C7 p)).objs.size=s.heap.objs.size+1:=QJ ..;have z2:((s.heap.push (C7 p)).push (C7 q)).objs.size=s.heap.objs.size+2:=by rw[QJ,z1]
  rw[z1];have e1:∀(h:Heap) (o:Obj) (n:Nat),h.objs.size=n->(h.push o).objs.size=n+1:=λ h o n z=>by rw[QJ,z]
  refine⟨⟨_,sH (e1 _ _ _ (e1 _ _ _ z2)) rfl,rfl⟩,h _ (s.heap.objs.size+2) rfl ⟨sH (e1 _ _ _ (e1 _ _ _ z2)) rfl,Qc _ (Qc _ (sH z2 rfl)),⟨#[.none,.none],Qc _ (sH (e1 _ _ _ z2) rfl),rfl⟩,λ x hx=>?_⟩ λ c o x=>?_⟩
  .erw[keysAt,Rq,RV,or_false] at hx;rcases hx with rfl | rfl
   .exact vH (Qc _ (Qc _ (Qc _ (Qc _ (Qm _ rfl)))))
   .exact vH (Qc _ (Qc _ (Qc _ (sH z1 rfl))))
  .exact Qc _ (Qc _ (Qc _ (Qc _ (Qc _ x))))
end
section
variable{X:L2.Cx}
theorem jM.hp(I:Inv X aa Y H s)(h:jM X.K H q xs):vF s.heap q:=by
 rcases h with⟨e,h⟩ | ⟨e,h⟩
 .let⟨its,rv,p,hz⟩:=I.list h;exact⟨_,.inl ⟨e,p.isList⟩⟩
 .let⟨its,rv,p,hz⟩:=I.tuple h;exact⟨_,.inr ⟨e,(show s.heap.IsTuple q.2 its.toArray from p)⟩⟩
def NB(K:PySem.W.Frag)(ta:TA):TI:=fun Y H R=>ta Y H λ vs H1=>∃qs:List (Bool×Addr),vs=qs.map (λ q=>.ref q.2)/\qs.length=2/\(∀q∈qs,∃xs,jM K H1 q xs)/\R (Nz K qs) H1
theorem sI:∀{qs:List (Bool×Addr)} {us:List Value},Vals (qs.map λ q=>V.ref q.2) us->us=qs.map λ q=>Value.ref q.2
 | [],_,.nil=>rfl
 | q::qs,_,.cons r t=>by rw[sI t];cases r;rfl
theorem Hx{a:Expr}{r:List Expr}{ta:TA}{x1}(hg:Gl X "zip")(hm:X.mg "zip"=none)(ha:PA X (a::r) ta)(hs:starEach (a::r) X.env=(false,eval a X.env)::starEach r X.env)(hp:∀pos,(backTo pos (starEach r X.env)).any (·.1)=false) :
  PI X (.Tuple elts x1 tpos) (.Call (.Name "zip" p) (a::r) [] pos) (NB X.K ta):=by
 intro aa s Y H R I h;refine Call_ (g9 I hg hm (u:=.type "zip") 'k' (Rh (bY (ha pos aa s Y H _ I h) λ us s1 ⟨vs,H1,I1,r1,q1⟩=>?_) hs (hp _)));let⟨qs,rfl,hl,hq,q⟩:=q1;rw[sI r1];have Oo:∀q∈qs,vF s1.heap q:=λ q hq'=>by let⟨xs,z⟩:=hq q hq';exact z.hp I1
 refine xV Oo hl λ h' m hm' hz hk=>?_;refine wpAny_pyIter_zip hz.rc ?_;have I2:Inv X aa Y H1 {s1 with heap:=h'}:=I1.kept (t':=s1.toks) hk;have hlen:qs.length<=4:=by omega
 have hT:=Ad (P:=X.prog) (w:=X.w) (K:=X.K) (elts:=elts) (x1:=x1) (pos:=tpos) (ks:=keysAt s1.heap.objs.size qs) (Hw (m:=m) (λ q hq'=>(Oo q hq').lt) (by intro z;subst z;simp at hl) hm') (by rw[jz];omega);rw[sG] at hT;refine⟨_,_,_,_,H1,rfl,I2,hT,hz,λ b hb=>?_,q⟩;have:@LE.le Nat _ s1.heap.objs.size b:=by
  erw[Ac,Rq] at hb;rcases hb with rfl | rfl | rfl | hb
  .omega
  .omega
  .omega
  .let⟨x,hx,rfl⟩:=Qf.mp hb;exact(iy hx).1.1
 exact I1.pI this (I1.hok.fresh this)
end
def QS(X:L2.Cx)(cl:Cl)(src:Src)(q:Bool×Addr)(β0:List Addr)(H0:Hp):Prop:=∀(J:List Addr) (m:Mem) (H:Hp) (i:Nat),(∃γ,J=β0++γ)->(∀{a:Addr} {vs:List V},dI X.K H0 a vs->dI X.K H a vs)->(∀{a:Addr} {o:Obj} {u:HO},H0 a=some (.frz o u)->H a=@(.frz o u))->Rel X.K cl J m H->
 src.get m i≠.bad->∃xs,jM X.K H q xs/\(∀w,src.get m i=.it w->∃v,xs[i]?=some v/\RW X.K J H w v)/\(src.get m i=.fin->xs.length<=i)
section
variable{X:L2.Cx}{cl:Cl}{C:D.Cx}{pos:Pos}
theorem Hy{a:Addr}(hb:β0[n]?=some a):QS X cl (.lst n) (true,a) β0 H0:=by
 intro J m H i hβ _ _ r nb;let⟨γ,rfl⟩:=hβ;have hb':(β0++γ)[n]?=some a:=by rw[Qw (Qd.mp hb).1];exact hb
 erw[Src.get] at nb ⊢;cases e1:getL m (.ref n) with
 | none=>rw[e1] at nb;exact absurd rfl nb
 | some xs=>
  let⟨a',vs,z,hs,t⟩:=r.getL (.ref hb') e1;cases z;refine⟨vs,.inl ⟨rfl,hs⟩,λ w e=>?_,λ e=>?_⟩
  .dsimp only at e;split at e
   .ext w' e2;cases e;exact t.get e2
   .cases e
  .dsimp only at e;split at e
   .cases e
   .ext e2;rw[<-t.length];exact Rb.mp e2
theorem Ae{ws:List W}(t0:aW X.K β0 H0 ws vs)(hq:∀{H:Hp},(∀{a:Addr} {vs:List V},dI X.K H0 a vs->dI X.K H a vs)->(∀{a:Addr} {o:Obj} {u:HO},H0 a=some (.frz o u)->H a=@(.frz o u))->jM X.K H q vs):QS X cl (.tup ws) q β0 H0:=by
 intro J m H i hβ ht hf r nb;have t:=t0.keep hβ ht hf;erw[Src.get] at nb ⊢;refine⟨vs,hq ht hf,λ w e=>?_,λ e=>?_⟩
 .split at e
  .ext w' e2;cases e;exact t.get e2
  .cases e
 .split at e
  .cases e
  .ext e2;rw[<-t.length];exact Rb.mp e2
inductive IU(X:L2.Cx)(cl:Cl)(J:List Addr)(H:Hp):List Src->List (Bool×Addr)->Prop
 | nil:IU X cl J H [] []
 | cons {s:Src} {q:Bool×Addr} {ss:List Src} {qs:List (Bool×Addr)}:QS X cl s q J H->IU X cl J H ss qs->IU X cl J H (s::ss) (q::qs)
theorem vI(r:Rel X.K cl J m H):∀{ws:List W} {vs:List V} {ss:List Src},aW X.K J H ws vs->mJ m ws=some ss->∃qs:List (Bool×Addr),vs=qs.map (λ q=>V.ref q.2)/\IU X cl J H ss qs/\∀q∈qs,∃xs,jM X.K H q xs
 | _,_,_,.nil,e=>by cases e;exact⟨[],rfl,.nil,by simp⟩
 | _,_,_,.cons q t,e=>by
  erw[mJ] at e;split at e
  .cases e
  .ext s e1;split at e
   .cases e
   .ext ss e2;cases e;let⟨qs,rfl,h1,h2⟩:=vI r t e2;let⟨a,rfl,h⟩:=zY r q e1;rcases h with⟨n,vs,rfl,rfl,hb,hs⟩ | ⟨ws,vs,rfl,rfl,hs,t'⟩ | ⟨ws,vs,rfl,rfl,hs,t'⟩
    .refine⟨(true,a)::qs,rfl,.cons (Hy hb) h1,λ q hq=>?_⟩;rcases Qp.mp hq with rfl | hq
     .exact⟨vs,.inl ⟨rfl,hs⟩⟩
     .exact h2 q hq
    .refine⟨(true,a)::qs,rfl,.cons (Ae t' λ _ hf=>.inl ⟨rfl,(hs.keep hf).l⟩) h1,λ q hq=>?_⟩;rcases Qp.mp hq with rfl | hq
     .exact⟨vs,.inl ⟨rfl,hs.l⟩⟩
     .exact h2 q hq
    .refine⟨(false,a)::qs,rfl,.cons (Ae t' λ ht _=>.inr ⟨rfl,ht hs⟩) h1,λ q hq=>?_⟩;rcases Qp.mp hq with rfl | hq
     .exact⟨vs,.inr ⟨rfl,hs⟩⟩
     .exact h2 q hq
theorem vJ(hβ:∃γ,J=β0++γ)(ht:∀{a:Addr} {vs:List V},dI X.K H0 a vs->dI X.K H a vs)(hf:∀{a:Addr} {o:Obj} {u:HO},H0 a=some (.frz o u)->H a=@(.frz o u))(r:Rel X.K cl J m H):∀{ss:List Src} {qs:List (Bool×Addr)},IU X cl β0 H0 ss qs->
  (Src.lB ss m i≠.bad->∀q∈qs,∃xs,jM X.K H q xs)/\
  (∀ws,Src.lB ss m i=.its ws->(∀q∈qs,∃xs v,jM X.K H q xs/\xs[i]?=some v)/\∀vs,Paired (λ q v=>∀xs,jM X.K H q xs->xs[i]?=some v) qs vs->aW X.K J H ws vs)/\
  (Src.lB ss m i=.fin->∃pre q post,qs=pre++q::post/\(∀p∈pre,∃xs v,jM X.K H p xs/\xs[i]?=some v)/\∃xs,jM X.K H q xs/\xs.length<=i)
 | _,_,.nil=>by
  refine⟨λ _ q hq=>(nomatch hq),λ ws e=>?_,λ e=>?_⟩
  .unfold Src.lB at e;cases e;exact⟨by simp,λ vs p=>by cases p;exact .nil⟩
  .unfold Src.lB at e;cases e
 | _,_,.cons (s:=s) (q:=q) (ss:=ss) (qs:=qs) h t=>by
  let⟨i1,i2,i3⟩:=vJ hβ ht hf r t;erw[Src.lB];cases e1:s.get m i with
  | bad=>refine⟨λ z=>absurd 's' z,λ ws e=>by simp at e,λ e=>by simp at e⟩
  | fin=>
   let⟨xs,x1,x2,x3⟩:=h J m H i hβ ht hf r (by rw[e1];intro z;cases z);cases e2:Src.lB ss m i with
   | bad=>refine⟨λ z=>absurd 's' z,λ ws e=>by simp at e,λ e=>by simp at e⟩
   | fin=>
    refine⟨λ _ p hp=>?_,λ ws e=>by simp at e,λ _=>⟨[],q,qs,rfl,by simp,xs,x1,x3 e1⟩⟩;rcases Qp.mp hp with rfl | hp
    .exact⟨xs,x1⟩
    .exact i1 (by rw[e2];intro z;cases z) p hp
   | its ws=>
    refine⟨λ _ p hp=>?_,λ ws e=>by simp at e,λ _=>⟨[],q,qs,rfl,by simp,xs,x1,x3 e1⟩⟩;rcases Qp.mp hp with rfl | hp
    .exact⟨xs,x1⟩
    .exact i1 (by rw[e2];intro z;cases z) p hp
  | it w=>
   let⟨xs,x1,x2,x3⟩:=h J m H i hβ ht hf r (by rw[e1];intro z;cases z);let⟨v,v1,v2⟩:=x2 w e1;cases e2:Src.lB ss m i with
   | bad=>refine⟨λ z=>absurd 's' z,λ ws e=>by simp at e,λ e=>by simp at e⟩
   | fin=>
    refine⟨λ _ p hp=>?_,λ ws e=>by simp at e,λ _=>?_⟩
    .rcases Qp.mp hp with rfl | hp
     .exact⟨xs,x1⟩
     .exact i1 (by rw[e2];intro z;cases z) p hp
    .let⟨pre,p,post,rfl,h1,h2⟩:=i3 e2;refine⟨q::pre,p,post,rfl,λ p' hp'=>?_,h2⟩;rcases Qp.mp hp' with rfl | hp'
     .exact⟨xs,v,x1,v1⟩
     .exact h1 p' hp'
   | its ws=>
    let⟨j1,j2⟩:=i2 ws e2;refine⟨λ _ p hp=>?_,λ Nj e=>?_,λ e=>by simp at e⟩
    .rcases Qp.mp hp with rfl | hp
     .exact⟨xs,x1⟩
     .exact i1 (by rw[e2];intro z;cases z) p hp
    .erw[Oc.its.injEq] at e;subst e;refine⟨λ p hp=>?_,λ vs p=>?_⟩
     .rcases Qp.mp hp with rfl | hp
      .exact⟨xs,v,x1,v1⟩
      .exact j1 p hp
     .cases p with
      | cons y p=>
       have:=y xs x1;rw[v1] at this;cases this;exact .cons v2 (j2 _ p)
theorem Hz{ss:List Src}(h:IU X cl β0 H0 ss qs):IS X cl (Nz X.K qs) (.zip ss) β0 H0:=by
 intro J m H i hβ ht hf r;let⟨i1,i2,i3⟩:=vJ (i:=i) hβ ht hf r h;refine⟨λ w e=>?_,λ e=>?_⟩
 .erw[Src.get] at e;split at e
  .ext ws e1;cases e;let⟨j1,j2⟩:=i2 ws e1;refine⟨j1,λ x H' y=>?_⟩;let⟨p,vs,hp,rfl,rfl,hv⟩:=y;let⟨x2,r2⟩:=r.qb hp vs;exact⟨x2,r2,.tup (.of aJ) ((j2 vs hv).mono r x2)⟩
  .cases e
  .cases e
 .erw[Src.get] at e;split at e
  .cases e
  .ext e1;exact⟨i1 (by rw[e1];intro z;cases z),i3 e1⟩
  .cases e
theorem KC{a:Expr}{x1}(hg:Gl X "zip")(hm:X.mg "zip"=none)(ha:PA X (a::es) (SA X cl (bQ C ds)))(hl:∀Z m ws m',bQ C ds Z m=.ok ws m'->ws.length=2)
  (hs:starEach (a::es) X.env=(false,eval a X.env)::starEach es X.env) (hp:∀pos,(backTo pos (starEach es X.env)).any (·.1)=false):PI X (.Tuple elts x1 tpos) (.Call (.Name "zip" p) (a::es) [] pos) (SI X cl (cC C (.zip ds))):=by
 refine PI.imp (Hx hg hm ha hs hp) ?_;rintro Y H Rr ⟨J,Z,m,src,m',r,l,e,k⟩;erw[mO] at e;let⟨ws,m1,e1,e⟩:=R.ah e;split at e
 .ext ss e2;cases e;refine⟨J,Z,m,ws,_,r,l,e1,fun β1 H1 vs x1 r1 q1=>?_⟩;let⟨qs,rfl,h1,h2⟩:=vI r1 q1 e2;have hlen:=hl _ _ _ _ e1;have:=q1.length;erw[Qi] at this;exact⟨qs,rfl,by omega,h2,k _ _ _ x1 r1 (Hz h1)⟩
 .cases e
end
def eF(γ:List Addr)(h:Heap)(H:Hp):Hp:=λ b=>if b∈γ then match H b,h.get? b with
  | some (.lst vs),some o=>some (.frz o (.lst vs))
  | some (.ins c dx fs),some o=>some (.frz o (.ins c dx fs))
  | u,_=>u else H b
section
variable{γ:List Addr}{h:Heap}{H:Hp}{b:Addr}
theorem jA:eF γ h H b=H b\/∃o u,b∈γ/\H b=some u/\h.get? b=some o/\eF γ h H b=some (.frz o u)/\((∃vs,u=.lst vs)\/∃c dx fs,u=.ins c dx fs):=by
 unfold eF
 by_cases hb:b∈γ
 .erw[Qs hb];split
  .ext vs o h1 h2;exact .inr ⟨o,_,hb,h1,h2,rfl,.inl ⟨vs,rfl⟩⟩
  .ext c dx fs o h1 h2;exact .inr ⟨o,_,hb,h1,h2,rfl,.inr ⟨c,dx,fs,rfl⟩⟩
  .exact .inl rfl
 .exact .inl (Qz hb)
theorem i8(e:H b=none):eF γ h H b=none:=by
 rcases jA (γ:=γ) (h:=h) (H:=H) (b:=b) with z | ⟨o,u,_,z,_⟩
 .rw[z,e]
 .rw[e] at z;cases z
theorem cz{u:HO}(e:H b=some u)(h1:∀vs,u≠.lst vs)(h2:∀c dx fs,u≠.ins c dx fs):eF γ h H b=some u:=by
 rcases jA (γ:=γ) (h:=h) (H:=H) (b:=b) with z | ⟨o,u',_,z,_,_,⟨vs,rfl⟩ | ⟨c,dx,fs,rfl⟩⟩
 .rw[z,e]
 .rw[e] at z;cases z;exact absurd rfl (h1 _)
 .rw[e] at z;cases z;exact absurd rfl (h2 _ _ _)
theorem dG(e:b∉γ):eF γ h H b=H b:=by unfold eF;rw[Qz e]
theorem Af{o:Obj}(e:b∈γ)(e1:H b=@(.lst vs))(e2:h.get? b=some o):eF γ h H b=some (.frz o (.lst vs)):=by unfold eF;rw[Qs e,e1,e2]
theorem Ag{c:Addr}{fs:List (Str×V)}{o:Obj}(e:b∈γ)(e1:H b=@(.ins c dx fs))(e2:h.get? b=some o):eF γ h H b=some (.frz o (.ins c dx fs)):=by unfold eF;rw[Qs e,e1,e2]
theorem KD{w:World}(x:iG P w H h):iG P w (eF γ h H) h:=λ a u e=>by
 have go:∀v,H a=some v->bU P w (D.eF γ h H) h a v:=λ v hv=>(x a v hv).stay (λ _ _ _ q=>q) (λ c q=>cz q (by intro _ z;cases z) (by intro _ _ _ z;cases z)) λ c xs q=>cz q (by intro _ z;cases z) (by intro _ _ _ z;cases z);rcases jA (γ:=γ) (h:=h) (H:=H) (b:=a) with z | ⟨o,v,_,z,z2,z3,_⟩
 .exact go u (by rw[<-z];exact e)
 .rw[z3] at e;cases e;exact⟨z2,go v z⟩
end
theorem EB(I:Inv X aa Y H s)(γ:List Addr):Inv X aa Y (eF γ s.heap H) s where
 ok:=I.ok
 os:=I.os
 bare:=I.bare
 base:={
  keep:=I.base.keep
  slot:=I.base.slot
  free:=λ b o q n hx=>i8 (I.base.free b o q n hx)
  there:=I.base.there
  tups:=λ b xs q=>cz (I.base.tups b xs q) (by intro _ z;cases z) (by intro _ _ _ z;cases z)
  kX:=λ b o u q=>cz (I.base.kX b o u q) (by intro _ z;cases z) (by intro _ _ _ z;cases z)
  lT:=λ b ps q=>let ⟨more,e⟩:=I.base.lT b ps q;⟨more,cz e (by intro _ z;cases z) (by intro _ _ _ z;cases z)⟩}
 loc:=I.loc
 cell:=I.cell
 free:=i8 I.free
 freeC:=λ x c e=>i8 (I.freeC x c e)
 pin:=λ p hp=>let ⟨a,b,c⟩:=I.pin p hp;⟨a,i8 b,c⟩
 hok:=KD I.hok
 len:=I.len
section
variable{K:PySem.W.Frag}{cl:Cl}{J γ:List Addr}{H:Hp}{h:Heap}{m:Mem}
theorem EC{a:Addr}(q:dI K H a vs):dI K (eF γ h H) a vs:=by
 rcases q with (q | ⟨o,q⟩) | q
 .exact .inl (.inl (cz q (by intro _ z;cases z) (by intro _ _ _ z;cases z)))
 .exact .inl (.inr ⟨o,cz q (by intro _ z;cases z) (by intro _ _ _ z;cases z)⟩)
 .exact .inr q
theorem ED{a:Addr}(q:sd K H a vs):sd K (eF γ h H) a vs:=by
 rcases q with⟨o,q⟩ | q
 .exact .inl ⟨o,cz q (by intro _ z;cases z) (by intro _ _ _ z;cases z)⟩
 .exact .inr q
theorem RW.Ah(q:RW K (J++γ) H w v):j6 J.length w=true->RW K J (eF γ h H) w v:=
 RW.rec (motive_1:=λ w v _=>j6 J.length w=true->RW K J (eF γ h H) w v) (motive_2:=λ w v _=>gf J.length w=true->aW K J (eF γ h H) w v) (λ _=>.non) (λ b _=>.bl b) (λ b _=>.int b) (λ b _=>.str b) (λ h _ i e=>.tup (EC h) (i e)) (λ h _ i e=>.fz (ED h) (i e)) (λ h z _ i e=>.obj (cz h (by intro _ z;cases z) (by intro _ _ _ z;cases z)) z (i e)) (λ q e=>.ref (by rw[Qw (of_decide_eq_true e)] at q;exact q)) (λ _=>.nil) (λ _ _ a b e=>.cons (a (Qt.mp e).1) (b (Qt.mp e).2)) q
theorem aW.Ah{w:List W}{v:List V}(q:aW K (J++γ) H w v)(e:gf J.length w=true):aW K J (eF γ h H) w v:=by
 induction w generalizing v with
 | nil=>cases q;exact .nil
 | cons x w ih=>cases q with | cons a b=>exact .cons (a.Ah (Qt.mp e).1) (ih b (Qt.mp e).2)
theorem iE.snd:∀{fs:List (Str×W)} {gs:List (Str×V)},iE K J H fs gs->aW K J H (fs.map (·.2)) (gs.map (·.2))/\fs.map (·.1)=gs.map (·.1)
 | _,_,.nil=>⟨.nil,rfl⟩
 | _,_,.cons q t=>⟨.cons q t.snd.1,by rw[QM,QM,t.snd.2]⟩
theorem iE.of:∀{fs:List (Str×W)} {gs:List (Str×V)},fs.map (·.1)=gs.map (·.1)->aW K J H (fs.map (·.2)) (gs.map (·.2))->iE K J H fs gs
 | [],[],_,_=>.nil
 | (f,w)::fs,(g,v)::gs,e,t=>by
  erw[QM,List.cons.injEq] at e;let⟨rfl,e⟩:=e;cases t with
  | cons q t=>exact .cons q (iE.of e t)
 | [],_::_,e,_=>by simp at e
 | _::_,[],e,_=>by simp at e
mutual
theorem RW.mH{g:Nat->Option W}(hg:∀{n w v},g n=some w->RW K (J++γ) H (.ref n) v->RW K J (eF γ h H) w v):∀{w:W} {v:V} {w1:W},RW K (J++γ) H w v->D.mH g w=some w1->RW K J (eF γ h H) w1 v
 | _,_,_,.non,e=>by erw[D.mH] at e;cases e;exact .non
 | _,_,_,.bl b,e=>by erw[D.mH] at e;cases e;exact .bl b
 | _,_,_,.int i,e=>by erw[D.mH] at e;cases e;exact .int i
 | _,_,_,.str s,e=>by erw[D.mH] at e;cases e;exact .str s
 | _,_,_,.tup q t,e=>by
  erw[D.mH,Qe] at e;let⟨ys,e1,rfl⟩:=e;exact .tup (EC q) (aW.ir hg t e1)
 | _,_,_,.fz q t,e=>by
  erw[D.mH,Qe] at e;let⟨ys,e1,rfl⟩:=e;exact .fz (ED q) (aW.ir hg t e1)
 | _,_,_,.obj q z t,e=>by
  erw[D.mH,Qe] at e;let⟨ys,e1,rfl⟩:=e;exact .obj (cz q (by intro _ z;cases z) (by intro _ _ _ z;cases z)) z (aW.ir hg t e1)
 | _,_,_,.ref q,e=>hg (by simpa only[D.mH] using e) (.ref q)
theorem aW.ir{g:Nat->Option W}(hg:∀{n w v},g n=some w->RW K (J++γ) H (.ref n) v->RW K J (eF γ h H) w v):∀{w:List W} {v:List V} {w1:List W},aW K (J++γ) H w v->D.ir g w=some w1->aW K J (eF γ h H) w1 v
 | _,_,_,.nil,e=>by erw[D.ir] at e;cases e;exact .nil
 | _,_,_,.cons q t,e=>by
  erw[D.ir] at e;split at e
  .cases e
  .ext y e1;split at e
   .cases e
   .ext ys e2;cases e;exact .cons (RW.mH hg q e1) (aW.ir hg t e2)
end
theorem qk(hh:∀a u,H a=some u->((∃vs,u=.lst vs)\/∃c dx fs,u=.ins c dx fs)->∃o,h.get? a=some o)(r:Rel K cl (J++γ) m H):∀(d:Nat) {n:Nat} {w:W} {v:V},BA m J.length d n=some w->RW K (J++γ) H (.ref n) v->RW K J (eF γ h H) w v
 | 0,n,w,v,e,q=>by
  erw[BA] at e;split at e
  .ext hn;cases e;exact q.Ah (by simpa only[j6,Q7] using hn)
  .cases e
 | d+1,n,w,v,e,q=>by
  erw[BA] at e;split at e
  .ext hn;cases e;exact q.Ah (by simpa only[j6,Q7] using hn)
  .ext hn;cases q with
   | ref hb=>
    ext a;have ha:a∈γ:=by
     rw[QH 'o'] at hb;exact QX hb
    split at e
    .ext xs e1;erw[Qe] at e;let⟨ys,e2,rfl⟩:=e;let⟨vs,z,t⟩:=r.obj e1 hb;let⟨o,ho⟩:=hh a _ z (.inl ⟨_,rfl⟩);exact .fz (.inl ⟨o,Af ha z ho⟩) (t.ir (λ e q=>qk hh r d e q) e2)
    .ext c fs e1;erw[Qe] at e;let⟨ys,e2,rfl⟩:=e;let⟨dx,fs',z,t⟩:=r.obj e1 hb;let⟨o,ho⟩:=hh a _ z (.inr ⟨_,_,_,rfl⟩);exact .obj (Ag ha z ho) t.snd.2 (t.snd.1.ir (λ e q=>qk hh r d e q) e2)
    .cases e
end
theorem EE{ex:Expr}(hp:PE X ex (SE X cl (ao C d))):PE X ex (SE X cl (ao C (.frz d))):=by
 rintro aa s Y H Q I ⟨J,Z,m,w,m',r,l,e,k⟩;erw[fR] at e;cases h0:ao C d Z m with
 | no=>rw[h0] at e;cases e
 | ok w0 m0=>
  rw[h0] at e;erw[zI] at e;split at e
  .ext hc;split at e
   .ext w1 e1;cases e;refine bY (hp aa s Y H (λ v H1=>∃β1,Ext J H β1 H1/\Rel X.K cl β1 m0 H1/\RW X.K β1 H1 w0 v) I ⟨J,Z,m,w0,m0,r,l,h0,fun β1 H1 v1 x1 r1 q1=>⟨β1,x1,r1,q1⟩⟩) λ u s1 ⟨v,H1,I1,rv,β1,x1,r1,q1⟩=>?_;let⟨γ,rfl,hγ⟩:=x1.pre;have hl:=r.len;have hh:∀a u,H1 a=some u->((∃vs,u=.lst vs)\/∃c dx fs,u=.ins c dx fs)->∃o,s1.heap.get? a=some o:=λ a u q hu=>by
     rcases hu with⟨vs,rfl⟩ | ⟨c,dx,fs,rfl⟩
     .let⟨_,_,_,_,e⟩:=I1.hok a _ q;exact⟨_,e⟩
     .let⟨_,_,_,e,_⟩:=I1.hok a _ q;exact⟨_,e⟩
    refine⟨v,eF γ s1.heap H1,EB I1 γ,rv,k J _ v ⟨⟨[],by simp,by simp⟩,λ {a o} q hn _=>?_⟩ ⟨?_,?_,λ {n o a} h1 h2=>?_⟩ ?_⟩
    .rw[dG λ z=>by rw[hγ a z] at q;cases q];exact x1.keep q hn 's'
    .rw[Ri,hl];omega
    .exact(List.nodup_append.mp r1.nd).1
    .have hn:n < m.length:=by
      have:=(Qd.mp h1).1;rw[Ri] at this;omega
     rw[getElem?_take_of_lt hn] at h1;have hb:(J++γ)[n]?=some a:=by rw[Qw 'o'];exact h2
     have uH:ju J.length o=true:=by
      rw[hl];exact Qx.mp hc.2 o (QX (by rw[getElem?_take_of_lt hn];exact h1))
     have ha:a∉γ:=λ z=>by
      have:=(List.nodup_append.mp r1.nd).2.2 a (QX h2) a z;exact this rfl
     have q:=r1.obj h1 hb;cases o with
     | lst ws=>let⟨vs,e,t⟩:=q;exact⟨vs,(dG ha).trans e,t.Ah (by simpa only[ju] using uH)⟩
     | ins c fs=>
      let⟨dx,fs',e,t⟩:=q;exact⟨dx,fs',(dG ha).trans e,.of t.snd.2 (t.snd.1.Ah (by simpa only[ju] using uH))⟩
     | set ks=>let⟨S,e,t⟩:=q;exact⟨S,(dG ha).trans e,t⟩
     | dic fs=>
      let⟨fs',e,t⟩:=q;exact⟨fs',(dG ha).trans e,.of t.snd.2 (t.snd.1.Ah (by simpa only[ju] using uH))⟩
    .rw[<-hl] at e1;exact q1.mH (λ e q=>qk hh r1 8 e q) e1
   .cases e
  .cases e
theorem RW.KG(q:RW K J H w v):j6 J.length w=true:=
 RW.rec (motive_1:=λ w v _=>j6 J.length w=true) (motive_2:=λ w v _=>gf J.length w=true) rfl (λ _=>rfl) (λ _=>rfl) (λ _=>rfl) (λ _ _ i=>i) (λ _ _ i=>i) (λ _ _ _ i=>i) (λ q=>Q2 (Qd.mp q).1) rfl (λ _ _ a b=>Qt.mpr ⟨a,b⟩) q
theorem Rel.frozen{s1:Shared}{H1:Hp}{m0:Mem}(r:Rel X.K cl J m H)(x1:Ext J H (J++γ) H1)(hγ:∀a∈γ,H a=none)(r1:Rel X.K cl (J++γ) m0 H1)(hc:m.length<=m0.length/\xH m.length (m0.take m.length)=true)(I1:Inv X aa Y H1 s1) :
  Ext J H J (eF γ s1.heap H1)/\Rel X.K cl J (m0.take m.length) (eF γ s1.heap H1)/\(∀a u,H1 a=some u->((∃vs,u=.lst vs)\/∃c dx fs,u=.ins c dx fs)->∃o,s1.heap.get? a=some o):=by
 have hl:=r.len;refine⟨⟨⟨[],by simp,by simp⟩,λ {a o} q hn _=>?_⟩,⟨?_,?_,λ {n o a} h1 h2=>?_⟩,λ a u q hu=>?_⟩
 .rw[dG λ z=>by rw[hγ a z] at q;cases q];exact x1.keep q hn 's'
 .rw[Ri,hl];omega
 .exact(List.nodup_append.mp r1.nd).1
 .have hn:n < m.length:=by
   have:=(Qd.mp h1).1;rw[Ri] at this;omega
  rw[getElem?_take_of_lt hn] at h1;have hb:(J++γ)[n]?=some a:=by rw[Qw 'o'];exact h2
  have uH:ju J.length o=true:=by
   rw[hl];exact Qx.mp hc.2 o (QX (by rw[getElem?_take_of_lt hn];exact h1))
  have ha:a∉γ:=λ z=>by
   have:=(List.nodup_append.mp r1.nd).2.2 a (QX h2) a z;exact this rfl
  have q:=r1.obj h1 hb;cases o with
  | lst ws=>let⟨vs,e,t⟩:=q;exact⟨vs,(dG ha).trans e,t.Ah (by simpa only[ju] using uH)⟩
  | ins c fs=>
   let⟨dx,fs',e,t⟩:=q;exact⟨dx,fs',(dG ha).trans e,.of t.snd.2 (t.snd.1.Ah (by simpa only[ju] using uH))⟩
  | set ks=>let⟨S,e,t⟩:=q;exact⟨S,(dG ha).trans e,t⟩
  | dic fs=>
   let⟨fs',e,t⟩:=q;exact⟨fs',(dG ha).trans e,.of t.snd.2 (t.snd.1.Ah (by simpa only[ju] using uH))⟩
 .rcases hu with⟨vs,rfl⟩ | ⟨c,dx,fs,rfl⟩
  .let⟨_,_,_,_,e⟩:=I1.hok a _ q;exact⟨_,e⟩
  .let⟨_,_,_,e,_⟩:=I1.hok a _ q;exact⟨_,e⟩
theorem HA(hp:PS X st (SS X cl (fu C (.asg (.pt (.var i)) d)))):PS X st (SS X cl (fu C (.asg (.pt (.var i)) (.frz d)))):=by
 rintro aa s Y H D I ⟨J,Z,m,f,m',r,l,e,k⟩;erw[fS,fR,gU,aE] at e;let⟨w1,m1,e1,e⟩:=R.ah e;erw[R.bind] at e;cases e;cases h0:ao C d Z m with
 | no=>rw[h0] at e1;cases e1
 | ok w0 m0=>
  rw[h0] at e1;erw[zI] at e1;split at e1
  .ext hc;split at e1
   .ext P5 e2;cases e1;refine bY (hp aa s Y H {nx:=fun σ1 H1=>∃β1,Ext J H β1 H1/\Rel X.K cl β1 m0 H1/\RL X.K β1 H1 (Z.set i (some w0)) σ1,rt:=λ _ _=>False} I ⟨J,Z,m,.nx (Z.set i (some w0)),m0,r,l,by erw[fS,h0,R.bind,gU,aE],fun β1 H1 x1 r1 σ1 l1=>⟨β1,x1,r1,l1⟩⟩) λ fl s1 h=>?_;cases fl with
    | next=>
     let⟨σ1,H1,I1,β1,x1,r1,l1⟩:=h;let⟨γ,rfl,hγ⟩:=x1.pre;let⟨z1,z2,z3⟩:=r.frozen x1 hγ r1 hc I1;refine⟨σ1,eF γ s1.heap H1,EB I1 γ,k J _ z1 z2 σ1 ⟨by rw[length_set,<-l1.len,length_set],λ {j w} hj=>?_⟩⟩
     by_cases hij:i=j
     .subst hij;have hlt:i < Z.length:=by
       have:=(Qd.mp hj).1;simpa using this
      rw[QN hlt] at hj;cases hj;let⟨v,hv,qv⟩:=l1.at_ (i:=i) (w:=w0) (by rw[QN hlt]);rw[<-r.len] at e2;exact⟨v,hv,qv.mH (λ e q=>qk z3 r1 8 e q) e2⟩
     .rw[QT hij] at hj;let⟨v,hv,qv⟩:=l1.at_ (i:=j) (w:=w) (by rw[QT hij];exact hj);let⟨v',_,q'⟩:=l.at_ hj;exact⟨v,hv,qv.Ah q'.KG⟩
    | brk=>let⟨_,_,_,z⟩:=h;exact False.elim z
    | cont=>let⟨_,_,_,z⟩:=h;exact False.elim z
    | ret u=>let⟨_,_,_,_,_,z⟩:=h;exact False.elim z
   .cases e1
  .cases e1
theorem lC{prog:Program}{w:World}{A:Around}{E:Value->Shared->Prop}{name:Str}{apos:Pos}
  (hbase:attributeBase o name env (eval o env)=eval o env)
  (hfew:((backTo pos (starEach args env)).all (λ x=>!x.1)&&(backToKw pos (keywordEach [] env)).all (λ x=>x.1.isSome)
   && decide (args.length+([]:List Keyword).length+(if ([]:List Keyword).isEmpty then 0 else 1) < 30))=true)
  (hline:(apos.endLine==pos.line)=true)
  (h:wpAny (model prog w) A (eval o env) (λ ov s₁=>∀pl,wpAny (model prog w) A (getMethod ov name pl) (λ fx s₂=>wpAny (model prog w) A (callWith pos fx.1 fx.2 (backTo pos (starEach args env)) []) Q E s₂) E s₁) E s) :
  wpAny (model prog w) A (eval (.Call (.Attribute o name apos) args [] pos) env) Q E s:=by
 rw[arm_eval_Call,hbase];refine Qa (QF h (λ ov s₁ h₁=>?_) λ _ _ e=>e);refine Qa (RK ?_);have KH:methodCallForm (args.length+([]:List Keyword).length) (backTo pos (starEach args env)) (backToKw pos (keywordEach [] env))=true:=hfew;have hpos:methodCallPos true o env apos pos=pure pos:=by unfold methodCallPos;simp[hline]
 unfold methodCall;rw[KH];refine Qa (QV (QF (h₁ _) (λ fx s2 h2=>?_) λ _ _ e=>e));exact Qa (wpAny_of_eq hpos h2)
section
variable{X:L2.Cx}{cl:Cl}{C:D.Cx}{pos:Pos}
theorem Ai{a Cc:Addr}{fs:List (Str×V)}(I:Inv X aa Y H s)(e:Rd H a (.ins Cc dx fs)):∃mA,rm s.heap a dx Cc mA/\∀f,iF (fs.lookup f) (mA f):=by
 let⟨d,z,ne,ob,mA,n,r,q⟩:=(show bU X.prog X.w H s.heap a (.ins Cc dx fs) from e.ok I.hok);exact⟨mA,⟨ob,n,ne⟩,r⟩
theorem iE.lookup{f:Str}:∀{fs:List (Str×W)} {gs:List (Str×V)},iE K J H fs gs->(∀{w},fs.lookup f=some w->∃v,gs.lookup f=some v/\RW K J H w v)/\(fs.lookup f=none->gs.lookup f=none)
 | _,_,.nil=>⟨λ h=>by simp at h,λ _=>rfl⟩
 | _,_,.cons (f:=g) q t=>by
  let⟨h1,h2⟩:=t.lookup (f:=f);cases hx:f==g with
  | true=>
   refine⟨λ h=>?_,λ h=>?_⟩
   .erw[Qy,hx] at h ⊢;cases h;exact⟨_,rfl,q⟩
   .erw[Qy,hx] at h;cases h
  | false=>
   refine⟨λ h=>?_,λ h=>?_⟩
   .erw[Qy,hx] at h ⊢;exact h1 h
   .erw[Qy,hx] at h ⊢;exact h2 h
theorem Aj:∀{gs:List (Str×V)} {xs:List W},aW K J H xs (gs.map (·.2))->iE K J H ((gs.map (·.1)).zip xs) gs
 | [],_,t=>by cases t;exact .nil
 | (g,v)::gs,xs,t=>by
  cases t with
  | cons q t=>exact .cons q (Aj t)
theorem Rel.ins{fs:List (Str×W)}(r:Rel K cl J m H)(q:RW K J H w v)(e:mG m w=some (c,fs)):∃a dx gs,v=.ref a/\Rd H a (.ins (aS K c) dx gs)/\iE K J H fs gs:=by
 cases q with
 | ref h=>
  erw[mG] at e;split at e
  .ext c' fs' e1;cases e;let⟨dx,gs,z,t⟩:=r.obj e1 h;exact⟨_,dx,gs,rfl,.inl z,t⟩
  .cases e
 | obj h e0 t=>
  erw[mG] at e;cases e;subst e0;exact⟨_,_,_,rfl,.inr ⟨_,h⟩,Aj t⟩
 | _=>erw[mG] at e;cases e
theorem KI{a:Expr}{f:Str}(hc:∀{c f},C.cs.flds.contains (c,f)=true->yt X.K (aS X.K c)/\iJ X.K (aS X.K c) f)(ha:PE X a (SE X cl (ao C d)))(hb:attributeBase a f X.env (eval a X.env)=eval a X.env):PE X (.Attribute a f pos) (SE X cl (ao C (.fld d f))):=by
 rintro aa s Y H Q I ⟨J,Z,m,w,m',r,l,e,k⟩;erw[gv] at e;let⟨x,m1,e1,e⟩:=R.ah e;unfold jJ at e;split at e
 .ext c fs e2;split at e
  .ext hcf;split at e
   .ext w' e3;cases e;refine B3 hb (bY (ha aa s Y H (λ v H1=>∃β1,Ext J H β1 H1/\Rel X.K cl β1 m' H1/\RW X.K β1 H1 x v) I ⟨J,Z,m,x,m',r,l,e1,fun β1 H1 v1 x1 r1 q1=>⟨β1,x1,r1,q1⟩⟩) λ u s1 ⟨v,H1,I1,rv,β1,x1,r1,q1⟩=>?_);let⟨a',dx,gs,rfl,hr,t⟩:=r1.ins q1 e2;obtain rfl:u=Value.ref a':=rv;let⟨mA,O,ro⟩:=Ai I1 hr;let⟨z,ez,qz⟩:=t.lookup.1 e3;let⟨hcl,hna⟩:=hc hcf;let⟨u,hu,ru⟩:=iF.some_of (v:=z) (o:=mA f) (by rw[<-ez];exact ro f);exact get_map I1.tN O (hcl.get f) hcl.hd hna hu (w4 ru) ⟨z,H1,I1.tok _,ru,k _ _ _ x1 r1 qz⟩
   .cases e
  .cases e
 .cases e
theorem vK{f:Str}(q:RW K J H w v):∀{fs:List (Str×W)} {gs:List (Str×V)},iE K J H fs gs->iE K J H (D.gj f w fs) (L2.gj f v gs)
 | _,_,.nil=>.cons q .nil
 | _,_,.cons (f:=g) (ws:=ws) (vs:=vs) q' t=>by
  erw[D.gj,L2.gj];split
  .exact .cons q t
  .exact .cons q' (vK q t)
theorem iE.length:∀{fs:List (Str×W)} {gs:List (Str×V)},iE K J H fs gs->fs.length=gs.length
 | _,_,.nil=>rfl
 | _,_,.cons _ t=>by rw[QB,QB,t.length]
theorem iE.mono(r:Rel K cl J m H)(x:Ext J H J' H'){fs:List (Str×W)}(t:iE K J H fs gs):iE K J' H' fs gs:=t.cY r BB x
theorem Rel.NC{a:Addr}(r:Rel K cl J m H){o:O}{fs:List (Str×W)}(hm:m[n]?=some o)(hb:J[n]?=some a)(q:iE K J H fs gs) :
  Ext J H J (upd H a (.ins (aS K c) dx gs))/\Rel K cl J (m.set n (.ins c fs)) (upd H a (.ins (aS K c) dx gs)):=by
 have ha:a∈J:=QX hb;have x:Ext J H J (upd H a (.ins (aS K c) dx gs)):=⟨⟨[],by simp,by simp⟩,λ {b u} h hn _=>by rw[aq (show b≠a from λ z=>hn (by rw[z];exact ha))];exact h⟩;refine⟨x,by simp[r.len],r.nd,λ {k o' b} h1 h2=>?_⟩
 by_cases hk:n=k
 .subst hk;rw[hb] at h2;cases h2;rw[QN (Qd.mp hm).1] at h1;cases h1;exact⟨dx,gs,aJ,q.mono r x⟩
 .rw[QT hk] at h1;have q':=r.obj h1 h2;refine q'.mono r x (aq ?_);rintro rfl;let⟨h3,e3⟩:=Qd.mp h2;let⟨h4,e4⟩:=Qd.mp hb;exact hk ((getElem_inj r.nd).mp (e4.trans e3.symm))
theorem HB{a:Expr}{Ks:E}{f:Str}{pos':Pos}(hc:∀{c f},C.cs.flds.contains (c,f)=true->yt X.K (aS X.K c)/\iJ X.K (aS X.K c) f)(ho:PE X o (SE X cl (ao C Ks)))(ha:PE X a (SE X cl (ao C d)))
  (hs:swapsWith a @(.Attribute o f pos') pos.line X.env=pure false):PS X (.Assign [.Attribute o f pos'] a pos) (SS X cl (fu C (.fas Ks f d))):=by
 refine PS.imp (Ga ho ha hs) ?_;rintro D Y H ⟨J,Z,m,ff,m',r,l,e,k⟩;erw[iQ] at e;let⟨w,m1,e1,e⟩:=R.ah e;let⟨x,m2,e2,e⟩:=R.ah e;let⟨_,m3,e3,e⟩:=R.ah e;cases e;refine⟨J,Z,m,w,m1,r,l,e1,fun β1 H1 v1 x1 r1 q1=>?_⟩;refine⟨β1,Z,m1,x,m2,r1,l.mono r x1,e2,fun β2 H2 v2 x2 r2 q2=>?_⟩;unfold oR at e3;split at e3
 .ext n;split at e3
  .ext c fs e4;split at e3
   .ext hcf;cases e3;cases q2 with
    | ref hb=>
     let⟨dx,gs,z,t⟩:=r2.obj e4 hb;let⟨hcl,hna⟩:=hc hcf.1;let⟨x3,r3⟩:=r2.NC (c:=c) (dx:=dx) e4 hb (vK (f:=f) (q1.mono r1 x2) t);exact⟨_,_,dx,gs,rfl,z,hcl,hna,by rw[<-t.length];exact hcf.2,k _ _ ((x1.trans r1 x2).trans r2 x3) r3 _ (((l.mono r x1).mono r1 x2).mono r2 x3)⟩
   .cases e3
  .cases e3
 .cases e3
def EF(X:L2.Cx)(cl:Cl)(C:D.Cx)(c name:Str)(i:Nat):Prop:=∃(k:Nat) (fa:Addr) (fd:FuncData) (ps:List Str),eK k X.A/\yt X.K (aS X.K c)/\Meth X.K (aS X.K c) name fa/\Binds X.K fd ps []/\
 gX X.prog X.w X.K X.mg X.base xj k fa fd ps (yv X.K cl ps.length (C.call i))/\∀ws m w m',C.call i ws m=.ok w m'->ws.length=ps.length
theorem KJ{name:Str}{apos:Pos}(hM:∀{c name i},C.cs.mths.lookup (c,name)=some i->EF X cl C c name i)(ho:PE X o (SE X cl (ao C d)))(ha:PA X es (SA X cl (bQ C ds)))
  (hbase:attributeBase o name X.env (eval o X.env)=eval o X.env)
  (hfew:((backTo pos (starEach es X.env)).all (λ x=>!x.1)&&(backToKw pos (keywordEach [] X.env)).all (λ x=>x.1.isSome)
   && decide (es.length+([]:List Keyword).length+(if ([]:List Keyword).isEmpty then 0 else 1) < 30))=true)
  (hline:(apos.endLine==pos.line)=true) (hs:(es=[]/\ds=.nil)\/∃a r,es=a::r/\starEach (a::r) X.env=(false,eval a X.env)::starEach r X.env/\(backTo pos (starEach r X.env)).any (·.1)=false) :
  PE X (.Call (.Attribute o name apos) es [] pos) (SE X cl (ao C (.mth d name ds))):=by
 rintro aa s Y H Q I ⟨J,Z,m,w,m',r,l,e,k⟩;erw[gw] at e;let⟨x,m1,e1,e⟩:=R.ah e;split at e
 .ext i e2;let⟨ws,m2,e3,e⟩:=R.ah e;refine lC hbase hfew hline (bY (ho aa s Y H (λ v H1=>∃β1,Ext J H β1 H1/\Rel X.K cl β1 m1 H1/\RW X.K β1 H1 x v) I ⟨J,Z,m,x,m1,r,l,e1,fun β1 H1 v1 x1 r1 q1=>⟨β1,x1,r1,q1⟩⟩) λ u s1 ⟨v,H1,I1,rv,β1,x1,r1,q1⟩ pl=>?_);unfold ji at e2;split at e2
  .ext c fs e4;split at e2
   .ext hno;let⟨a',dx,gs,rfl,hr,t⟩:=r1.ins q1 e4;obtain rfl:u=Value.ref a':=rv;let⟨mA,O,ro⟩:=Ai I1 hr;have hn:mA name=none:=iF.none_of (by rw[<-t.lookup.2 (by simpa using hno)];exact ro name);let⟨kk,fa,fd,ps,hroom,hcl,hmt,hbd,hF,EG⟩:=hM e2;refine yQ I1.tN O (hcl.get name) hmt.at_ hmt.fn hn ?_;have t6:∀vs β2 H2,Ext β1 H1 β2 H2->Rel X.K cl β2 m2 H2->aW X.K β2 H2 ws vs->yv X.K cl ps.length (C.call i) ((.ref a'::vs)++[]) H2 Q E0:=λ vs β2 H2 x2 r2 q2=>by
     rw[append_nil];have hq:aW X.K β2 H2 (x::ws) (.ref a'::vs):=.cons (q1.mono r1 x2) q2;exact⟨by rw[<-hq.length];exact EG _ _ _ _ e,β2,m2,x::ws,w,m',r2,hq,e,fun β3 H3 v3 x3 r3 q3=>k _ _ _ ((x1.trans r1 x2).trans r2 x3) r3 q3⟩
    rcases hs with⟨rfl,rfl⟩ | ⟨a,rr,rfl,hst,hpl⟩
    .erw[fY] at e3;cases e3;exact PySem.W.callWith_K0 (first:=[.ref a']) I1.tN hmt.kp (pK (us:=[.ref a']) (vs:=[.ref a']) hF hroom hbd .nil rM I1 %[|rfl] (t6 [] β1 H1 Ext.refl r1 .nil))
    .refine PySem.W.callWith_K (first:=[.ref a']) (h₀:=X.base) I.ok.mod.kin hmt.kp (bY (ha pos aa s1 Y H1 (λ vs H2=>∃β2,Ext β1 H1 β2 H2/\Rel X.K cl β2 m2 H2/\aW X.K β2 H2 ws vs) I1 ⟨β1,Z,m1,ws,m2,r1,l.mono r x1,e3,fun β2 H2 v2 x2 r2 q2=>⟨β2,x2,r2,q2⟩⟩) λ us s2 ⟨vs,H2,I2,rr2,β2,x2,r2,q2⟩=>⟨I2.tN,?_⟩) hst hpl;exact pK (us:=.ref a'::us) (vs:=.ref a'::vs) hF hroom hbd .nil rM I2 (.cons rfl rr2) (t6 vs β2 H2 x2 r2 q2)
   .cases e2
  .cases e2
 .cases e
def EH(X:L2.Cx)(cl:Cl)(C:D.Cx)(c:Str)(i:Nat):Prop:=∃(k:Nat) (fa:Addr) (fd:FuncData) (ps:List Str),eK (k+1) X.A/\Mk X.K (aS X.K c) fa/\X.mg c=some (.ref (aS X.K c))/\Binds X.K fd ps []/\
 gX X.prog X.w X.K X.mg X.base xj k fa fd ps (yv X.K cl ps.length (C.call i))/\∀ws m w m',C.call i ws m=.ok w m'->ws.length=ps.length
theorem HC{a:Expr}(hi:C.cs.ini.lookup c=some i)(hI:EH X cl C c i)(hg:Gl X c)(ha:PA X (a::es) (SA X cl (bQ C ds)))
  (hdb:(c==("__debug__":Str))=false) (he:starEach (a::es) X.env=(false,eval a X.env)::starEach es X.env) (hpl:(backTo pos (starEach es X.env)).any (·.1)=false) :
  PE X (.Call (.Name c p) (a::es) [] pos) (SE X cl (ao C (.make c ds))):=by
 let⟨k,fa,fd,ps,hroom,hmk,hmg,hbd,hF,EG⟩:=hI;refine PE.imp (B6 hmk hF hroom hg hmg hbd .nil rM ha hdb he hpl) ?_;rintro Y H Q ⟨J,Z,m,w,m',r,l,e,k⟩;erw[bS] at e;let⟨ws,m1,e1,e⟩:=R.ah e;refine⟨J,Z,m,ws,m1,r,l,e1,fun β1 H1 v1 x1 r1 q1 x dx hx hdx hne=>?_⟩;erw[p9,hi] at e;let⟨w2,m2,e2,e⟩:=R.ah e;split at e
 .cases e;let⟨x2,r2⟩:=r1.CM hdx (.own x);have O5:upd H1 dx (.own x) x=none:=by rw[aq hne.symm];exact hx
  let⟨x3,r3⟩:=r2.GK (ho:=.ins (aS X.K c) dx []) (o:=.ins c []) O5 λ _=>⟨dx,[],aJ,.nil⟩;have hq:aW X.K (β1++[x]) _ (.ref m1.length::ws) (.ref x::v1):=.cons (.ref (r1.last x)) ((q1.mono r1 x2).mono r2 x3);refine⟨?_,β1++[x],m1++[.ins c []],.ref m1.length::ws,.non,m',r3,by rw[append_nil];exact hq,e2,fun β4 H4 v4 x4 r4 q4=>?_⟩
  .rw[append_nil,<-hq.length];exact EG _ _ _ _ e2
  .cases q4;refine⟨rfl,k _ _ _ (((x1.trans r1 x2).trans r2 x3).trans r3 x4) r4 (.ref (x4.get (r1.last x)))⟩
 .cases e
theorem C8{k f:Nat}{fa:Addr}{fd:FuncData}{ps:List Str}{x:Str}(F:gX X.prog X.w X.K X.mg X.base xj k fa fd ps (yv X.K cl ps.length (C.call f)))(hr:eK k X.A)(hg:Gl X x)(hm:X.mg x=@(.ref fa))(hk:PySem.W.keepIn X.K (.ref fa)=true)(hb:Binds X.K fd ps [])
  (hl:ps.length=0) (hdb:(x==("__debug__":Str))=false):PE X (.Call (.Name x p) [] [] pos) (SE X cl (ao C (.call f .nil))):=by
 refine PE.imp (yS F hr hg hm hk hb .nil rM hdb) ?_;rintro Y H Q ⟨J,Z,m,w,m',r,l,e,k⟩;erw[dg,fY,R.bind] at e;exact⟨by rw[hl];rfl,J,m,[],w,m',r,.nil,e,fun β2 H2 v2 x2 r2 q2=>k _ _ _ x2 r2 q2⟩
end
section
variable{X:L2.Cx}{cl:Cl}{C:D.Cx}{pos:Pos}
theorem vL{f:Value}{r1 r2:List V->Hp->VK->Prop}(h1:bB X f r1)(h2:bB X f r2):bB X f (λ xs H Q=>r1 xs H Q\/r2 xs H Q):=λ aa s Y H xs us Q I r h=>
 h.elim (h1 aa s Y H xs us Q I r) (h2 aa s Y H xs us Q I r)
theorem HD{a:Expr}{p2 pos2:Pos}(hh:X.A.handled=none)(hu:X.A.units+64 < cLine)(hg:Gl X "len")(hm:X.mg "len"=none)(G1:Gl X "set")(hm2:X.mg "set"=none)(ha:PE X a (SE X cl (ao C d)))(he:starEach [a] X.env=[(false,eval a X.env)]) :
  PE X (.Call (.Name "len" p) [.Call (.Name "set" p2) [a] [] pos2] [] pos) (SE X cl (ao C (.fus .pV d))):=by
 refine PE.imp (rG (vL xQ nV) hg hm 'k' (ee (iZ (vL (xP hh hu) (xo hh)) G1 hm2 'k' (ee ha gJ he) 'k' 'k' he rfl) gJ) 'k' 'k' rfl rfl) ?_;rintro Y H Q ⟨J,Z,m,w,m',r,l,e,k⟩;erw[cW] at e;let⟨x,m1,e1,e⟩:=R.ah e;erw[oO] at e;split at e
 .ext xs;unfold zD at e;split at e
  .ext ns e2;split at e
   .ext hz;cases e;refine⟨J,Z,m,_,_,r,l,e1,fun β1 H1 v1 x1 r1 q1=>?_⟩;cases q1 with
    | tup hs t=>
     refine .inr ⟨_,ns,rfl,by rw[<-t.cU e2];exact hs,hz,λ p S hp=>?_⟩;let⟨x2,r2⟩:=r1.CM hp (.set S (L2.unlike ns));exact .inr ⟨p,S,_,rfl,aJ,k _ _ _ (x1.trans r1 x2) r2 (.int _)⟩
   .cases e
  .cases e
 unfold xF at e;split at e
 .cases e
 .ext ys e2;split at e
  .cases e
  .ext bA e3;erw[uy] at e;split at e
   .ext hz;cases e;refine⟨J,Z,m,x,_,r,l,e1,fun β1 H1 v1 x1 r1 q1=>?_⟩;let⟨a,vs,rfl,hs,t⟩:=r1.getL q1 e2;refine .inl ⟨a,vs,bA,rfl,hs,t.tups e3,hz.1,λ t ht=>Qx.mp hz.2.1 t ht,hz.2.2,λ p hp=>?_⟩;let⟨x2,r2⟩:=r1.CM hp (mQ p bA.length);exact .inl ⟨p,bA.length,rfl,aJ,hz.1,k _ _ _ (x1.trans r1 x2) r2 (.int _)⟩
   .cases e
theorem HE{a:Expr}{kpos cpos:Pos}{j:Nat}(hh:X.A.handled=none)(hu:X.A.units+64 < cLine)(hg:Gl X "min")(hm:X.mg "min"=none)(ha:PE X a (SE X cl (ao C d)))(he:starEach [a] X.env=[(false,eval a X.env)]) :
  PE X (.Call (.Name "min" p) [a] [⟨some "default",.Constant .none j cpos,kpos⟩] pos) (SE X cl (ao C (.fus .mind d))):=by
 refine PE.imp (CK hh hu hg hm ha he) ?_;rintro Y H Q ⟨J,Z,m,w,m',r,l,e,k⟩;erw[cW] at e;let⟨x,m1,e1,e⟩:=R.ah e;erw[oO,xF] at e;split at e
 .cases e
 .ext ys e2;split at e
  .cases e
  .ext bA e3;erw[uz] at e;split at e
   .ext hz;cases e;refine⟨J,Z,m,x,_,r,l,e1,fun β1 H1 v1 x1 r1 q1=>?_⟩;let⟨a,vs,rfl,hs,t⟩:=r1.getL q1 e2;refine⟨a,vs,bA,rfl,hs,t.tups e3,λ n0 h0 ns hn=>?_,?_⟩
    .have:=Qx.mp hz ns hn;rw[show bA.headD []=n0 by cases bA with | nil=>cases h0 | cons a r=>cases h0;rfl] at this;simpa using this
    .cases t with
     | nil=>exact k _ _ _ x1 r1 .non
     | cons q t=>exact k _ _ _ x1 r1 q
   .cases e
end
def TopK(K:PySem.W.Frag)(w:World)(mg:Str->Option Value)(x:Str)(kvs:List (Str×W)):Prop:=∃a gs,mg x=some (.ref a)/\TopD K w a gs/\∀J H,iE K J H kvs gs
set_option genInjectivity false in
structure Ci where
 N:List Str
 names:List (Str×NameKind)
 fns:List (Str×(Nat×Nat))
 gl:List (Str×W)
 cs:Cs
 fz:List Pos
def ql(x:Str):List Str->Option Nat
 | []=>none
 | y::r=>if y=x then some 0 else (ql x r).map (·+1)
theorem sJ{x:Str}:∀{N:List Str} {i:Nat},ql x N=some i->N[i]?=some x
 | [],_,h=>by cases h
 | y::r,i,h=>by
  unfold ql at h;split at h
  .ext e;cases h;simp[e]
  .erw[Qe] at h;let⟨j,h1,rfl⟩:=h;simpa using sJ h1
def uI:List (Str×B):=[("len",.len),("abs",.abs),("max",.max),("min",.min),("divmod",.divmod),("all",.all)
 ,("any",.any)
 ,("list",.list),("tuple",.tuple),("int",.int),("sorted",.sorted),("repr",.repr)
 ]
def qm:List Str:=["len","abs","max","min","divmod","all","any","list","tuple","int","bool","str","dict","isinstance","range","enumerate","zip","sorted","set","repr","sum"]
def Ak:List (Str×(String×String)):=[("append",("append","list.append"))
 ,("pop",("pop","list.pop"))
 ,("index",("lindex","list.index"))
 ,("add",("add","set.add"))
 ]
def noStar:Expr->Bool
 | .Starred ..=>false
 | _=>true
def isSlice:Expr->Bool
 | .Slice ..=>true
 | _=>false
def isSet:Expr->Bool
 | .Set ..=>true
 | _=>false
def qp:Expr->Bool
 | .ListComp ..=>true
 | .SetComp ..=>true
 | .DictComp ..=>true
 | _=>false
def i9:Expr->Bool
 | .Call (.Name _ _) [] [] _=>true
 | _=>false
def C9:Expr->Bool
 | .Call ..=>true
 | .ListComp ..=>true
 | .List ..=>true
 | .BinOp ..=>true
 | .Subscript ..=>true
 | _=>false
def wz(c:Ci)(e:Expr)(d:E):E:=if C9 e&&c.fz.contains e.pos then .frz d else d
def vM:Expr->Bool
 | .Name ..=>true
 | _=>false
def qq:Expr->Bool
 | .Tuple ..=>true
 | .List ..=>true
 | _=>false
def isIt:E->Bool
 | .rng _=>true
 | .rng2 _ _=>true
 | .enm _=>true
 | .zip _=>true
 | _=>false
def special(x:Str):Bool:=x=="__debug__"||x=="__classdict__"||x=="__name__"
def qR(f:Expr->Option E):List Expr->Option Es
 | []=>some .nil
 | e::es=>if noStar e then match f e with
  | none=>none
  | some d=>match qR f es with
   | none=>none
   | some ds=>some (.cons d ds) else none
def LP(f:Expr->Option E)(op:BoolOp):List Expr->Option E
 | []=>none
 | [e]=>f e
 | e::r=>match f e with
  | none=>none
  | some d=>match LP f op r with
   | none=>none
   | some ds=>match op with
    | .And=>some (.and d ds)
    | .Or=>some (.or d ds)
def cO(f:Expr->Option E):Option Expr->Option Oe
 | none=>some .none
 | some e=>(f e).map .some
def Al(c:Ci)(x:Str):Option E:=if special x then none else match c.names.lookup x with
 | some .local=>(ql x c.N).map .var
 | some .cell=>(ql x c.N).map .var
 | some .free=>(ql x c.N).map .var
 | some .globalImplicit=>(c.gl.lookup x).map .cst
 | _=>none
def oY(c:Ci)(x:Str):Option Nat:=match c.names.lookup x with
 | some .local=>ql x c.N
 | some .cell=>ql x c.N
 | _=>none
def LQ(f:Expr->Option T):List Expr->Option Ts
 | []=>some .nil
 | e::es=>if noStar e then match f e with
  | none=>none
  | some d=>match LQ f es with
   | none=>none
   | some ds=>some (.cons d ds) else none
def cT:Nat->Ci->Expr->Option T
 | 0,_,_=>none
 | n+1,c,e=>match e with
  | .Name x _=>(oY c x).map .var
  | .Tuple es _ _=>(LQ (cT n c) es).map .tup
  | _=>none
def cI(f:Expr->Option E)(c:Ci)(tg e:Expr):Option E:=match e with
 | .Call (.Name x _) args kws _=>if kws.isEmpty&&c.names.lookup x==some .globalImplicit&&(c.fns.lookup x).isNone&&!special x then
   if x="range" then match args with
    | [a]=>if noStar a then (f a).map .rng else none
    | [a,b]=>if noStar a&&noStar b then match f a,f b with
     | some d,some d'=>some (.rng2 d d')
     | _,_=>none else none
    | _=>none
   else if x="enumerate" then match tg,args with
    | .Tuple _ _ _,[a]=>if noStar a then (f a).map .enm else none
    | _,_=>none
   else if x="zip" then match tg,args with
    | .Tuple _ _ _,a::r=>if r.length=1 then (qR f (a::r)).map .zip else none
    | _,_=>none
   else match f e with
    | some d=>if isIt d then none else some d
    | none=>none
  else match f e with
   | some d=>if isIt d then none else some d
   | none=>none
 | e=>match f e with
  | some d=>if isIt d then none else some d
  | none=>none
def Am(f:Expr->Option E):List Expr->Option Es
 | []=>some .nil
 | [e]=>(f e).map λ d=>.cons d .nil
 | _=>none
def EI(f:Expr->Option E)(n:Nat)(c:Ci)(elt:Expr):List Comprehension->Option G
 | []=>(f elt).map .elt
 | ⟨tg,it,ifs,as⟩::gs=>if as=0/\isSet it=false then match cT n c tg,cI f c tg it,Am f ifs,EI f n c elt gs with
  | some t,some d,some ds,some g=>some (.gen t [] d ds g)
  | _,_,_,_=>none else none
def sL(N:List Str)(names:List (Str×NameKind)):List Nat:=(N.zipIdx.filter λ p=>names.lookup p.1==some .local||names.lookup p.1==some .cell).map (·.2)
def uJ(N:List Str)(scope:Scope)(onames:List (Str×NameKind)):Bool:=
 decide (scope.kind=.function)&&scope.names.all λ y=>(decide (y.2≠.cell)||decide (scope.names.lookup y.1=some .cell))&&(decide (y.2≠.local)||decide (scope.names.lookup y.1=some .local))&&(decide (y.2≠.free)||decide (onames.lookup y.1=some .cell)||decide (onames.lookup y.1=some .free))
def uK(x:Str)(args:List Expr):Option Expr:=if x="list" then match args with
  | [.Call (.Name y _) [a] [] _]=>if y="range" then some a else none
  | _=>none else none
def uL(x:Str)(args:List Expr):Option Expr:=if x="len" then match args with
  | [.Call (.Name y _) [a] [] _]=>if y="set" then some a else none
  | _=>none else none
def uM(f:Expr)(args:List Expr)(kws:List Keyword):Option Expr:=match f,args,kws with
 | .Name x _,[a],[⟨some k,.Constant .none _ _,_⟩]=>if x="min"/\k="default" then some a else none
 | _,_,_=>none
def cE:Nat->Ci->Expr->Option E
 | 0,_,_=>none
 | n+1,c,e=>Option.map (wz c e) <| match e with
  | .Name x _=>Al c x
  | .Constant k _ _=>match k with
   | .int i=>some (.cst (.int i))
   | .bool b=>some (.cst (.bl b))
   | .none=>some (.cst .non)
   | .str x=>some (.cst (.str x))
   | _=>none
  | .BinOp a op b _=>match cE n c a,cE n c b with
   | some d,some d'=>some (.bin op d d')
   | _,_=>none
  | .UnaryOp op a _=>match op with
   | .Not=>(cE n c a).map .not
   | _=>none
  | .BoolOp op vs _=>LP (cE n c) op vs
  | .Compare a ops bs _=>match ops,bs with
   | [op],[b]=>if behindInMarks op b then none else
    match cE n c a,cE n c b with
     | some d,some d'=>some (.cmp op d d')
     | _,_=>none
   | [o1,o2],[b,b']=>if lastMarks [o1,o2] [b,b'] then none else match cE n c a,cE n c b,cE n c b' with
    | some d,some d',some d''=>some (.chain o1 o2 d d' d'')
    | _,_,_=>none
   | _,_=>none
  | .IfExp t a b _=>match cE n c t,cE n c a,cE n c b with
   | some d,some d',some d''=>some (.ife d d' d'')
   | _,_,_=>none
  | .Tuple es _ _=>(qR (cE n c) es).map .tup
  | .List es _=>(qR (cE n c) es).map .lst
  | .Subscript a s _=>match s with
   | .Slice lo hi st _=>match st with
    | none=>match cE n c a,cO (cE n c) lo,cO (cE n c) hi with
     | some d,some l,some h=>some (.slc d l h)
     | _,_,_=>none
    | some _=>none
   | s=>if isSlice s then none else
    match cE n c a,cE n c s with
     | some d,some d'=>some (.idx d d')
     | _,_=>none
  | .Call f args kws pos=>if kws.isEmpty then match f with
    | .Name x _=>if special x then none else if c.names.lookup x=some .globalImplicit then match c.fns.lookup x with
      | some (i,np)=>match args with
       | []=>if np=0 then some (.call i .nil) else none
       | a::r=>if args.length=np then (qR (cE n c) (a::r)).map (.call i) else none
      | none=>match c.cs.ini.lookup x with
       | some _=>match args with
        | []=>none
        | a::r=>(qR (cE n c) (a::r)).map (.make x)
       | none=>if x="set" then match args with
        | []=>some .set0
        | _=>none
       else
       match uL x args with
       | some a=>if noStar a&&c.names.lookup ("set":Str)==some .globalImplicit&&(c.fns.lookup ("set":Str)).isNone then (cE n c a).map (.fus .pV) else none
       | none=>
       match uK x args with
       | some a=>if noStar a&&c.names.lookup ("range":Str)==some .globalImplicit&&(c.fns.lookup ("range":Str)).isNone then (cE n c a).map .lrng else none
       | none=>
       match uI.lookup x with
       | some b=>match args with
        | []=>none
        | a::r=>(qR (cE n c) (a::r)).map (.blt b)
       | none=>none
     else none
    | .Attribute o m apos=>if i9 o then none else if (apos.endLine==pos.line) then match Ak.lookup m,cE n c o with
      | some (nm,_),some d=>if args.length < 20 then (qR (cE n c) args).map (.meth d nm) else none
      | none,some d=>if args.length < 20 then (qR (cE n c) args).map (.mth d m) else none
      | _,_=>none
     else none
    | _=>none
   else match uM f args kws with
    | some a=>if noStar a&&c.names.lookup ("min":Str)==some .globalImplicit&&(c.fns.lookup ("min":Str)).isNone then (cE n c a).map (.fus .mind) else none
    | none=>none
  | .Attribute o f _=>if i9 o then none else (cE n c o).map λ d=>.fld d f
  | .ListComp elt gens scope _=>match gens with
   | []=>none
   | ⟨tg,it,ifs,as⟩::gs=>
    let c':Ci:={c with names:=scope.names}
    if as=0/\isSet it=false/\uJ c.N scope c.names=true then match cT n c' tg,cI (cE n c) c tg it,Am (cE n c') ifs,EI (cE n c') n c' elt gs with
     | some t,some d,some ds,some g=>some (.comp (.gen t (sL c.N scope.names) d ds g))
     | _,_,_,_=>none
    else none
  | _=>none
def LR(f:Expr->Option A):List Expr->Option As
 | []=>some .nil
 | e::es=>if noStar e then match f e with
  | none=>none
  | some d=>match LR f es with
   | none=>none
   | some ds=>some (.cons d ds) else none
def cA:Nat->Ci->Expr->Option A
 | 0,_,_=>none
 | n+1,c,e=>match e with
  | .Name x _=>(oY c x).map λ i=>.pt (.var i)
  | .Tuple es _ _=>(LR (cA n c) es).map .tup
  | .Subscript o i _=>if isSlice i then none else match cE n c o,cE n c i with
   | some d,some d'=>some (.sub d d')
   | _,_=>none
  | _=>none
def Dc(f:Stmt->Option S):List Stmt->Option Ss
 | []=>some .nil
 | s::r=>match f s with
  | none=>none
  | some d=>match Dc f r with
   | none=>none
   | some ds=>some (.cons d ds)
def HF(n:Nat)(c:Ci)(tg v:Expr):Option S:=if (qq tg&&qq v)||vM tg||!noStar tg then none else match cA n c tg,cE n c v with
 | some t,some d=>some (.asg t d)
 | _,_=>none
def HG(n:Nat)(c:Ci)(tg v:Expr):Option S:=match tg with
 | .Name x _=>match oY c x,cE n c v with
  | some i,some d=>some (.asg (.pt (.var i)) d)
  | _,_=>none
 | .Attribute o f _=>match cE n c o,cE n c v with
  | some d,some d'=>some (.fas d f d')
  | _,_=>none
 | tg=>
  HF n c tg v
def cS:Nat->Ci->Stmt->Option S
 | 0,_,_=>none
 | n+1,c,s=>match s with
  | .Assign ts v _=>match ts with
   | [t]=>HG n c t v
   | _=>none
  | .Expr v _=>if qp v then none else (cE n c v).map .expr
  | .Return o _=>match o with
   | some v=>(cE n c v).map .ret
   | none=>some .retN
  | .If t a b _=>match cE n c t,Dc (cS n c) a,Dc (cS n c) b with
   | some d,some x,some y=>some (.ife d x y)
   | _,_,_=>none
  | .For tg it body els _=>match els with
   | []=>if isSet it then none else match cT n c tg,cI (cE n c) c tg it,Dc (cS n c) body with
    | some t,some d,some x=>some (.for_ t d x)
    | _,_,_=>none
   | _=>none
  | .Pass _=>some .pass
  | .Break _=>some .brk
  | .Continue _=>some .cont
  | .Raise _ _ _=>some .never
  | _=>none
structure Ok(X:L2.Cx)(cl:Cl)(C:D.Cx)(c:Ci):Prop where
 N:X.N=c.N
 nd:c.N.Nodup
 vis:∀{x:Str} {k:NameKind},c.names.lookup x=some k->(k=.local\/k=.cell\/k=.free)->Lx X.env.scope x
 loc:∀{x:Str} {k:NameKind},c.names.lookup x=some k->(k=.local\/k=.cell)->L2.Loc X.env.scope x/\(X.fn x=true\/X.env.scope.names.lookup x=some .local)
 cel:∀{x:Str},(c.names.lookup x=some .cell\/c.names.lookup x=some .free)->X.env.scope.names.lookup x=some .cell\/X.env.scope.names.lookup x=some .free
 glb:∀{x:Str},c.names.lookup x=some .globalImplicit->Gl X x
 calm:X.calm=true
 units:UN X cl
 hand:X.A.handled=none
 blt:∀x∈qm,X.mg x=none
 fn:∀{x:Str} {i np:Nat},c.fns.lookup x=some (i,np)->∃(k:Nat) (fa:Addr) (fd:FuncData) (ps:List Str),ps.length=np/\eK k X.A/\X.mg x=some (.ref fa)/\PySem.W.keepIn X.K (.ref fa)=true/\Binds X.K fd ps []/\gX X.prog X.w X.K X.mg X.base xj k fa fd ps (yv X.K cl ps.length (C.call i))
 gl:∀{x:Str} {w:W},c.gl.lookup x=some w->∃u v,X.mg x=some u/\RelV v u/\∀J H,RW X.K J H w v
 cs:c.cs=C.cs
 fld:∀{d f:Str},C.cs.flds.contains (d,f)=true->yt X.K (aS X.K d)/\iJ X.K (aS X.K d) f
 mth:∀{d f:Str} {i:Nat},C.cs.mths.lookup (d,f)=some i->EF X cl C d f i
 ini:∀{d:Str} {i:Nat},C.cs.ini.lookup d=some i->EH X cl C d i
 dic:∀{x:Str} {kvs:List (Str×W)},C.cs.dic.lookup x=some kvs->TopK X.K X.w X.mg x kvs
 isc:∀{x:Str},C.cs.isc.contains x=true->X.mg x=some (.ref (aS X.K x))/\GU X.K (aS X.K x)
section
variable{env:Env}
theorem bF(h:noStar e=true):starEach (e::es) env=(false,eval e env)::starEach es env:=by
 cases e<;>first | rfl | cases h
theorem fT:∀{es:List Expr} {ds:Es},qR f es=some ds->(backTo pos (starEach es env)).any (·.1)=false
 | [],_,_=>rfl
 | e::es,ds,h=>by
  unfold qR at h;split at h
  .ext hs;split at h
   .cases h
   .split at h
    .cases h
    .ext ds' h2;rw[bF hs];show ((false||(backTo pos (starEach es env)).any (·.1)))=false;rw[fT h2];rfl
  .cases h
theorem qt:∀{es:List Expr} {ds:Es},qR f es=some ds->(backTo pos (starEach es env)).all (λ x=>!x.1)=true
 | [],_,_=>rfl
 | e::es,ds,h=>by
  unfold qR at h;split at h
  .ext hs;split at h
   .cases h
   .split at h
    .cases h
    .ext ds' h2;rw[bF hs];show ((true&&(backTo pos (starEach es env)).all (λ x=>!x.1)))=true;rw[qt h2];rfl
  .cases h
theorem iU(h:qR f (e::es)=some ds):noStar e=true/\∃d ds',f e=some d/\qR f es=some ds'/\ds=.cons d ds':=by
 unfold qR at h;split at h
 .ext hs;split at h
  .cases h
  .ext d h1;split at h
   .cases h
   .ext ds' h2;cases h;exact⟨hs,d,ds',h1,h2,rfl⟩
 .cases h
theorem mY(h:noStar e=true):assignEach (e::es) env=(false,assign e env)::assignEach es env:=by
 cases e<;>first | rfl | cases h
theorem Dd(h:isSlice b=false):pP b:=by
 intro o i;cases b<;>first | rfl | cases h
theorem qu{m:Str}(h:i9 o=false):attributeBase o m env (eval o env)=eval o env:=by
 unfold attributeBase;split
 .cases h
 .rfl
theorem uN(h:isSet e=false)(x:Value):foldedSetIterable e env x=pure x:=by
 cases e<;>first | rfl | cases h
theorem vN{v:Expr}{t:Option Expr}{l:Nat}(h:qp v=false):swapsWith v t l env=pure false:=by
 cases v<;>first | rfl | cases h
def Es.len:Es->Nat
 | .nil=>0
 | .cons _ r=>r.len+1
theorem qw:∀{es:List Expr} {ds:Es},qR f es=some ds->ds.len=es.length
 | [],_,h=>by cases h;rfl
 | e::es,ds,h=>by
  let⟨_,d,ds',_,h2,rfl⟩:=iU h;show ds'.len+1=_;rw[qw h2];rfl
theorem mZ:∀{ds:Es} {Z:Loc} {m m':Mem} {ws:List W},bQ C ds Z m=.ok ws m'->ws.length=ds.len
 | .nil,_,_,_,_,h=>by erw[fY] at h;cases h;rfl
 | .cons d ds,_,_,_,_,h=>by
  erw[fY] at h;let⟨w,m1,h1,h⟩:=R.ah h;let⟨ws,m2,h2,h⟩:=R.ah h;cases h;rw[QB,mZ h2];rfl
end
theorem lookup_mem{J:Type}{x:Str}{b:J}:∀{l:List (Str×J)},l.lookup x=some b->(x,b)∈l:=λ {l} h=>Rg h
theorem xW{x:Str}{b:B}(h:uI.lookup x=some b):x∈qm/\((∃id,zR b=.builtin id/\bootBuiltins x=@(.builtin id))\/∃id,zR b=.type id/\bootBuiltins x=@(.type id)):=by
 have hm:=lookup_mem h;erw[uI,Rq,Prod.mk.injEq,RV,or_false] at hm;rcases hm with⟨rfl,rfl⟩ | ⟨rfl,rfl⟩ | ⟨rfl,rfl⟩ | ⟨rfl,rfl⟩ | ⟨rfl,rfl⟩ | ⟨rfl,rfl⟩ | ⟨rfl,rfl⟩ | ⟨rfl,rfl⟩ | ⟨rfl,rfl⟩ | ⟨rfl,rfl⟩ | ⟨rfl,rfl⟩
  | ⟨rfl,rfl⟩
 all_goals first
  | exact⟨by decide +kernel,.inl ⟨_,rfl,by decide +kernel⟩⟩
  | exact⟨by decide +kernel,.inr ⟨_,rfl,by decide +kernel⟩⟩
theorem An(hu:UN X cl){m:Str}{nm:String}(h:Ak.lookup m=some (nm,id)):PlainAttrs (Kn (p8 nm))/\Slot (Kn (p8 nm)) m id/\typeOf (.builtin id)=pure (.type "method_descriptor")/\Gh X id (SM X cl nm):=by
 have hm:=lookup_mem h;erw[Ak,Rq,Prod.mk.injEq,RV,or_false] at hm;rcases hm with⟨rfl,rfl,rfl⟩
  | ⟨rfl,rfl,rfl⟩
  | ⟨rfl,rfl,rfl⟩
  | ⟨rfl,rfl,rfl⟩
 .exact⟨PySem.F.plainAttrs_list,PySem.F.slot_list_append,PySem.F.type_list_append,xS⟩
 .exact⟨PySem.F.plainAttrs_list,PySem.F.slot_list_pop,PySem.F.type_list_pop,G2⟩
 .exact⟨PySem.F.plainAttrs_list,PySem.F.slot_list_index,PySem.F.type_list_index,xR⟩
 .exact⟨PySem.F.plainAttrs_set,PySem.F.slot_set_add,PySem.F.type_set_add,G3 hu⟩
theorem m8{x:Str}(h:special x=false):(x==("__debug__":Str))=false/\(x==("__classdict__":Str))=false/\x≠"__name__":=by
 unfold special at h;erw[Bool.or_eq_false_iff] at h;exact⟨h.1.1,h.1.2,by simpa using h.2⟩
section
variable{X:L2.Cx}{cl:Cl}{C:D.Cx}{c:Ci}
theorem Ok.slot(o:Ok X cl C c){x:Str}(h:ql x c.N=some i):X.N[i]?=some x:=by rw[o.N];exact sJ h
theorem De(o:Ok X cl C c){x:Str}(h:Al c x=some d):PE X (.Name x pos) (SE X cl (ao C d))/\∀Z m,bx C d Z m=(ao C d Z m).bind λ w m=>D.truthy m w:=by
 unfold Al at h;split at h
 .cases h
 .ext hs;let⟨h1,h2,h3⟩:=m8 (by simpa using hs);split at h
  .ext hk;erw[Qe] at h;let⟨i,hi,rfl⟩:=h;exact⟨zM (o.slot hi) (o.vis hk (.inl rfl)) h1 h2,λ _ _=>rfl⟩
  .ext hk;erw[Qe] at h;let⟨i,hi,rfl⟩:=h;exact⟨zM (o.slot hi) (o.vis hk (.inr (.inl rfl))) h1 h2,λ _ _=>rfl⟩
  .ext hk;erw[Qe] at h;let⟨i,hi,rfl⟩:=h;exact⟨zM (o.slot hi) (o.vis hk (.inr (.inr rfl))) h1 h2,λ _ _=>rfl⟩
  .ext hk;erw[Qe] at h;let⟨w,hw,rfl⟩:=h;exact⟨J1 (o.glb hk) (o.gl hw) h1,λ _ _=>rfl⟩
  .cases h
def Tells(X:L2.Cx)(cl:Cl)(C:D.Cx)(e:Expr)(d:E):Prop:=PE X e (SE X cl (ao C d))/\PT X e (ST X cl (bx C d))
theorem aI(h:PE X e (SE X cl (ao C d)))(he:∀whole,isTrue e X.env whole=(do let v <-whole;standAt e.pos;holding [v] (PySem.truthy v)))(hd:∀Z m,bx C d Z m=(ao C d Z m).bind λ w m=>D.truthy m w):Tells X cl C e d:=⟨h,Ep h he hd⟩
theorem Ao(h:Tells X cl C e d):Tells X cl C e (wz c e d):=by
 unfold wz;split
 .ext hc;erw[Qn] at hc;refine⟨EE h.1,Ep (EE h.1) ?_ λ _ _=>rfl⟩;have:=hc.1;cases e<;>first | (intro _;rfl) | cases this
 .exact h
theorem jl(ih:∀e d,f e=some d->Tells X cl C e d):∀{es:List Expr} {ds:Es},qR f es=some ds->PA X es (SA X cl (bQ C ds))
 | [],_,h=>by cases h;exact Ka
 | e::es,ds,h=>by
  let⟨hs,d,ds',h1,h2,rfl⟩:=iU h;exact GP (ih e d h1).1 (jl ih h2) (bF hs)
theorem KL(ih:∀e d,f e=some d->Tells X cl C e d){e:Option Expr}{d:Oe}(h:cO f e=some d):PO X e (JU X cl (zK C d)):=by
 cases e with
 | none=>cases h;exact GQ
 | some e=>
  erw[cO,Qe] at h;let⟨d',h1,rfl⟩:=h;exact GR (ih e d' h1).1
theorem EJ{f:Expr->Option E}(ih:∀e d,f e=some d->Tells X cl C e d){op:BoolOp}{pos:Pos}:∀{es:List Expr} {d:E},LP f op es=some d->PE X (.BoolOp op es pos) (SE X cl (ao C d))/\PW X (.BoolOp op es pos) (ST X cl (bx C d))
 | [],_,h=>by cases h
 | [e],d,h=>by
  have q:=ih e d h;cases op with
  | And=>exact⟨yF q.1,BI q.2⟩
  | Or=>exact⟨yF q.1,Fo q.2⟩
 | e::e'::r,d,h=>by
  unfold LP at h;split at h
  .cases h
  .ext d1 h1;split at h
   .cases h
   .ext d2 h2;let⟨q1,q2⟩:=EJ (pos:=pos) ih h2;let⟨p1,p2⟩:=ih e d1 h1;cases op with
    | And=>cases h;exact⟨J7 p1 q1,w_and p2 q2⟩
    | Or=>cases h;exact⟨Nl p1 q1,w_or p2 q2⟩
theorem Df{a c':Expr}{db dc:E}{o1 o2:CmpOp}(hu:UN X cl)(ha:PE X a (SE X cl (ao C da)))(hb:PE X b (SE X cl (ao C db)))(hc:PE X c' (SE X cl (ao C dc)))(hm:lastMarks [o1,o2] [b,c']=false) :
  PT X (.Compare a [o1,o2] [b,c'] pos) (ST X cl (bx C (.chain o1 o2 da db dc))):=by
 refine PT.imp (yN (ki (cl:=cl) hu o1) (ki (cl:=cl) hu o2) ha hb hc hm) ?_;rintro Y H Q ⟨J,Z,m,w,m',r,l,e,k⟩;erw[bE] at e;let⟨x,m1,e1,e⟩:=R.ah e;let⟨y,m2,e2,e⟩:=R.ah e;let⟨z,m3,e3,e⟩:=R.ah e;refine⟨J,Z,m,x,m1,r,l,e1,fun β1 H1 v1 x1 r1 q1=>?_⟩;refine⟨β1,Z,m1,y,m2,r1,l.mono r x1,e2,fun β2 H2 v2 x2 r2 q2=>?_⟩;have l2:=(l.mono r x1).mono r1 x2;refine⟨β2,m2,x,y,.bl z,m3,r2,q1.mono r1 x2,q2,by dsimp only;rw[e3];rfl,fun β3 H3 v3 x3 r3 q3=>?_⟩;cases q3;refine⟨z,rfl,?_⟩;have J9:=(x1.trans r1 x2).trans r2 x3;split at e
 .ext hc;rw[Qs hc];let⟨u,m4,e4,e⟩:=R.ah e;refine⟨β3,Z,m3,u,m4,r3,l2.mono r2 x3,e4,fun β4 H4 v4 x4 r4 q4=>?_⟩;refine⟨β4,m4,y,u,.bl w,m',r4,(q2.mono r2 x3).mono r3 x4,q4,by dsimp only;rw[e];rfl,fun β5 H5 v5 x5 r5 q5=>?_⟩;cases q5;exact⟨_,rfl,k _ _ ((J9.trans r3 x4).trans r4 x5) r5⟩
 .ext hc;rw[Qz hc];cases e;exact⟨_,rfl,k _ _ J9 r3⟩
theorem KN{t a:Expr}{dt db:E}(ht:PT X t (ST X cl (bx C dt)))(ha:PT X a (ST X cl (bx C da)))(hb:PT X b (ST X cl (bx C db))):PT X (.IfExp t a b pos) (ST X cl (bx C (.ife dt da db))):=by
 intro aa s Y H Q I h;let⟨J,Z,m,w,m',r,l,e,k⟩:=h;erw[eV] at e;let⟨x,m1,e1,e⟩:=R.ah e;show wpAny _ _ (isTrue t X.env (eval t X.env) >>= λ z=>if z=true then isTrue a X.env (eval a X.env) else isTrue b X.env (eval b X.env)) _ _ s;refine Qa (bY (ht aa s Y H (λ c H1=>c=x/\∃β1,Ext J H β1 H1/\Rel X.K cl β1 m1 H1) I ⟨J,Z,m,x,m1,r,l,e1,fun β1 H1 x1 r1=>⟨rfl,β1,x1,r1⟩⟩) λ c s1 ⟨H1,I1,hc,β1,x1,r1⟩=>?_);subst hc;cases c with
 | true=>exact ha aa s1 Y H1 Q I1 ⟨β1,Z,m1,w,m',r1,l.mono r x1,e,fun β2 H2 x2 r2=>k _ _ (x1.trans r1 x2) r2⟩
 | false=>exact hb aa s1 Y H1 Q I1 ⟨β1,Z,m1,w,m',r1,l.mono r x1,e,fun β2 H2 x2 r2=>k _ _ (x1.trans r1 x2) r2⟩
end
section
variable{X:L2.Cx}{cl:Cl}{C:D.Cx}{c:Ci}
theorem jO(o:Ok X cl C c){x:Str}(h:oY c x=some i):X.N[i]?=some x/\L2.Loc X.env.scope x/\(X.fn x=true\/X.env.scope.names.lookup x=some .local):=by
 unfold oY at h;split at h
 .ext hk;exact⟨o.slot h,o.loc hk (.inl rfl)⟩
 .ext hk;exact⟨o.slot h,o.loc hk (.inr rfl)⟩
 .cases h
theorem KO(o:Ok X cl C c):X.N.Nodup:=by rw[o.N];exact o.nd
theorem EK{f:Expr->Option T}(ih:∀e t,f e=some t->PG X e (SG X cl (gU C (.pt t)))):∀{es:List Expr} {ts:Ts},LQ f es=some ts->
  tL X es (IT X cl (eO C (T.uC ts)))/\(assignEach es X.env).length=(T.uC ts).len/\(assignEach es X.env).findIdx? (·.1)=none
 | [],_,h=>by cases h;exact⟨z5,rfl,rfl⟩
 | e::es,ts,h=>by
  unfold LQ at h;split at h
  .ext hs;split at h
   .cases h
   .ext d h1;split at h
    .cases h
    .ext ds h2;cases h;let⟨q1,q2,q3⟩:=EK ih h2;have e1:=mY (env:=X.env) (es:=es) hs;refine⟨vC (ih e d h1) q1 (by rw[e1];rfl),?_,?_⟩
     .rw[e1,QB,q2];rfl
     .rw[e1,findIdx?_cons];simp[q3]
  .cases h
theorem vO(o:Ok X cl C c):∀(n:Nat) (e:Expr) (t:T),cT n c e=some t->PG X e (SG X cl (gU C (.pt t)))
 | 0,_,_,h=>by cases h
 | n+1,e,t,h=>by
  unfold cT at h;split at h
  .erw[Qe] at h;let⟨i,hi,rfl⟩:=h;let⟨h1,h2,h3⟩:=jO o hi;exact Ew (KO o) h1 h2 h3
  .erw[Qe] at h;let⟨ts,hi,rfl⟩:=h;let⟨q1,q2,q3⟩:=EK (λ e t h=>vO o n e t h) hi;exact Hh (Ex o.calm q1 q2 q3)
  .cases h
theorem xX{x:Str}{a:Expr}(h:uL x args=some a):∃py p2,x="len"/\args=[.Call (.Name "set" py) [a] [] p2]:=by
 unfold uL at h;split at h
 .ext hx;split at h
  .split at h
   .ext hy;cases h;subst hx hy;exact⟨_,_,rfl,rfl⟩
   .cases h
  .cases h
 .cases h
theorem xY{f:Expr}{kws:List Keyword}{a:Expr}(h:uM f args kws=some a):∃p j cp kp,f=.Name "min" p/\args=[a]/\kws=[⟨some "default",.Constant .none j cp,kp⟩]:=by
 unfold uM at h;split at h
 .split at h
  .ext hx;cases h;let⟨rfl,rfl⟩:=hx;exact⟨_,_,_,_,rfl,rfl,rfl⟩
  .cases h
 .cases h
theorem xZ{x:Str}{a:Expr}(h:uK x args=some a):∃py p2,x="list"/\args=[.Call (.Name "range" py) [a] [] p2]:=by
 unfold uK at h;split at h
 .ext hx;split at h
  .split at h
   .ext hy;cases h;subst hx hy;exact⟨_,_,rfl,rfl⟩
   .cases h
  .cases h
 .cases h
theorem Aq(h:isIt d=false):∀Z m,cC C d Z m=(ao C d Z m).bind oS:=by
 intro Z m;cases d<;>first | (simp[isIt] at h;done) | rfl
theorem qA(ih:∀e d,f e=some d->Tells X cl C e d)(h:(match f e with | some d=>if isIt d=true then none else some d | none=>none)=some d):PI X tg e (SI X cl (cC C d)):=by
 split at h
 .ext d' h1;split at h
  .cases h
  .ext hi;cases h;exact Ko (ih _ _ h1).1 (Aq (by simpa using hi))
 .cases h
theorem Ar(o:Ok X cl C c)(ih:∀e d,f e=some d->Tells X cl C e d)(h:cI f c tg e=some d):PI X tg e (SI X cl (cC C d)):=by
 unfold cI at h;split at h
 .ext x p args kws pos;split at h
  .ext hk;erw[Qn,Ro,isEmpty_iff] at hk;let⟨⟨⟨hk1,hk2⟩,hk3⟩,Oq⟩:=hk;subst hk1;split at h
   .ext hx;subst hx;have hm:=o.blt "range" 'k';split at h
    .split at h
     .ext hs;erw[Qe] at h;let⟨d',h1,rfl⟩:=h;exact Kp (o.glb hk2) hm (ih _ _ h1).1 (bF hs)
     .cases h
    .split at h
     .ext hs;erw[Qn] at hs;split at h
      .ext d1 d2 h1 h2;cases h;exact G9 (o.glb hk2) hm (ih _ _ h1).1 (ih _ _ h2).1 (by rw[bF hs.1,bF hs.2];rfl) (bF hs.2)
      .cases h
     .cases h
    .cases h
   .split at h
    .ext hx;subst hx;have hm:=o.blt "enumerate" 'k';split at h
     .split at h
      .ext hs;erw[Qe] at h;let⟨d',h1,rfl⟩:=h;exact Kq (o.glb hk2) hm (ih _ _ h1).1 (bF hs)
      .cases h
     .cases h
    .
     split at h
     .ext hx;subst hx;have hm:=o.blt "zip" 'k';split at h
      .split at h
       .ext hr;erw[Qe] at h;let⟨ds,h1,rfl⟩:=h;let⟨hst,d1,ds1,z1,z2,rfl⟩:=iU h1;exact KC (o.glb hk2) hm (jl ih h1) (fun Z m ws m' e=>by
         have:=mZ e;have:=qw h1;erw[QB] at this;omega) (bF hst) λ _=>fT z2
       .cases h
      .cases h
     .
      exact qA ih h
  .exact qA ih h
 .exact qA ih h
theorem vP(ih:∀e d,f e=some d->Tells X cl C e d)(h:Am f es=some ds):mq X es (ST X cl (bw C ds)):=by
 unfold Am at h;split at h
 .cases h;exact C5
 .erw[Qe] at h;let⟨d,h1,rfl⟩:=h;exact C6 (ih _ _ h1).2
 .cases h
theorem nc{gs:List Comprehension}{g:G}(h:EI f n c elt gs=some g):∀g',gs[0]?=some g'->g'.is_async=0/\∀(env:Env) x,foldedSetIterable g'.iter env x=pure x:=by
 intro g' hg;cases gs with
 | nil=>simp at hg
 | cons g0 gs=>
  simp at hg;subst hg;let⟨tg,it,ifs,as⟩:=g0;unfold EI at h;split at h
  .ext hs;exact⟨hs.1,λ env x=>uN hs.2 x⟩
  .cases h
theorem Au(o:Ok X cl C c)(hx:X.xe=λ _ _=>False)(ih:∀e d,f e=some d->Tells X cl C e d){Δ:Addr}:∀{gs:List Comprehension} {g:G} {d0:Nat},EI f n c elt gs=some g->(∀i,gens[d0+1+i]?=gs[i]?)->
  PB X (λ Q s=>fc X.prog X.w X.A (.ListComp elt gens scope pos) elt d0 (.ref Δ) X.env Q gens[d0+1]? s) (SB false X cl Δ (jj C g))
 | [],g,d0,h,hg=>by
  erw[EI,Qe] at h;let⟨d,h1,rfl⟩:=h;exact Ht hx (by simpa using hg 0) (ih _ _ h1).1
 | ⟨tg,it,ifs,as⟩::gs,g,d0,h,hg=>by
  unfold EI at h;split at h
  .ext hs;split at h
   .ext t d ds g' h1 h2 h3 h4;cases h;let⟨rfl,hs2⟩:=hs;have hh:=nc h4;refine Kw hx o.calm (by simpa using hg 0) (λ g2 G1=>?_) (Ar o ih h2) (vO o n _ _ h1) (vP ih h3) (Au o hx ih (d0:=d0+1) h4 λ i=>?_)
    .have:=hg 1;rw[G1] at this;let⟨a1,a2⟩:=hh g2 (by simpa using this.symm);exact⟨a1,a2 _⟩
    .have:=hg (i+1);rw[show d0+1+1+i=d0+1+(i+1) by omega,this];simp
   .cases h
  .cases h
theorem bq{env:Env}:∀{names:List (Str×NameKind)} {x:Str} {k:NameKind},names.lookup x=some k->
  (names.map λ (n,k)=>if (k==NameKind.free&&env.scope.kind==.function&&env.kindOf n==some .cell) then (n,NameKind.cell) else (n,k)).lookup x=some k\/
  (k=.free/\(names.map λ (n,k)=>if (k==NameKind.free&&env.scope.kind==.function&&env.kindOf n==some .cell) then (n,NameKind.cell) else (n,k)).lookup x=some .cell)
 | [],_,_,h=>by simp at h
 | (n,k0)::r,x,k,h=>by
  have ih:=@bq env r x k;show List.lookup x ((if (k0==NameKind.free&&env.scope.kind==.function&&env.kindOf n==some .cell)=true then (n,NameKind.cell) else (n,k0))::(r.map λ (n,k)=>if (k==NameKind.free&&env.scope.kind==.function&&env.kindOf n==some .cell) then (n,NameKind.cell) else (n,k)))=some k\/(k=.free/\List.lookup x ((if (k0==NameKind.free&&env.scope.kind==.function&&env.kindOf n==some .cell)=true then (n,NameKind.cell) else (n,k0))::(r.map λ (n,k)=>if (k==NameKind.free&&env.scope.kind==.function&&env.kindOf n==some .cell) then (n,NameKind.cell) else (n,k)))=some .cell);cases hx:x==n with
  | true=>
   erw[Qy,hx] at h;cases h
   by_cases hc:(k0==NameKind.free&&env.scope.kind==.function&&env.kindOf n==some .cell)=true
   .rw[Qs hc];have hk:k0=.free:=by
     erw[Qn] at hc;simpa using hc.1.1
    exact .inr ⟨hk,by erw[Qy,hx]⟩
   .rw[Qz hc];exact .inl (by erw[Qy,hx])
  | false=>
   erw[Qy,hx] at h;have:=ih h;split<;>(erw[Qy,hx];exact this)
theorem Ok.comp(o:Ok X cl C c)(hc:uJ c.N scope c.names=true):ig X.N (sL c.N scope.names) scope X.env.scope/\∀cl' s₀ H₀ fp pn,Ok (X.comp scope cl' s₀ H₀ fp pn) cl C {c with names:=scope.names}:=by
 unfold uJ at hc;erw[Qn,Q7,all_eq_true,Bool.or_eq_true] at hc;let⟨h1,h2⟩:=hc;refine⟨⟨h1,λ y hy hl=>?_,λ y hy hl=>?_,λ p hp hl=>?_,λ y hy hf=>?_⟩,λ cl' s₀ H₀ fp pn=>⟨o.N,o.nd,λ {x k} hk hv=>?_,λ {x k} hk hv=>?_,λ {x} hk=>?_,λ {x} hk=>?_,o.calm,⟨o.units.un,o.units.P,o.units.w,o.units.gd⟩,o.hand,o.blt,o.fn,o.gl,o.cs,o.fld,o.mth,o.ini,o.dic,o.isc⟩⟩
 .rcases (h2 y hy).1.1 with z | z
  .exact absurd hl z
  .exact z
 .rcases (h2 y hy).1.2 with z | z
  .exact absurd hl z
  .exact z
 .unfold sL;rw[o.N] at hp;refine Qf.mpr ⟨p,RB.mpr ⟨hp,by rcases hl with hl | hl<;>simp[hl]⟩,rfl⟩
 .rcases (h2 y hy).2 with (z | z) | z
  .exact absurd hf z
  .exact o.cel (.inl z)
  .exact o.cel (.inr z)
 .rcases bq (env:=X.env) hk with z | ⟨z1,z⟩
  .rcases hv with rfl | rfl | rfl
   .exact .inl z
   .exact .inr (.inl z)
   .exact .inr (.inr z)
  .exact .inr (.inl z)
 .rcases hv with rfl | rfl
  .rcases bq (env:=X.env) hk with z | ⟨z1,z⟩
   .exact⟨.inl z,.inr z⟩
   .cases z1
  .rcases bq (env:=X.env) hk with z | ⟨z1,z⟩
   .exact⟨.inr z,.inl (by simpa using hk)⟩
   .cases z1
 .rcases hk with hk | hk
  .rcases bq (env:=X.env) hk with z | ⟨z1,z⟩
   .exact .inl z
   .cases z1
  .rcases bq (env:=X.env) hk with z | ⟨z1,z⟩
   .exact .inr z
   .exact .inl z
 .rcases bq (env:=X.env) hk with z | ⟨z1,z⟩
  .exact z
  .cases z1
end
theorem EL{c:Ci}(o:Ok X cl C c){it:Expr}{gs:List Comprehension}{d1:E}{g:G}
  (oc:∀cl' s₀ H₀ fp pn,Ok (X.comp scope cl' s₀ H₀ fp pn) cl C {c with names:=scope.names}) (ok:ig X.N (sL c.N scope.names) scope X.env.scope) (hh:∀g',gs[0]?=some g'->g'.is_async=0/\∀(env:Env) x,foldedSetIterable g'.iter env x=pure x)
  (ih:∀e d,cE n c e=some d->Tells X cl C e d) (IV:∀cl' s₀ H₀ fp pn e d,cE n {c with names:=scope.names} e=some d->Tells (X.comp scope cl' s₀ H₀ fp pn) cl C e d)
  (h1:cT n {c with names:=scope.names} tg=some t) (h2:cI (cE n c) c tg it=some d1) (h3:Am (cE n {c with names:=scope.names}) ifs=some ds) (h4:EI (cE n {c with names:=scope.names}) n {c with names:=scope.names} elt gs=some g) (iV:isSet it=false) :
  CL X cl C elt tg it ifs gs scope pos (sL c.N scope.names) t d1 ds g:=
 ⟨o.calm,ok,hh,Ar o ih h2,λ _ _ _ _ _=>vO (oc _ _ _ _ _) n _ _ h1,λ _ _ _ _ _=>vP (IV _ _ _ _ _) h3,
  λ _ _ _ _ _ Δ=>Au (oc _ _ _ _ _) rfl (IV _ _ _ _ _) h4 λ i=>by simp[Nat.add_comm],λ x=>uN iV x⟩
theorem jP:∀(n:Nat) (X:L2.Cx) (c:Ci) (e:Expr) (d:E),Ok X cl C c->cE n c e=some d->Tells X cl C e d
 | 0,_,_,_,_,_,h=>by cases h
 | n+1,X,c,e,d,o,h=>by
  have ih:∀e d,cE n c e=some d->Tells X cl C e d:=λ e d h=>jP n X c e d o h;unfold cE at h;erw[Qe] at h;let⟨d,h,rfl⟩:=h;refine Ao ?_;split at h
  .
   let⟨q1,q2⟩:=De o h;exact aI q1 (λ _=>rfl) q2
  .
   split at h
   .cases h;exact aI JY (λ _=>rfl) λ _ _=>rfl
   .cases h;exact aI Nk (λ _=>rfl) λ _ _=>rfl
   .cases h;exact aI JZ (λ _=>rfl) λ _ _=>rfl
   .cases h;exact aI J0 (λ _=>rfl) λ _ _=>rfl
   .cases h
  .
   split at h
   .ext d1 d2 h1 h2;cases h;exact aI (J2 (ih _ _ h1).1 (ih _ _ h2).1) (λ _=>rfl) λ _ _=>rfl
   .cases h
  .
   split at h
   .erw[Qe] at h;let⟨d',h1,rfl⟩:=h;exact⟨J5 (ih _ _ h1).1,J6 (ih _ _ h1).2⟩
   .cases h
  .
   let⟨q1,q2⟩:=EJ ih h;exact⟨q1,q2.pt⟩
  .
   split at h
   .split at h
    .cases h
    .ext hm;split at h
     .ext d1 d2 h1 h2;cases h;exact⟨J3 o.units (ih _ _ h1).1 (ih _ _ h2).1 (by simpa using hm),J4 o.units (ih _ _ h1).1 (ih _ _ h2).1 (by simpa using hm)⟩
     .cases h
   .split at h
    .cases h
    .ext hm;split at h
     .ext d1 d2 d3 h1 h2 h3;cases h;have hm:=(RJ _).mp hm;exact⟨CJ o.units (ih _ _ h1).1 (ih _ _ h2).1 (ih _ _ h3).1 (yM (ki o.units _) (ki o.units _) (ih _ _ h1).1 (ih _ _ h2).1 (ih _ _ h3).1 hm),Df o.units (ih _ _ h1).1 (ih _ _ h2).1 (ih _ _ h3).1 hm⟩
     .cases h
   .cases h
  .
   split at h
   .ext d1 d2 d3 h1 h2 h3;cases h;exact⟨J8 (ih _ _ h1).2 (ih _ _ h2).1 (ih _ _ h3).1,KN (ih _ _ h1).2 (ih _ _ h2).2 (ih _ _ h3).2⟩
   .cases h
  .
   erw[Qe] at h;let⟨ds,h1,rfl⟩:=h;exact aI (Kc (jl ih h1)) (λ _=>rfl) λ _ _=>rfl
  .erw[Qe] at h;let⟨ds,h1,rfl⟩:=h;exact aI (Ke (jl ih h1)) (λ _=>rfl) λ _ _=>rfl
  .
   split at h
   .split at h
    .split at h
     .ext d1 d2 d3 h1 h2 h3;cases h;exact aI (Kg (ih _ _ h1).1 (KL ih h2) (KL ih h3)) (λ _=>rfl) λ _ _=>rfl
     .cases h
    .cases h
   .split at h
    .cases h
    .ext hs;split at h
     .ext d1 d2 h1 h2;cases h;exact aI (Kf (ih _ _ h1).1 (ih _ _ h2).1 (Dd ((RJ _).mp hs))) (λ _=>rfl) λ _ _=>rfl
     .cases h
  .
   ext f args kws pos;split at h
   .ext hk;have hk:kws=[]:=by simpa using hk
    subst hk;split at h
    .ext x p;split at h
     .cases h
     .ext t6;let⟨hs1,hs2,hs3⟩:=m8 (by simpa using t6);split at h
      .ext IW;have hg:=o.glb IW;split at h
       .ext i np hf;split at h
        .split at h
         .ext hnp;cases h;let⟨k,fa,fd,ps,e1,e2,e3,e4,e5,e6⟩:=o.fn hf;exact aI (C8 e6 e2 hg e3 e4 e5 (by rw[e1];exact hnp) hs1) (λ _=>rfl) λ _ _=>rfl
         .cases h
        .ext a r;split at h
         .ext hlen;erw[Qe] at h;let⟨ds,h1,rfl⟩:=h;let⟨k,fa,fd,ps,e1,e2,e3,e4,e5,e6⟩:=o.fn hf;let⟨hst,d1,ds1,z1,z2,rfl⟩:=iU h1;refine aI (s_call e6 e2 hg e3 e4 e5 (jl ih h1) (fun Z m ws m' hw=>?_) hs1 (bF hst) (fT z2)) (λ _=>rfl) λ _ _=>rfl;rw[mZ hw,qw h1,e1];exact hlen
         .cases h
       .split at h
        .ext ix hix;split at h
         .cases h
         .ext a r;erw[Qe] at h;let⟨ds,h1,rfl⟩:=h;let⟨hst,d1,ds1,z1,z2,rfl⟩:=iU h1;rw[o.cs] at hix;exact aI (HC hix (o.ini hix) hg (jl ih h1) hs1 (bF hst) (fT z2)) (λ _=>rfl) λ _ _=>rfl
        split at h
        .ext iV;subst iV;split at h
         .cases h;exact aI (G5 o.units hg (o.blt _ 'k')) (λ _=>rfl) λ _ _=>rfl
         .cases h
        split at h
        .ext a hl;split at h
         .ext eX;erw[Qn,Ro] at eX;erw[Qe] at h;let⟨d1,h1,rfl⟩:=h;let⟨py,p2,rfl,rfl⟩:=xX hl;exact aI (HD o.hand o.units.un hg (o.blt _ 'k') (o.glb eX.1.2) (o.blt _ 'k') (ih _ _ h1).1 (bF eX.1.1)) (λ _=>rfl) λ _ _=>rfl
         .cases h
        split at h
        .ext a hl;split at h
         .ext eX;erw[Qn,Ro] at eX;erw[Qe] at h;let⟨d1,h1,rfl⟩:=h;let⟨py,p2,rfl,rfl⟩:=xZ hl;exact aI (G0 o.hand hg (o.blt _ 'k') (o.glb eX.1.2) (o.blt _ 'k') (ih _ _ h1).1 (bF eX.1.1)) (λ _=>rfl) λ _ _=>rfl
         .cases h
        split at h
        .ext b hb;split at h
         .cases h
         .ext a r;erw[Qe] at h;let⟨ds,h1,rfl⟩:=h;let⟨hst,d1,ds1,z1,z2,rfl⟩:=iU h1;obtain⟨hm,⟨id,y1,y2⟩ | ⟨id,y1,y2⟩⟩:=xW hb
          .exact aI (GY o.units o.calm o.hand y1 hg (o.blt _ hm) y2 (jl ih h1) hs3 hs1 (bF hst) (fT z2)) (λ _=>rfl) λ _ _=>rfl
          .exact aI (GZ o.units o.calm o.hand y1 hg (o.blt _ hm) y2 (jl ih h1) hs3 hs1 (bF hst) (fT z2)) (λ _=>rfl) λ _ _=>rfl
        .cases h
      .cases h
    .ext ob mm apos;split at h
     .cases h
     .ext hc0;split at h
      .ext hline;split at h
       .ext nm id d1 y1 y2;split at h
        .ext hlen;erw[Qe] at h;let⟨ds,h1,rfl⟩:=h;let⟨w0,w1,w2,w3⟩:=An (X:=X) (cl:=cl) o.units y1;have hbase:=qu (env:=X.env) (m:=mm) (by simpa using hc0:i9 ob=false);cases args with
         | nil=>
          cases h1;exact aI (CO rfl w0 w1 w2 w3 (ih _ _ y2).1 hbase hline) (λ _=>rfl) λ _ _=>rfl
         | cons a r=>
          let⟨hst,d2,ds1,z1,z2,rfl⟩:=iU h1;refine aI (G4 rfl w0 w1 w2 w3 (ih _ _ y2).1 (jl ih h1) hbase ?_ hline (bF hst) (fT z2)) (λ _=>rfl) λ _ _=>rfl;rw[qt h1];have:(a::r).length+0+0 < 30:=QA hlen 'd';show (true&&true&&decide _)=true;exact Q2 this
        .cases h
       .ext d1 y1 y2;split at h
        .ext hlen;erw[Qe] at h;let⟨ds,h1,rfl⟩:=h;have hbase:=qu (env:=X.env) (m:=mm) (by simpa using hc0:i9 ob=false);refine aI (KJ (λ hx=>o.mth hx) (ih _ _ y2).1 (jl ih h1) hbase ?_ hline ?_) (λ _=>rfl) λ _ _=>rfl
         .rw[qt h1];have:args.length+0+0 < 30:=QA hlen 'd';show (true&&true&&decide _)=true;exact Q2 this
         .cases args with
          | nil=>cases h1;exact .inl ⟨rfl,rfl⟩
          | cons a r=>
           let⟨hst,d2,ds1,z1,z2,rfl⟩:=iU h1;exact .inr ⟨a,r,rfl,bF hst,fT z2⟩
        .cases h
       .cases h
      .cases h
    .cases h
   .split at h
    .ext a hl;split at h
     .ext eX;erw[Qn,Ro] at eX;erw[Qe] at h;let⟨d1,h1,rfl⟩:=h;let⟨p1,j,cp,kp,rfl,rfl,rfl⟩:=xY hl;exact aI (HE o.hand o.units.un (o.glb eX.1.2) (o.blt _ 'k') (ih _ _ h1).1 (bF eX.1.1)) (λ _=>rfl) λ _ _=>rfl
     .cases h
    .cases h
  .
   ext ob f p;split at h
   .cases h
   .ext hc0;erw[Qe] at h;let⟨d1,h1,rfl⟩:=h;exact aI (KI (λ hx=>o.fld hx) (ih _ _ h1).1 (qu (by simpa using hc0:i9 ob=false))) (λ _=>rfl) λ _ _=>rfl
  .
   ext elt gens scope pos;split at h
   .cases h
   .ext tg it ifs as gs;split at h
    .ext eX;let⟨rfl,iV,hco⟩:=eX;split at h
     .ext t d1 ds g h1 h2 h3 h4;cases h;let⟨ok,oc⟩:=o.comp hco;have IV:∀cl' s₀ H₀ fp pn e d,cE n {c with names:=scope.names} e=some d->Tells (X.comp scope cl' s₀ H₀ fp pn) cl C e d:=λ cl' s₀ H₀ fp pn e d h=>jP n _ _ e d (oc cl' s₀ H₀ fp pn) h;refine aI (Hv (EL o oc ok (nc h4) ih IV h1 h2 h3 h4 iV) (eval_ListComp _ _ _ _)) (λ _=>rfl) λ _ _=>rfl
     .cases h
    .cases h
  .cases h
section
variable{env:Env}
theorem Dg{i:Expr}(h:isSlice i=false)(v:Value):assign (.Subscript o i pos) env v=(do
   let ov <-holding [v] (eval o env)
   let iv <-holding [v,ov] (eval i env)
   standAt pos
   holding [v,ov,iv] (setItem ov iv v)
   release [v,ov,iv] []):=by
 cases i<;>first | rfl | cases h
theorem Dh{v:Expr}{l:Nat}(h:vM tg=false):swapsWithSole [tg] v l env=pure false:=by
 show swapsWith v (some tg) l env=pure false;cases v<;>first | rfl | (cases tg<;>first | rfl | cases h)
theorem Di{v:Expr}{f:Str}{l:Nat}:swapsWith v @(.Attribute o f p) l env=pure false:=by
 cases v<;>rfl
theorem x8{v:Expr}(h:(qq tg&&qq v)=false):swappedStores [tg] v env=pure none:=by
 cases tg<;>first | rfl | (cases v<;>first | rfl | cases h)
end
theorem x9{c:Ci}{v:Expr}(hc:qp v=true)(h:cE n c v=some d):(∃elt gens scope pos,v=.ListComp elt gens scope pos)\/∃kx vx gens scope pos,v=.DictComp kx vx gens scope pos:=by
 cases n with
 | zero=>cases h
 | succ n=>
  cases v with
  | ListComp elt gens scope pos=>exact .inl ⟨_,_,_,_,rfl⟩
  | SetComp elt gens scope pos=>unfold cE at h;simp at h
  | DictComp k v gens scope pos=>exact .inr ⟨_,_,_,_,_,rfl⟩
  | _=>cases hc
section
variable{X:L2.Cx}{cl:Cl}{C:D.Cx}{c:Ci}
theorem EM{f:Expr->Option A}(ih:∀e t,f e=some t->PG X e (SG X cl (gU C t))):∀{es:List Expr} {ts:As},LR f es=some ts->
  tL X es (IT X cl (eO C ts))/\(assignEach es X.env).length=ts.len/\(assignEach es X.env).findIdx? (·.1)=none
 | [],_,h=>by cases h;exact⟨z5,rfl,rfl⟩
 | e::es,ts,h=>by
  unfold LR at h;split at h
  .ext hs;split at h
   .cases h
   .ext d h1;split at h
    .cases h
    .ext ds h2;cases h;let⟨q1,q2,q3⟩:=EM ih h2;have e1:=mY (env:=X.env) (es:=es) hs;refine⟨vC (ih e d h1) q1 (by rw[e1];rfl),?_,?_⟩
     .rw[e1,QB,q2];rfl
     .rw[e1,findIdx?_cons];simp[q3]
  .cases h
theorem EN(o:Ok X cl C c):∀(n:Nat) (e:Expr) (t:A),cA n c e=some t->PG X e (SG X cl (gU C t))
 | 0,_,_,h=>by cases h
 | n+1,e,t,h=>by
  unfold cA at h;split at h
  .erw[Qe] at h;let⟨i,hi,rfl⟩:=h;let⟨h1,h2,h3⟩:=jO o hi;exact Ew (KO o) h1 h2 h3
  .erw[Qe] at h;let⟨ts,hi,rfl⟩:=h;let⟨q1,q2,q3⟩:=EM (λ e t h=>EN o n e t h) hi;exact Ex o.calm q1 q2 q3
  .split at h
   .cases h
   .ext hs;split at h
    .ext d1 d2 h1 h2;cases h;exact Kr (jP n X c _ _ o h1).1 (jP n X c _ _ o h2).1 (Dg ((RJ _).mp hs))
    .cases h
  .cases h
theorem sN{f:Stmt->Option S}(ih:∀s d,f s=some d->PS X s (SS X cl (fu C d))):∀{es:List Stmt} {ds:Ss},Dc f es=some ds->lV X es (SS X cl (aL C ds))
 | [],_,h=>by cases h;exact Hj
 | e::es,ds,h=>by
  unfold Dc at h;split at h
  .cases h
  .ext d h1;split at h
   .cases h
   .ext ds h2;cases h;exact CP (ih e d h1) (sN ih h2)
theorem Av(o:Ok X cl C c){x:Str}(ht:oY c x=some i)(h:cE n c (.ListComp elt gens scope pos)=some d) :
  PS X (.Assign [.Name x p] (.ListComp elt gens scope pos) spos) (SS X cl (fu C (.asg (.pt (.var i)) d))):=by
 let⟨h1,h2,h3⟩:=jO o ht;have e:swapsWith (.ListComp elt gens scope pos) @(.Name x p) spos.line X.env=pure (X.env.blockKind==.function&&X.env.kindOf x==some .local&&p.line==(Expr.ListComp elt gens scope pos).pos.line&&!(scope.names.any λ (n,k)=>n==x&&(k==.local||k==.cell))):=rfl;cases hb:(X.env.blockKind==.function&&X.env.kindOf x==some .local&&p.line==(Expr.ListComp elt gens scope pos).pos.line&&!(scope.names.any λ (n,k)=>n==x&&(k==.local||k==.cell))) with
 | false=>
  rw[hb] at e;exact z6 (KO o) h1 h2 (jP n X c _ _ o h).1 e h3
 | true=>
  rw[hb] at e;cases n with
  | zero=>cases h
  | succ n=>
   have ih:∀e d,cE n c e=some d->Tells X cl C e d:=λ e d h=>jP n X c e d o h;unfold cE at h;erw[Qe] at h;let⟨d,h,rfl⟩:=h;have wrap:PS X (.Assign [.Name x p] (.ListComp elt gens scope pos) spos) (SS X cl (fu C (.asg (.pt (.var i)) d)))->PS X (.Assign [.Name x p] (.ListComp elt gens scope pos) spos) (SS X cl (fu C (.asg (.pt (.var i)) (wz c (.ListComp elt gens scope pos) d)))):=λ q=>by
    unfold wz;split
    .exact HA q
    .exact q
   refine wrap ?_;split at h
   .cases h
   .ext tg it ifs as gs;split at h
    .ext eX;let⟨rfl,iV,hco⟩:=eX;split at h
     .ext t d1 ds g y1 y2 y3 y4;cases h;let⟨ok,oc⟩:=o.comp hco;have IV:∀cl' s₀ H₀ fp pn e d,cE n {c with names:=scope.names} e=some d->Tells (X.comp scope cl' s₀ H₀ fp pn) cl C e d:=λ cl' s₀ H₀ fp pn e d h=>jP n _ _ e d (oc cl' s₀ H₀ fp pn) h;exact C4 (KO o) h1 h2 (EL o oc ok (nc y4) ih IV y1 y2 y3 y4 iV) e h3
     .cases h
    .cases h
theorem Dj(o:Ok X cl C c)(ih:∀e d,cE n c e=some d->Tells X cl C e d){v:Expr}{d:S}(h:HF n c tg v=some d):PS X (.Assign [tg] v spos) (SS X cl (fu C d)):=by
 unfold HF at h;split at h
 .cases h
 .ext eX;erw[Bool.or_eq_true,Bool.not_eq_true',not_or,Bool.not_eq_false] at eX;let⟨⟨c1,c2⟩,c3⟩:=eX;split at h
  .ext t d1 y1 y2;cases h;exact Hl (ih _ _ y2).1 (EN o n _ _ y1) (Dh ((RJ _).mp c2)) (x8 ((RJ _).mp c1)) (by rw[mY c3];rfl)
  .cases h
theorem Dk(o:Ok X cl C c)(hsc:X.env.scope.names=c.names)(hkd:X.env.scope.kind=.function){v:Expr}{d:S}(h:HG n c tg v=some d):PS X (.Assign [tg] v spos) (SS X cl (fu C d)):=by
 have ih:∀e d,cE n c e=some d->Tells X cl C e d:=λ e d h=>jP n X c e d o h;unfold HG at h;split at h
 .ext x p;split at h
  .ext i d1 y1 y2;cases h;let⟨h1,h2,h3⟩:=jO o y1
   by_cases hc:qp v=true
   .rcases x9 hc y2 with⟨_,_,_,_,rfl⟩ | ⟨_,_,_,_,_,rfl⟩
    .exact Av o y1 y2
    .cases n with | zero=>cases y2 | succ n=>unfold cE at y2;simp at y2
   .exact z6 (KO o) h1 h2 (ih _ _ y2).1 (vN ((RJ _).mp hc)) h3
  .cases h
 .split at h
  .ext d1 d2 y1 y2;cases h;exact HB (λ hx=>o.fld hx) (ih _ _ y1).1 (ih _ _ y2).1 Di
  .cases h
 .
   exact Dj o ih h
theorem EO(o:Ok X cl C c)(hsc:X.env.scope.names=c.names)(hkd:X.env.scope.kind=.function)(hp:PassesOwn (model X.prog X.w) X.A X.env X.xe)(hx:∀e s,¬X.xe e s):∀(n:Nat) (s:Stmt) (d:S),cS n c s=some d->PS X s (SS X cl (fu C d))
 | 0,_,_,h=>by cases h
 | n+1,s,d,h=>by
  have ih:∀e d,cE n c e=some d->Tells X cl C e d:=λ e d h=>jP n X c e d o h;have ND:∀s d,cS n c s=some d->PS X s (SS X cl (fu C d)):=λ s d h=>EO o hsc hkd hp hx n s d h;unfold cS at h;split at h
  .split at h
   .exact Dk o hsc hkd h
   .cases h
  .split at h
   .cases h
   .ext hc;erw[Qe] at h;let⟨d1,h1,rfl⟩:=h;exact CQ (ih _ _ h1).1 (vN ((RJ _).mp hc))
  .split at h
   .erw[Qe] at h;let⟨d1,h1,rfl⟩:=h;exact Ho (ih _ _ h1).1
   .cases h;exact CS
  .split at h
   .ext d1 x y y1 y2 y3;cases h;exact Ku (ih _ _ y1).2 (sN ND y2) (sN ND y3)
   .cases h
  .split at h
   .split at h
    .cases h
    .ext hs;split at h
     .ext t d1 x y1 y2 y3;cases h;exact Hr hp o.calm (Ar o ih y2) (vO o n _ _ y1) (sN ND y3) (λ x=>uN ((RJ _).mp hs) x)
     .cases h
   .cases h
  .cases h;exact CT
  .cases h;exact Hq
  .cases h;exact CU
  .cases h;exact z7
  .cases h
end
mutual
def av:W->Bool
 | .tup xs=>aj xs
 | .fz xs=>aj xs
 | .obj _ _ vs=>aj vs
 | .ref _=>false
 | .non=>true
 | .bl _=>true
 | .int _=>true
 | .str _=>true
def aj:List W->Bool
 | []=>true
 | x::r=>av x&&aj r
end
mutual
def BD(k:Nat):W->W
 | .tup xs=>.tup (ng k xs)
 | .fz xs=>.fz (ng k xs)
 | .obj c ks vs=>.obj c ks (ng k vs)
 | .ref n=>.ref (k+n)
 | .non=>.non
 | .bl b=>.bl b
 | .int i=>.int i
 | .str x=>.str x
def ng(k:Nat):List W->List W
 | []=>[]
 | x::r=>BD k x::ng k r
end
def Dm(k:Nat):List (Str×W)->List (Str×W)
 | []=>[]
 | (f,x)::r=>(f,BD k x)::Dm k r
def BE(k:Nat):O->O
 | .lst xs=>.lst (ng k xs)
 | .ins c fs=>.ins c (Dm k fs)
 | .set ks=>.set ks
 | .dic fs=>.dic (Dm k fs)
def aC(f:List W->Mem->R W)(ws:List W)(m:Mem):R W:=
 if aj ws then match f ws [] with
  | .ok w m1=>if av w then .ok w m else .ok (BD m.length w) (m++m1.map (BE m.length))
  | .no=>.no
 else f ws m
set_option genInjectivity false in
structure Pg where
 fns:List Fn
 cs:Cs
 fuel:Nat
def runN(p:Pg):Nat->Nat->List W->Mem->R W
 | 0,_,_,_=>.no
 | n+1,f,ws,m=>match p.fns[f]? with
  | none=>.no
  | some d=>if ws.length=d.np then (aL ⟨λ f=>aC (runN p n f),p.fuel,p.cs⟩ d.body (gA d.nl ws) m).bind outF else .no
theorem RW.pure(q:RW K J H w v):av w=true->RW K J' H w v:=
 RW.rec (motive_1:=λ w v _=>av w=true->RW K J' H w v) (motive_2:=λ w v _=>aj w=true->aW K J' H w v) (λ _=>.non) (λ b _=>.bl b) (λ b _=>.int b) (λ b _=>.str b) (λ h _ i e=>.tup h (i e)) (λ h _ i e=>.fz h (i e)) (λ h z _ i e=>.obj h z (i e)) (λ q e=>nomatch (show false=true from e)) (λ _=>.nil) (λ _ _ a b e=>.cons (a (Qt.mp e).1) (b (Qt.mp e).2)) q
theorem aW.pure{w:List W}{v:List V}(q:aW K J H w v)(e:aj w=true):aW K J' H w v:=by
 induction w generalizing v with
 | nil=>cases q;exact .nil
 | cons x w ih=>cases q with | cons a b=>exact .cons (a.pure (Qt.mp e).1) (ih b (Qt.mp e).2)
theorem RW.shift(q:RW K γ H w v):RW K (J++γ) H (BD J.length w) v:=
 RW.rec (motive_1:=λ w v _=>RW K (J++γ) H (BD J.length w) v) (motive_2:=λ w v _=>aW K (J++γ) H (ng J.length w) v) .non .bl .int .str (λ h _ i=>.tup h i) (λ h _ i=>.fz h i) (λ h e _ i=>.obj h e i) (λ q=>.ref (by rw[QH 'o',Nat.add_sub_cancel_left];exact q)) .nil (λ _ _ a b=>.cons a b) q
theorem aW.shift{w:List W}{v:List V}(q:aW K γ H w v):aW K (J++γ) H (ng J.length w) v:=by
 induction w generalizing v with
 | nil=>cases q;exact .nil
 | cons x w ih=>cases q with | cons a b=>exact .cons a.shift (ih b)
theorem iE.shift{w:List (Str×W)}{v:List (Str×V)}(q:iE K γ H w v):iE K (J++γ) H (Dm J.length w) v:=by
 induction q with
 | nil=>exact .nil
 | cons a b ih=>exact .cons a.shift ih
theorem RO.shift{a:Addr}{o:O}(q:RO K cl γ H a o):RO K cl (J++γ) H a (BE J.length o):=by
 cases o with
 | lst ws=>let⟨vs,e,t⟩:=q;exact⟨vs,e,t.shift⟩
 | ins c fs=>let⟨dx,fs',e,t⟩:=q;exact⟨dx,fs',e,t.shift⟩
 | dic fs=>let⟨fs',e,t⟩:=q;exact⟨fs',e,t.shift⟩
 | set ks=>exact q
theorem ku{np:Nat}{f:List W->Mem->R W}{Q:VK}{E:XK}(h:yv K cl np (aC f) vs H Q E):yv K cl np f vs H Q E:=by
 let⟨hl,J,m,ws,w,m',r,t,e,k⟩:=h;unfold aC at e;split at e
 .ext hp;split at e
  .ext w1 m1 e1;refine⟨hl,[],[],ws,w1,m1,⟨rfl,nodup_nil,λ {n o a} h=>by simp at h⟩,t.pure hp,e1,fun J' H' v x r' q=>?_⟩;have kp:∀{a:Addr} {o:HO},H a=some o->H' a=some o:=λ h=>x.keep h 's' 's';have x2:Ext J H J H':=⟨⟨[],by simp,by simp⟩,λ h _ _=>kp h⟩;have r2:Rel K cl J m H':=⟨r.len,r.nd,λ h1 h2=>by
    have q:=r.obj h1 h2;let⟨u,e,_⟩:=q.ex;exact q.mono r x2 ((kp e).trans e.symm)⟩
   split at e
   .ext hw;cases e;exact k J H' v x2 r2 (q.pure hw)
   .cases e;let⟨γ,hγ,fresh⟩:=x.pre;rw[nil_append] at hγ;subst hγ;rw[<-r.len] at k;refine k (J++J') H' v ⟨⟨J',rfl,fresh⟩,λ h _ _=>kp h⟩ ⟨by simp[r.len,r'.len],?_,λ {n o a} h1 h2=>?_⟩ q.shift
    .rw[nodup_append];refine⟨r.nd,r'.nd,λ a ha b hb=>?_⟩;rintro rfl;let⟨u,e,_⟩:=r.ex ha;rw[fresh a hb] at e;cases e
    .by_cases hn:n < J.length
     .rw[Qw (by rw[<-r.len];exact hn)] at h1;rw[Qw hn] at h2;exact(r2.obj h1 h2).sub λ {n a} h=>by rw[Qw (Qd.mp h).1];exact h
     .rw[QH (by rw[<-r.len];omega),getElem?_map] at h1;rw[QH 'o'] at h2;erw[Qe] at h1;let⟨o',h1,rfl⟩:=h1;rw[<-r.len] at h1;exact(r'.obj h1 h2).shift
  .cases e
 .exact⟨hl,J,m,ws,w,m',r,t,e,k⟩
theorem Aw{f:List W->Mem->R W}{ws:List W}(h:aC f ws m=.ok w m'):∃m1 w1 m2,f ws m1=.ok w1 m2:=by
 unfold aC at h;split at h
 .split at h
  .exact⟨_,_,_,by assumption⟩
  .cases h
 .exact⟨_,_,_,h⟩
section
variable{P:Program}{w:World}{K:PySem.W.Frag}{mg:Str->Option Value}{base:Heap}{fns:List (Str×(Nat×Nat))}{gl:List (Str×W)}{fz:List Pos}{p:Pg}
def FD(K:PySem.W.Frag)(p:Pg)(fns:List (Str×(Nat×Nat)))(gl:List (Str×W))(fz:List Pos)(i:Nat)(x:Str)(f:Addr)(fd:FuncData)(ps:List Str):Prop:=
 ∃(qual:Str) (st:Stmt) (N:List Str) (body:Ss),LF K x qual st f fd/\lF N ps (bf st)/\Dc (cS 60 ⟨N,(bf st).names,fns,gl,p.cs,fz⟩) (gm st)=some body/\p.fns[i]?=some ⟨ps.length,N.length,body⟩/\Binds K fd ps []
structure FA(K:PySem.W.Frag)(w:World)(mg:Str->Option Value)(p:Pg)(fns:List (Str×(Nat×Nat)))(gl:List (Str×W))(fz:List Pos):Prop where
 blt:∀x∈qm,mg x=none
 glo:∀{x:Str} {w:W},gl.lookup x=some w->∃u v,mg x=some u/\RelV v u/\∀J H,RW K J H w v
 fn:∀{x:Str} {i np:Nat},fns.lookup x=some (i,np)->∃f fd ps,ps.length=np/\FD K p fns gl fz i x f fd ps/\mg x=@(.ref f)
 mth:∀{c x:Str} {i:Nat},p.cs.mths.lookup (c,x)=some i->∃f fd ps,FD K p fns gl fz i x f fd ps/\yt K (aS K c)/\Meth K (aS K c) x f
 ini:∀{c:Str} {i:Nat},p.cs.ini.lookup c=some i->∃f fd ps,FD K p fns gl fz i "__init__" f fd ps/\Mk K (aS K c) f/\mg c=@(.ref (aS K c))
 fld:∀{c x:Str},p.cs.flds.contains (c,x)=true->yt K (aS K c)/\iJ K (aS K c) x
 dic:∀{x:Str} {kvs:List (Str×W)},p.cs.dic.lookup x=some kvs->TopK K w mg x kvs
 isc:∀{x:Str},p.cs.isc.contains x=true->mg x=some (.ref (aS K x))/\GU K (aS K x)
theorem RL.start{ws:List W}{N:List Str}(t:aW K J H ws vs):RL K J H (gA N.length ws) (L2.start N vs):=by
 refine⟨?_,λ {i w} h=>?_⟩
 .unfold gA L2.start;simp[t.length]
 .unfold gA at h
  by_cases hi:i < ws.length
  .rw[Qw (by simpa using hi),getElem?_map] at h;erw[Qe] at h;let⟨w',h1,h2⟩:=h;cases h2;let⟨v,e,q⟩:=t.get h1;refine⟨v,?_,q⟩;unfold L2.start;rw[Qw (by rw[Qi,<-t.length];exact hi),getElem?_map,e];rfl
  .rw[QH (by simpa using hi),getElem?_replicate] at h;split at h<;>cases h
theorem sound(A0:FA K w mg p fns gl fz):∀(n:Nat) {i:Nat} {x:Str} {f:Addr} {fd:FuncData} {ps:List Str},FD K p fns gl fz i x f fd ps->gX P w K mg base xj (2*n) f fd ps (yv K ⟨P,w⟩ ps.length (runN p n i))
 | 0,i,x,f,fd,ps,h=>⟨λ vs H Q E q=>q.1,λ A outer s H args us vs Q E hr he N7 hv hs=>by
   let⟨_,_,_,_,_,_,_,_,e,_⟩:=hs;cases e⟩
 | n+1,i,x,f,fd,ps,h=>by
  let⟨qual,st,N,body,F,S,hb,hi,hB⟩:=h;refine F.ok (k:=2*n+1) S (λ vs H Q E h=>h.1) (λ cdv A outer s H vs Q E hr h=>?_);let⟨hl,J,m,ws,wv,m',r,t,e,k⟩:=h;have EG:∀{i':Nat} {x':Str} {f':Addr} {fd':FuncData} {ps':List Str},FD K p fns gl fz i' x' f' fd' ps'->∀ws m w m',aC (runN p n i') ws m=.ok w m'->ws.length=ps'.length:=λ hd ws m w m' hc=>by
   let⟨_,_,_,_,_,_,_,hi',_⟩:=hd;let⟨m1,w1,m2,hc⟩:=Aw hc;cases n with
   | zero=>cases hc
   | succ n=>
    erw[runN,hi'] at hc;split at hc
    .assumption
    .cases hc
  have o:Ok (tZ xj P w K mg base N qual (bf st) f cdv A outer s H E).Je ⟨P,w⟩ ⟨λ f=>aC (runN p n f),p.fuel,p.cs⟩ ⟨N,(bf st).names,fns,gl,p.cs,fz⟩:=by
   refine⟨rfl,S.nd,λ {x k} hk hv=>?_,λ {x k} hk hv=>?_,λ {x} hk=>hk,λ {x} hk=>hk,rfl,⟨hr.units,rfl,rfl,hr.gd⟩,hr.hd,A0.blt,λ {x i np} hx=>?_,A0.glo,rfl,A0.fld,λ {c x i} hx=>?_,λ {c i} hx=>?_,A0.dic,A0.isc⟩
   .rcases hv with rfl | rfl | rfl
    .exact .inl hk
    .exact .inr (.inl hk)
    .exact .inr (.inr hk)
   .rcases hv with rfl | rfl
    .exact⟨.inl hk,.inl rfl⟩
    .exact⟨.inr hk,.inl rfl⟩
   .let⟨fa,fd,ps,h1,h2,h3⟩:=A0.fn hx;have hkp:PySem.W.keepIn K (.ref fa)=true:=let ⟨_,_,_,_,F,_⟩:=h2;F.kp;have hbd:Binds K fd ps []:=let ⟨_,_,_,_,_,_,_,_,z⟩:=h2;z;exact⟨2*n,fa,fd,ps,h1,hr.mono 'o',h3,hkp,hbd,(sound A0 n h2).imp λ _ _ _ _=>ku⟩
   .let⟨fa,fd,ps,h2,h3,h4⟩:=A0.mth hx;have hbd:Binds K fd ps []:=let ⟨_,_,_,_,_,_,_,_,z⟩:=h2;z;exact⟨2*n,fa,fd,ps,hr.mono 'o',h3,h4,hbd,(sound A0 n h2).imp λ _ _ _ _=>ku,EG h2⟩
   .let⟨fa,fd,ps,h2,h3,h4⟩:=A0.ini hx;have hbd:Binds K fd ps []:=let ⟨_,_,_,_,_,_,_,_,z⟩:=h2;z;exact⟨2*n,fa,fd,ps,hr,h3,h4,hbd,(sound A0 n h2).imp λ _ _ _ _=>ku,EG h2⟩
  refine⟨_,sN (λ s d h=>EO o rfl S.kind PassesOwn.never (λ _ _ z=>z) 60 s d h) hb,?_⟩;erw[runN,hi] at e;split at e
  .let⟨ff,m1,e1,e2⟩:=R.ah e;refine⟨J,gA N.length ws,m,ff,m1,r,RL.start t,e1,fun β1 H1 x1 r1=>?_⟩;cases ff with
   | nx Z=>
    erw[outF] at e2;cases e2;exact fun Y _=>k _ _ _ x1 r1 .non
   | rt w=>
    erw[outF] at e2;cases e2;exact λ v q=>k _ _ _ x1 r1 q
   | bk Z=>erw[outF] at e2;cases e2
   | ct Z=>erw[outF] at e2;cases e2
  .cases e
end
theorem Ax{l:PySem.W.OpenLaw}{q:Program}{loose:List Str}{XP:(Str->Option Value)->Heap->Prop}{YP:World->Heap->Prop}{d:DefRec}{K:Params->PySem.W.Frag}{p:Pg}{x:Str}
  (hn:l.most=some 63) (hdf:d.params.defaults=[]) (hY:∀(w:World) (h:Heap),YP w h->(K w.params).In h)
  (F:∀(w:World) (mg:Str->Option Value) (fa:Addr) (h:Heap),(K w.params).In h->h.Ns mainGlobals mg->mg d.name=some (.ref fa)->
   ∃fd:FuncData,(∀(s:Shared) (u:Value),BindsTo s fd ⟨[u],[]⟩ [(x,u)])/\
    ∀base:Heap,(K w.params).In base->base.Ns mainGlobals mg->gX l.prog w (K w.params) mg base xj 80 fa fd [x] (yv (K w.params) ⟨l.prog,w⟩ 1 (runN p 40 i)))
  (NF:∀ns:List Int,ns.length<=63->∃m',runN p 40 i [.fz (ns.map .int)] []=.ok (.bl true) m') :
  PySem.W.WalkO q loose XP YP l.row.toRowW d [] (λ f vs=>PySem.call f vs):=by
 refine L2.Cp (n:=63) (k:=80) (x:=x) (CX:=λ _=>xj) (sp:=λ w=>yv (K w.params) ⟨l.prog,w⟩ 1 (runN p 40 i)) hn 'd' hdf ⟨rfl,by decide,by decide,rfl⟩ hY F (λ w H a ns hl hO hS=>?_) λ _ _ _ _ _ z=>z;let⟨m',e⟩:=NF ns hl;have sf:sd (K w.params) H a (ns.map V.int):=by
  rcases hS with (h | ⟨o,h⟩) | h
  .rcases hO a with z | ⟨o,xs,z⟩
   .rw[h] at z;cases z
   .rw[h] at z;cases z
  .exact .inl ⟨o,h⟩
  .exact .inr h
 have ri:∀ns:List Int,aW (K w.params) [] H (ns.map W.int) (ns.map V.int):=λ ns=>by
  induction ns with
  | nil=>exact .nil
  | cons n r ih=>exact .cons (.int n) ih
 refine⟨rfl,[],[],[.fz (ns.map .int)],.bl true,m',⟨rfl,nodup_nil,λ {n o a} h=>by simp at h⟩,.cons (.fz sf (ri ns)) .nil,e,fun J' H' v _ _ q=>?_⟩;cases q;rfl
end D
end
section
namespace D
open PySem List
variable{C:Cx}{b:Ss}{e it:E}{f:List W->Mem->R W}{i n:Nat}{js:List Nat}{m m0 m1 m2:Mem}{o:O}{p:Pg}{s:Src}{t:T}{w:W}{xs:List W}{α:Type}{Z:Loc}
theorem sO{J:Type}[BEq α][LawfulBEq α]{x:α}{b:J}{l:List (α×J)}(h:l.lookup x=some b):(x,b)∈l:=by
 induction l with
 | nil=>simp at h
 | cons p l ih=>
  let⟨y,c⟩:=p;rw[Qy] at h;split at h
  .ext hb;cases h;rw[eq_of_beq hb];exact Qu
  .exact Qj _ (ih h)
abbrev Cn(p:Pg)(n:Nat):D.Cx:=⟨λ f=>aC (D.runN p n f),p.fuel,p.cs⟩
section
variable{get:Mem->Nat->Nx}{t:T}{test:Loc->Mem->R Bool}{body:Loc->Mem->List W->R (List W×Loc)}{Ay:Loc->Mem->R F}{k i:Nat}{Z Z1 Z2:Loc}{m m1 m2:Mem}{acc qB:List W}{x w:W}
theorem ya(h:get m i=.fin):dB get t test body k i Z m acc=.ok (acc,Z) m:=by unfold dB;rw[h]
theorem Az(h:get m i=.it x)(hb:aE t x Z=some Z1)(ht:test Z1 m=.ok true m1)(he:body Z1 m1 acc=.ok (qB,Z2) m2):dB get t test body (k+1) i Z m acc=dB get t test body k (i+1) Z2 m2 qB:=by
 rw[dB,h];erw[hb,ht,R.bind,QL,he]
theorem uO(h:get m i=.it x)(hb:aE t x Z=some Z1)(ht:test Z1 m=.ok false m1):dB get t test body (k+1) i Z m acc=dB get t test body k (i+1) Z1 m1 acc:=by
 rw[dB,h];erw[hb,ht,R.bind,Qv,QK]
theorem AA(h:get m i=.fin):iO get t Ay k i Z m=.ok (.nx Z) m:=by unfold iO;rw[h]
theorem Dp(h:get m i=.it x)(hb:aE t x Z=some Z1)(he:Ay Z1 m=.ok (.nx Z2) m2):iO get t Ay (k+1) i Z m=iO get t Ay k (i+1) Z2 m2:=by
 rw[iO,h];erw[hb,R.bind,he]
theorem Dq(h:get m i=.it x)(hb:aE t x Z=some Z1)(he:Ay Z1 m=.ok (.ct Z2) m2):iO get t Ay (k+1) i Z m=iO get t Ay k (i+1) Z2 m2:=by
 rw[iO,h];erw[hb,R.bind,he]
theorem sP(I:Nat->Loc->Mem->Prop)(hs:∀i Z m,i < n->I i Z m->∃x Z1 Z2 m2,get m i=.it x/\aE t x Z=some Z1/\(Ay Z1 m=.ok (.nx Z2) m2\/Ay Z1 m=.ok (.ct Z2) m2)/\I (i+1) Z2 m2)(hf:∀Z m,I n Z m->get m n=.fin) :
  ∀(k i:Nat) (Z:Loc) (m:Mem),i+k=n->I i Z m->∃ρ' m',iO get t Ay k i Z m=.ok (.nx ρ') m'/\I n ρ' m'
 | 0,i,Z,m,hi,h=>by
  have e:i=n:=by omega
  subst e;exact⟨Z,m,AA (hf Z m h),h⟩
 | k+1,i,Z,m,hi,h=>by
  let⟨x,Z1,Z2,m2,h1,h2,h3,h4⟩:=hs i Z m 'o' h;let⟨ρ',m',e,h5⟩:=sP I hs hf k (i+1) Z2 m2 'o' h4;refine⟨ρ',m',?_,h5⟩;rcases h3 with h3 | h3
  .rw[Dp h1 h2 h3,e]
  .rw[Dq h1 h2 h3,e]
theorem fh(I:Nat->Loc->Mem->List W->Prop)
  (hs:∀i Z m acc,i < n->I i Z m acc->∃x Z1,get m i=.it x/\aE t x Z=some Z1/\((∃m1 qB Z2 m2,test Z1 m=.ok true m1/\body Z1 m1 acc=.ok (qB,Z2) m2/\I (i+1) Z2 m2 qB)\/∃m1,test Z1 m=.ok false m1/\I (i+1) Z1 m1 acc))
  (hf:∀Z m acc,I n Z m acc->get m n=.fin) :
  ∀(k i:Nat) (Z:Loc) (m:Mem) (acc:List W),i+k=n->I i Z m acc->∃acc' ρ' m',dB get t test body k i Z m acc=.ok (acc',ρ') m'/\I n ρ' m' acc'
 | 0,i,Z,m,acc,hi,h=>by
  have e:i=n:=by omega
  subst e;exact⟨acc,Z,m,ya (hf Z m acc h),h⟩
 | k+1,i,Z,m,acc,hi,h=>by
  obtain⟨x,Z1,h1,h2,⟨m1,qB,Z2,m2,h3,h4,h5⟩ | ⟨m1,h3,h5⟩⟩:=hs i Z m acc 'o' h
  .let⟨a',ρ',m',e,h6⟩:=fh I hs hf k (i+1) Z2 m2 qB 'o' h5;exact⟨a',ρ',m',by rw[Az h1 h2 h3 h4,e],h6⟩
  .let⟨a',ρ',m',e,h6⟩:=fh I hs hf k (i+1) Z1 m1 acc 'o' h5;exact⟨a',ρ',m',by rw[uO h1 h2 h3,e],h6⟩
end
theorem ai{s:S}{r:Ss}{Z1:Loc}(h:fu C s Z m=.ok (.nx Z1) m1):aL C (.cons s r) Z m=aL C r Z1 m1:=by erw[gn,h,R.bind]
theorem aQ{s:S}{r:Ss}(h:fu C s Z m=.ok (.rt w) m1):aL C (.cons s r) Z m=.ok (.rt w) m1:=by erw[gn,h,R.bind]
theorem aT{f:Nat}{ws:List W}{d:Fn}(hd:p.fns[f]?=some d)(hl:ws.length=d.np)(h:aL (Cn p n) d.body (gA d.nl ws) m=.ok (.rt w) m1):D.runN p (n+1) f ws m=.ok w m1:=by
 rw[D.runN,hd];erw[hl,QL,h,R.bind,outF]
theorem kB{f:Nat}{ws:List W}{d:Fn}(hd:p.fns[f]?=some d)(hl:ws.length=d.np)(h:aL (Cn p n) d.body (gA d.nl ws) m=.ok (.nx Z) m1):D.runN p (n+1) f ws m=.ok .non m1:=by
 rw[D.runN,hd];erw[hl,QL,h,R.bind,outF]
theorem AB(h:ao C e Z m=.ok w m1):fu C (.asg (.pt (.var i)) e) Z m=.ok (.nx (Z.set i (some w))) m1:=by erw[fS,h,R.bind,gU,aE]
theorem aF{Z1:Loc}(h:ao C e Z m=.ok w m1)(hs:Z.set i (some w)=Z1):fu C (.asg (.pt (.var i)) e) Z m=.ok (.nx Z1) m1:=by rw[AB h,hs]
theorem uP{xs:List α}(h:xs.Nodup)(hi:i < xs.length):xs[i]∉xs.take i:=λ hm=>by
 rw[<-take_append_drop i xs] at h;exact(List.nodup_append.mp h).2.2 _ hm _ (QX (i:=0) (by rw[getElem?_drop,Nat.add_zero,QG hi])) rfl
theorem aR(h:ao C e Z m=.ok w m1):fu C (.ret e) Z m=.ok (.rt w) m1:=by erw[iP,h,R.bind]
theorem cQ(h:ao C e Z m=.ok w m1):fu C (.expr e) Z m=.ok (.nx Z) m1:=by erw[gy,h,R.bind]
theorem nh{o:E}{f:Str}{m3:Mem}{x:W}(h:ao C e Z m=.ok w m1)(h2:ao C o Z m1=.ok x m2)(h3:oR C.cs x f w m2=.ok () m3):fu C (.fas o f e) Z m=.ok (.nx Z) m3:=by erw[iQ,h,h2,h3,R.bind]
theorem sQ{t:E}{a:Ss}(h:bx C t Z m=.ok true m1):fu C (.ife t a b) Z m=aL C a Z m1:=by erw[iD,h,R.bind,QL]
theorem gR{t:E}{a:Ss}(h:bx C t Z m=.ok false m1):fu C (.ife t a b) Z m=aL C b Z m1:=by erw[iD,h,R.bind,Qv,QK]
theorem ay:aL C .nil Z m=.ok (.nx Z) m:=rfl
theorem HH{f:F}(h:cC C it Z m=.ok s m1)(h2:iO s.get t (fun Z m=>aL C b Z m) (s.len m1) 0 Z m1=.ok f m2):fu C (.for_ t it b) Z m=.ok f m2:=by erw[gz,h,R.bind,h2]
theorem cR(hI:cC C it Z m=.ok s m1)(hn:s.len m1=n)(I:Nat->Loc->Mem->Prop)(h0:I 0 Z m1)
  (hs:∀i Z m,i < n->I i Z m->∃x Z1 Z2 m2,s.get m i=.it x/\aE t x Z=some Z1/\(aL C b Z1 m=.ok (.nx Z2) m2\/aL C b Z1 m=.ok (.ct Z2) m2)/\I (i+1) Z2 m2) (hf:∀Z m,I n Z m->s.get m n=.fin) :
  ∃ρ' m',fu C (.for_ t it b) Z m=.ok (.nx ρ') m'/\I n ρ' m':=by
 let⟨ρ',m',h1,h2⟩:=sP (get:=s.get) (t:=t) (Ay:=fun Z m=>aL C b Z m) I hs hf n 0 Z m1 'o' h0;exact⟨ρ',m',HH hI (by rw[hn];exact h1),h2⟩
theorem gH{ifs:Es}{g:G}{ρ':Loc}{ws:List W}(h:cC C it Z m=.ok s m1)(h2:dB s.get t (fun Z m=>bw C ifs Z m) (fun Z m acc=>jj C g Z m acc) (s.len m1) 0 (br js Z) m1 []=.ok (ws,ρ') m2):ao C (.comp (.gen t js it ifs g)) Z m=.ok (.ref m2.length) (m2++[.lst ws]):=by
 erw[dj,jK,h,R.bind,h2,new]
theorem jQ(he:ao C e Z m=.ok (.int n) m1)(h:n<=1000000):cC C (.rng e) Z m=.ok (.rng 0 n) m1:=by
 erw[mL,he,R.bind];rw[Qs 'o',Q0]
theorem cg{lo:Int}(h:i < n):Src.get (.rng lo n) m i=.it (.int (lo+i)):=by erw[Src.get,h,QL]
theorem bO{lo:Int}(h:¬i < n):Src.get (.rng lo n) m i=.fin:=by erw[Src.get,h,QK]
theorem aO(h:i < xs.length):Src.get (.tup xs) m i=.it xs[i]:=by erw[Src.get,QG h]
theorem aK(h:¬i < xs.length):Src.get (.tup xs) m i=.fin:=by erw[Src.get,getElem?_eq_none (Nat.le_of_not_lt h)]
theorem jB(h:s.get m i=.it w):Src.get (.enm s) m i=.it (.tup [.int i,w]):=by erw[Src.get,h]
theorem iW(h:s.get m i=.fin):Src.get (.enm s) m i=.fin:=by erw[Src.get,h]
theorem Dr(h:m[n]?=@(.lst xs))(i:Nat):Src.get (.lst n) m i=Src.get (.tup xs) m i:=by erw[Src.get,getL,h]
theorem bI:∀ns:List Int,aj (ns.map W.int)=true
 | []=>rfl
 | n::r=>by simp[aj,av,bI r]
theorem dU:∀ns:List Str,aj (ns.map W.str)=true
 | []=>rfl
 | n::r=>by simp[aj,av,dU r]
theorem cj:∀{xs:List W},aj xs=true↔∀x∈xs,av x=true
 | []=>by simp[aj]
 | x::r=>by simp[aj,cj (xs:=r)]
theorem kR{f:α->W}(h:∀a,av (f a)=true)(xs:List α):aj (xs.map f)=true:=cj.mpr λ x hx=>by
 let⟨a,_,rfl⟩:=Qf.mp hx;exact h a
mutual
theorem sR(g:Nat->Option W):∀{w:W},av w=true->mH g w=some w
 | .non,_=>rfl
 | .bl _,_=>rfl
 | .int _,_=>rfl
 | .str _,_=>rfl
 | .tup xs,h=>by erw[mH,fj g (by simpa only[av] using h:aj xs=true)];rfl
 | .fz xs,h=>by erw[mH,fj g (by simpa only[av] using h:aj xs=true)];rfl
 | .obj c ks vs,h=>by erw[mH,fj g (by simpa only[av] using h:aj vs=true)];rfl
 | .ref _,h=>by simp[av] at h
theorem fj(g:Nat->Option W):∀{w:List W},aj w=true->ir g w=some w
 | [],_=>rfl
 | x::r,h=>by
  erw[aj,Qn] at h;erw[ir,sR g h.1,fj g h.2]
end
theorem AD(k:Nat):av w=true->j6 k w=true:=
 W.rec (motive_1:=λ w=>av w=true->j6 k w=true) (motive_2:=λ w=>aj w=true->gf k w=true) (λ _=>rfl) (λ _ _=>rfl) (λ _ _=>rfl) (λ _ _=>rfl) (λ _ i e=>i e) (λ _ i e=>i e) (λ _ _ _ i e=>i e) (λ _ e=>nomatch (show false=true from e)) (λ _=>rfl) (λ _ _ a b e=>Qt.mpr ⟨a (Qt.mp e).1,b (Qt.mp e).2⟩) w
theorem cB(k:Nat){w:List W}(e:aj w=true):gf k w=true:=by
 induction w with
 | nil=>rfl
 | cons x r ih=>exact Qt.mpr ⟨AD k (Qt.mp e).1,ih (Qt.mp e).2⟩
theorem AE{k l:Nat}(Ds:k<=l):j6 k w=true->j6 l w=true:=
 W.rec (motive_1:=λ w=>j6 k w=true->j6 l w=true) (motive_2:=λ w=>gf k w=true->gf l w=true) (λ _=>rfl) (λ _ _=>rfl) (λ _ _=>rfl) (λ _ _=>rfl) (λ _ i e=>i e) (λ _ i e=>i e) (λ _ _ _ i e=>i e) (λ _ e=>Q2 (QA (of_decide_eq_true e) Ds)) (λ _=>rfl) (λ _ _ a b e=>Qt.mpr ⟨a (Qt.mp e).1,b (Qt.mp e).2⟩) w
theorem kC{k l:Nat}(Ds:k<=l){w:List W}(e:gf k w=true):gf l w=true:=by
 induction w with
 | nil=>rfl
 | cons x r ih=>exact Qt.mpr ⟨AE Ds (Qt.mp e).1,ih (Qt.mp e).2⟩
theorem oZ{k l:Nat}(Ds:k<=l)(h:ju k o=true):ju l o=true:=by
 cases o with
 | lst xs=>exact kC Ds h
 | ins c fs=>exact kC Ds h
 | dic fs=>exact kC Ds h
 | set ks=>rfl
def Cm(m:Mem):Prop:=xH m.length m=true
theorem Cm.nil:Cm []:=rfl
theorem sS{k:Nat}:xH k m=true↔∀o∈m,ju k o=true:=by simp[xH,all_eq_true]
theorem Cm.set{p:Nat}(h:Cm m)(ho:ju m.length o=true):Cm (m.set p o):=by
 unfold Cm at h ⊢;rw[length_set,sS] at *;intro x hx;rcases mem_or_eq_of_mem_set hx with hx | rfl
 .exact h x hx
 .exact ho
theorem Cm.app{l:Mem}(h:Cm m)(hl:∀o∈l,ju (m.length+l.length) o=true):Cm (m++l):=by
 unfold Cm at h ⊢;rw[sS] at *;intro x hx;rw[Q5];rcases QW.mp hx with hx | hx
 .exact oZ 'o' (h x hx)
 .exact hl x hx
theorem Cm.push(h:Cm m)(ho:ju m.length o=true):Cm (m++[o]):=h.app λ x hx=>by
 rw[QY] at hx;subst hx;exact oZ 's' ho
theorem qC{l:Mem}{w1:W}(h:ao C e Z m=.ok w (m0++l))(hl:m0.length=m.length)(hm:Cm m0)(hw:mH (BA (m0++l) m0.length 8) w=some w1):ao C (.frz e) Z m=.ok w1 m0:=by
 have ht:(m0++l).take m.length=m0:=by rw[<-hl,take_left'];rfl
 have hc:m.length<=(m0++l).length/\xH m.length ((m0++l).take m.length)=true:=⟨by rw[Q5];omega,by rw[ht,<-hl];exact hm⟩;erw[fR,h,zI];rw[Qs hc,<-hl,hw];erw[hl,ht]
theorem lG{l:Mem}{j:Nat}(h:ao C e Z m=.ok (.ref j) (m0++l))(hl:m0.length=m.length)(hm:Cm m0)(hj:m0.length<=j)(hx:(m0++l)[j]?=@(.lst xs))(hp:aj xs=true):ao C (.frz e) Z m=.ok (.fz xs) m0:=by
 refine qC h hl hm ?_;erw[mH,BA,hx,fj _ hp,Option.map_some];rw[Qz 'o']
theorem bG(h:ao C e Z m=.ok (.ref m0.length) (m0++[.lst xs]))(hl:m0.length=m.length)(hm:Cm m0)(hp:aj xs=true):ao C (.frz e) Z m=.ok (.fz xs) m0:=
 lG h hl hm (Qk _) 's' hp
theorem Du(h:ao C e Z m=.ok w m0)(hl:m0.length=m.length)(hm:Cm m0)(hp:av w=true):ao C (.frz e) Z m=.ok w m0:=
 qC (l:=[]) (by rw[append_nil];exact h) hl hm (sR _ hp)
theorem bz{ws:List W}(h:aj ws=false):aC f ws m=f ws m:=by simp[aC,h]
theorem aG{ws:List W}(h:aj ws=true)(e:f ws []=.ok w m1)(hw:av w=true):aC f ws m=.ok w m:=by simp[aC,h,e,hw]
theorem dW{ws:List W}(h:aj ws=true)(e:f ws []=.ok w m1)(hw:av w=false):aC f ws m=.ok (BD m.length w) (m++m1.map (BE m.length)):=by simp[aC,h,e,hw]
theorem set_same{p:Nat}(h:m[p]?=some o):m.set p o=m:=by
 apply ext_getElem?;intro j
 by_cases e:p=j
 .subst e;rw[QN (Qd.mp h).1,h]
 .rw[QT e]
theorem jR(l:List α):l.filter (λ _=>true)=l:=List.filter_eq_self.mpr λ _ _=>rfl
theorem jS{get:Mem->Nat->Nx}{ifs:Es}{B:W->Loc}{p:W->Bool}{g:W->W}(hget:∀j (h:j < xs.length),get m j=.it xs[j])(NG:get m xs.length=.fin)
  (h0:∀x∈xs,aE t x Z=@(B x)) (h1:∀x∈xs,∀y∈xs,aE t y (B x)=@(B y)) (ht:∀x∈xs,bw C ifs (B x) m=.ok (p x) m) (he:∀x∈xs,p x=true->ao C e (B x) m=.ok (g x) m) (hl:xs.length<=lim) :
  ∃ρ',dB get t (fun Z m=>bw C ifs Z m) (fun Z m acc=>jj C (.elt e) Z m acc) xs.length 0 Z m []=.ok ((xs.filter p).map g,ρ') m:=by
 let⟨acc,ρ',m',e1,h4,h2,h3⟩:=fh (get:=get) (t:=t) (test:=fun Z m=>bw C ifs Z m) (body:=fun Z m acc=>jj C (.elt e) Z m acc) (n:=xs.length)
  (λ j Z1 m1 acc=>(∀x∈xs,aE t x Z1=@(B x))/\m1=m/\acc=((xs.take j).filter p).map g) (λ j Z1 m1 acc hj=>by
   rintro⟨hb,rfl,rfl⟩;have hx:=QI hj;have htk:xs.take (j+1)=xs.take j++[xs[j]]:=by rw[take_add_one,QG hj];rfl
   refine⟨xs[j],B xs[j],hget j hj,hb _ hx,?_⟩;have h5:=ht _ hx;cases hp:p xs[j] with
   | true=>
    rw[hp] at h5;refine .inl ⟨m1,((xs.take (j+1)).filter p).map g,B xs[j],m1,h5,?_,h1 _ hx,rfl,rfl⟩;have hlt:(((xs.take j).filter p).map g).length < lim:=by
     rw[Qi];have:=RX p (xs.take j);rw[Ri] at this;omega
    erw[jK,he _ hx hp,R.bind];rw[Qs hlt,htk,filter_append,Rv];simp[hp]
   | false=>
    rw[hp] at h5;refine .inr ⟨m1,h5,h1 _ hx,rfl,?_⟩;rw[htk,filter_append];simp[hp]) (fun Z1 m1 acc h=>by rw[h.2.1];exact NG) xs.length 0 Z m [] 'o' ⟨h0,rfl,by simp⟩
 subst h2 h3;exact⟨ρ',by rw[e1,take_length]⟩
theorem comp_map{g:W->W}(h:∀x∈xs,ao C e (Z.set i (some x)) m=.ok (g x) m)(hl:xs.length<=lim) :
  ∃ρ',dB (Src.get (.tup xs)) (.var i) (fun Z m=>bw C .nil Z m) (fun Z m acc=>jj C (.elt e) Z m acc) xs.length 0 Z m []=.ok (xs.map g,ρ') m:=by
 let⟨ρ',h'⟩:=jS (C:=C) (get:=Src.get (.tup xs)) (t:=.var i) (ifs:=.nil) (e:=e) (Z:=Z) (m:=m) (xs:=xs) (B:=λ x=>Z.set i (some x)) (p:=λ _=>true) (g:=g) (λ j hj=>aO hj) (aK 'o') (λ x _=>by erw[aE]) (λ x _ y _=>by erw[aE,set_set]) (λ x _=>by erw[bZ]) (λ x hx _=>h x hx) hl;rw[jR] at h';exact⟨ρ',h'⟩
theorem iA:∀n:Nat,bools (List.replicate n (W.bl true))=@(List.replicate n true)
 | 0=>rfl
 | n+1=>by simp[replicate_succ,bools,iA n]
theorem all_true(n:Nat):(List.replicate n true).all id=true:=by simp
theorem lH(xs:List α)(w:W):(xs.map λ _=>w)=List.replicate xs.length w:=map_const' ..
theorem ni(h:aM m w=some xs):∃s,srcOf m w=some s/\(∀i,s.get m i=Src.get (.tup xs) m i)/\s.len m=xs.length:=by
 cases w with
 | tup ys=>erw[aM] at h;cases h;exact⟨.tup xs,rfl,λ _=>rfl,rfl⟩
 | fz ys=>erw[aM,getL] at h;cases h;exact⟨.tup xs,rfl,λ _=>rfl,rfl⟩
 | ref n=>
  erw[aM,getL] at h;split at h
  .ext ys e;cases h;exact⟨.lst n,by simp[srcOf,getL,e],λ i=>Dr e i,by simp[Src.len,getL,e]⟩
  .cases h
 | _=>simp[aM,getL] at h
theorem dN(h:getL m w=some xs):aM m w=some xs:=by
 cases w with
 | tup ys=>cases h
 | _=>exact h
theorem g7{ws:List W}{r:W}(hm:f ws m=.ok r m)(h0:aj ws=true->f ws []=.ok r [])(hr:av r=true):aC f ws m=.ok r m:=by
 cases h:aj ws with
 | true=>exact aG h (h0 h) hr
 | false=>rw[bz h,hm]
theorem ja(h:av w=true):getL [] w=getL m w:=by
 cases w with
 | ref n=>simp[av] at h
 | _=>rfl
theorem fk(h:av w=true):aM [] w=aM m w:=by
 cases w with
 | ref n=>simp[av] at h
 | _=>rfl
theorem bK(h:aM m w=some xs):aZ .len [w] m=.ok (.int xs.length) m:=by
 cases w with
 | str z=>simp[aM,getL] at h
 | _=>erw[aZ,h]
theorem vQ{xs:List α}(h:i < xs.length):L2.kZ xs (i:Int)=some xs[i]:=by
 have h1:(0:Int)<=i:=by omega
 have h2:(i:Int) < xs.length:=by omega
 erw[L2.kZ,L2.nP,h1,h2,QL,Option.bind_some,Q0,QG h]
theorem fm(h:aM m w=some xs)(hi:i < xs.length):aX w (.int i) m=.ok xs[i] m:=by
 cases w with
 | str z=>simp[aM,getL] at h
 | _=>erw[aX,h,vQ hi]
theorem AF(h:aM m w=some xs):∃s,oS w m=.ok s m/\(∀i,s.get m i=Src.get (.tup xs) m i)/\s.len m=xs.length:=by
 let⟨s,h1,h2,h3⟩:=ni h;refine⟨s,?_,h2,h3⟩;have:zJ m w=some s:=by
  cases w with
  | str z=>simp[aM,getL] at h
  | _=>exact h1
 erw[oS,this]
theorem nj{l:Mem}(h:aM m w=some xs):aM (m++l) w=some xs:=by
 cases w with
 | ref n=>
  erw[aM,getL] at h ⊢;split at h
  .ext ys e;rw[Qw (Qd.mp e).1,e];exact h
  .cases h
 | _=>exact h
theorem sU(hm:Cm m)(hI:cC C it Z m=.ok s m)(hg:∀j,s.get m j=Src.get (.tup xs) m j)(hn:s.len m=xs.length)(hl:xs.length<=lim)(h:∀x∈xs,ao C e ((br js Z).set i (some x)) m=.ok (.bl true) m) :
  ao C (.blt .all %[|.frz (.comp (.gen (.var i) js it .nil (.elt e)))]) Z m=.ok (.bl true) m:=by
 let⟨ρ',hc⟩:=jS (C:=C) (get:=s.get) (t:=.var i) (ifs:=.nil) (e:=e) (Z:=br js Z) (m:=m) (xs:=xs) (B:=λ x=>(br js Z).set i (some x)) (p:=λ _=>true) (g:=λ _=>.bl true) (λ j hj=>by rw[hg,aO hj]) (by rw[hg];exact aK 'o') (λ x _=>by erw[aE]) (λ x _ y _=>by erw[aE,set_set]) (λ x _=>by erw[bZ]) (λ x hx _=>h x hx) hl;rw[jR,lH,<-hn] at hc;have hf:=bG (gH (js:=js) (ifs:=.nil) (g:=.elt e) hI (by rw[hn];rw[hn] at hc;exact hc)) rfl hm (cj.mpr λ x hx=>by rw[(List.mem_replicate.mp hx).2];rfl);rw[bC,aH,hf];erw[aP,aY,aZ,getL,iA,all_true]
theorem AG{B:W->Loc}(hm:Cm m)(hI:cC C it Z m=.ok s m)(hg:∀j (h:j < xs.length),s.get m j=.it xs[j])(hf:s.get m xs.length=.fin)(hn:s.len m=xs.length)(hl:xs.length<=lim)
  (h0:∀x∈xs,aE t x (br js Z)=@(B x)) (h1:∀x∈xs,∀y∈xs,aE t y (B x)=@(B y)) (h:∀x∈xs,ao C e (B x) m=.ok (.bl false) m) :
  ao C (.blt .any %[|.frz (.comp (.gen t js it .nil (.elt e)))]) Z m=.ok (.bl false) m:=by
 let⟨ρ',hc⟩:=jS (C:=C) (get:=s.get) (t:=t) (ifs:=.nil) (e:=e) (Z:=br js Z) (m:=m) (xs:=xs) (B:=B) (p:=λ _=>true) (g:=λ _=>.bl false) hg hf h0 h1 (λ x _=>by erw[bZ]) (λ x hx _=>h x hx) hl;rw[jR,lH,<-hn] at hc;have hf:=bG (gH (js:=js) (ifs:=.nil) (g:=.elt e) hI (by rw[hn];rw[hn] at hc;exact hc)) rfl hm (cj.mpr λ x hx=>by rw[(List.mem_replicate.mp hx).2];rfl);have hb:∀n:Nat,bools (List.replicate n (W.bl false))=some (List.replicate n false):=λ n=>by
  induction n with
  | zero=>rfl
  | succ n ih=>simp[replicate_succ,bools,ih]
 rw[bC,aH,hf];erw[aP,aY,aZ,getL,hb];simp
theorem jb{b:Bool}(he:bx C e Z m=(ao C e Z m).bind λ w m=>D.truthy m w)(h:ao C e Z m=.ok (.bl b) m1):bx C e Z m=.ok b m1:=by rw[he,h];rfl
theorem dH(f:Nat)(es:Es):ao (Cn p n) (.call f es) Z m=(bQ (Cn p n) es Z m).bind λ ws m=>aC (D.runN p n f) ws m:=rfl
theorem fZ(o:E)(f:Str)(es:Es):ao (Cn p n) (.mth o f es) Z m=(ao (Cn p n) o Z m).bind λ x m=>match ji p.cs x f m with
  | some i=>(bQ (Cn p n) es Z m).bind λ ws m=>aC (D.runN p n i) (x::ws) m
  | none=>.no:=rfl
theorem nk(a:E)(f:Str):ao (Cn p n) (.fld a f) Z m=(ao (Cn p n) a Z m).bind λ x m=>jJ p.cs x f m:=rfl
abbrev gg(A B:Int):O:=.lst [.int A,.int B]
def iH(m:Mem)(p:Nat):Prop:=∃A B,m[p]?=@(gg A B)
def PS(p:Nat)(m m':Mem):Prop:=∃A B,m'=m.set p (gg A B)
section
variable{m m' Ot:Mem}{p q:Nat}
theorem iH.refl(h:iH m p):PS p m m:=let ⟨A,B,e⟩:=h;⟨A,B,(set_same e).symm⟩
theorem PS.trans(h:PS p m m')(h':PS p m' Ot):PS p m Ot:=by
 let⟨A,B,rfl⟩:=h;let⟨A',B',rfl⟩:=h';exact⟨A',B',by rw[set_set]⟩
theorem PS.len(h:PS p m m'):m'.length=m.length:=by let⟨A,B,rfl⟩:=h;simp
theorem PS.gg(h:PS p m m')(hp:iH m p):iH m' p:=by
 let⟨A,B,rfl⟩:=h;let⟨A',B',e⟩:=hp;exact⟨A,B,QN (Qd.mp e).1⟩
theorem PS.cm(h:PS p m m')(hm:Cm m):Cm m':=by let⟨A,B,rfl⟩:=h;exact hm.set rfl
theorem PS.ne(h:PS p m m')(hq:p≠q):m'[q]?=m[q]?:=by let⟨A,B,rfl⟩:=h;exact QT hq
theorem iH.lt(h:iH m p):p < m.length:=let ⟨_,_,e⟩:=h;(Qd.mp e).1
theorem iH.app{l:Mem}(h:iH m p):iH (m++l) p:=let ⟨A,B,e⟩:=h;⟨A,B,by rw[Qw (Qd.mp e).1];exact e⟩
end
def Draws(f:List W->Mem->R W):Prop:=∀{m:Mem} {p:Nat} {many:Int},iH m p->0 < many->many < 1073741824->∃d m',f [.ref p,.int many] m=.ok (.int d) m'/\PS p m m'/\0<=d/\d < many
theorem pe[DecidableEq α]:∀{l k:List α},l.Nodup->(∀x∈l,x∈k)->l.length<=k.length
 | [],_,_,_=>RC _
 | x::l,k,hn,h=>by
  have hx:=h x Qu;have hn':=RT.mp hn;have:=pe (l:=l) (k:=k.erase x) hn'.2 λ y hy=>(mem_erase_of_ne (λ z=>by subst z;exact hn'.1 hy)).mpr (h y (Qj _ hy));rw[length_erase_of_mem hx] at this;have:0 < k.length:=length_pos_of_mem hx;simp;omega
theorem vR{z:Str}(h:z.cps.all (· < 0x110000)=true):toD (n+1) m (.str z)=some (.str z):=by erw[toD,h,QL]
theorem pB:∀{ws:List Str},(∀z∈ws,z.cps.all (· < 0x110000)=true)->dw (toD (n+1) m) (ws.map .str)=@(ws.map PyData.str)
 | [],_=>rfl
 | z::r,h=>by
  erw[QM,dw,vR (h z Qu),pB λ y hy=>h y (Qj _ hy)]
theorem Dv(a b:Str):PyData.eqv (.str a) (.str b)=decide (a=b):=by
 erw[PyData.eqv]
 by_cases h:a=b<;>simp[h]
theorem sV{z:Str}{ws:List Str}(hz:z.cps.all (· < 0x110000)=true)(hw:∀z∈ws,z.cps.all (· < 0x110000)=true):jH m (.str z) (ws.map .str)=.ok (decide (z∈ws)) m:=by
 erw[jH,vR hz,pB hw];congr 1;rw[any_map]
 induction ws with
 | nil=>simp
 | cons y r ih=>
  have:=ih λ z hz=>hw z (Qj _ hz);erw[any_cons,Function.comp,Dv,Rq] at this ⊢;rw[this]
  by_cases h:z=y
  .subst h;simp
  .have h':¬y=z:=λ e=>h e.symm;simp[h,h']
theorem uQ:toD (n+1) m (.fz xs)=(dw (toD n m) xs).map .list:=Eq.trans rfl rfl
theorem vS:toD (n+1) m (.tup xs)=(dw (toD n m) xs).map .tuple:=Eq.trans rfl rfl
theorem Dw{a:Nat}(h:m[a]?=@(.lst xs)):toD (n+1) m (.ref a)=(dw (toD n m) xs).map .list:=by
 erw[toD,getL,h]
theorem AH(h:getL m w=some xs):toD (n+1) m w=(dw (toD n m) xs).map .list:=by
 cases w with
 | ref a=>
  erw[getL] at h;split at h
  .ext ys e;cases h;exact Dw e
  .cases h
 | fz ys=>cases h;exact uQ
 | _=>cases h
theorem jc{k:Nat}:∀ns:List Int,dw (toD (k+1) m) (ns.map .int)=@(ns.map PyData.int)
 | []=>rfl
 | a::r=>by erw[QM,dw,jc r];rfl
theorem fU{J:Type}{f:W->Option J}{g:α->W}{h:α->J}:∀{xs:List α},(∀a∈xs,f (g a)=@(h a))->dw f (xs.map g)=@(xs.map h)
 | [],_=>rfl
 | a::r,hh=>by erw[QM,dw,hh a Qu,fU λ x hx=>hh x (Qj _ hx)]
end D
end
section
namespace D
open PySem PySem.Spec PyProof.Rows L2 List
variable{i:Nat}{o:Option (Option Value)}
abbrev Tb:Type:=Str×Stmt
def Tb.x(t:Tb):Str:=match t.2 with
 | .FunctionDef n _ _ _ _ _ _ _ _ _=>n
 | _=>""
def Tb.ps(t:Tb):List Str:=(i6 t.2).args.map (·.arg)
def Tb.nm(t:Tb):List (Str×NameKind):=(bf t.2).names
def Tb.N(t:Tb):List Str:=
 let a:=t.ps++(t.nm.filter λ p=>(p.2==.local||p.2==.cell)&&!t.ps.contains p.1).map (·.1)
 a++((bf t.2).more.filterMap λ p=>if p.1=("fast":Str) then (match p.2 with
  | .str x=>some x
  | _=>none) else none).filter λ x=>!a.contains x
def KP:ScopeKind->Bool
 | .function=>true
 | _=>false
def Tb.sc(t:Tb):Bool:=KP (bf t.2).kind&&!(bf t.2).isCoroutine&&!(bf t.2).isGenerator&&decide t.N.Nodup&&t.N.take t.ps.length==t.ps&&t.ps.all (λ x=>t.nm.lookup x==some .local||t.nm.lookup x==some .cell)&&t.nm.all λ y=>y.2 != .free
section
variable(K:PySem.W.Frag)(p:Pg)(fns:List (Str×(Nat×Nat)))(gl:List (Str×W))(fz:List Pos)(T:List Tb)
def Tb.a(t:Tb):Addr:=match (if t.1=("":Str) then PySem.W.nsIn K mainGlobals t.x else PySem.W.findIn K (.ref (aS K t.1)) t.x) with
 | some (some (.ref f))=>f
 | _=>0
def Tb.get{α:Type}(t:Tb)(f:FuncData->α)(d:α):α:=match K.lookup (t.a K) with
 | some o=>match o.data with
  | .func g=>f g
  | _=>d
 | none=>d
def Tb.fd(t:Tb):FuncData:=PySem.W.fnOf t.x (t.get K (·.qualname) "") (i6 t.2) (gm t.2) (bf t.2) .none .none .none (t.get K (·.pyModule) .none) none (t.get K (·.code) .none) .none
def ER(o:Option (Option Value))(f:Addr):Bool:=match o with
 | some (some (.ref g))=>g==f
 | _=>false
def LS(o:Option (Option Value)):Bool:=match o with
 | some none=>true
 | _=>false
def isA(o:Option (Option Value)):Bool:=match o with
 | some (some (.builtin b))=>b=="object.__setattr__"
 | _=>false
def Ou(o:Option (Option Value))(w:W):Bool:=match o with
 | some (some (.int i _))=>(match w with
  | .int j=>i==j
  | _=>false)
 | some (some (.str i _))=>(match w with
  | .str j=>i==j
  | _=>false)
 | _=>false
def KQ(C:Addr):Bool:=PySem.W.plainGet K C Str.empty&&PySem.W.hasDictIn K C&&PySem.W.plainOver K C&&isA (PySem.W.findIn K (.ref C) "__setattr__")
def LU(o:Option (Option Value))(s:String):Bool:=match o with
 | some (some (.builtin x))=>x==s
 | _=>false
def HJ(C:Addr):Bool:=KQ K C&&LU (PySem.W.findIn K (.ref C) "__class__") "object.__class__"&&LU (PySem.W.specialIn K (.builtin "object.__class__") "__get__") "getset_descriptor.__get__"&&PySem.W.takesIn K (.builtin "object.__class__")==some true&&PySem.W.mroIn K C (.type "object")==some true
def HK:Value->Tok
 | .int _ t=>t
 | .str _ t=>t
 | _=>0
def O6(w:W)(t:Tok):Value:=match w with
 | .int i=>.int i t
 | .str x=>.str x t
 | _=>.none
def vV:W->V
 | .int i=>.int i
 | .str x=>.str x
 | _=>.non
def NH:W->Bool
 | .int _=>true
 | .str _=>true
 | _=>false
def NI(x:Str):Array DictEntry×Nat:=match K.lookup (aS K x) with
 | some o=>match o.data with
  | .dict es n=>(es,n)
  | _=>(#[],0)
 | none=>(#[],0)
def sW(P:Params):List (Str×W)->List DictEntry->List DictEntry
 | kv::r,e::es=>⟨PyData.keyHash P kv.1,.str kv.1 (HK e.key),O6 kv.2 (HK e.val)⟩::sW P r es
 | _,_=>[]
def KR(P:Params)(y:Str×List (Str×W)):Obj:=⟨.type "dict",none,.dict (sW P y.2 (NI K y.1).1.toList).toArray (NI K y.1).2,#[]⟩
def KS(i:Nat)(x:Str)(q:Tb->Bool):Bool:=match T[i]? with
 | some t=>t.x==x&&q t
 | none=>false
def LV:Bool:=
 (qm.all λ x=>LS (PySem.W.nsIn K mainGlobals x))&&(gl.all λ y=>Ou (PySem.W.nsIn K mainGlobals y.1) y.2) &&
 (fns.all λ y=>KS T y.2.1 y.1 λ t=>t.ps.length==y.2.2&&ER (PySem.W.nsIn K mainGlobals y.1) (t.a K)) &&
 (p.cs.mths.all λ y=>KQ K (aS K y.1.1)&&KS T y.2 y.1.2 λ t=>ER (PySem.W.findIn K (.ref (aS K y.1.1)) y.1.2) (t.a K)&&PySem.W.isFn K (.ref (t.a K))) &&
 (p.cs.ini.all λ y=>PySem.W.makesIn K (aS K y.1)&&PySem.W.keepIn K (.ref (aS K y.1))&&ER (PySem.W.nsIn K mainGlobals y.1) (aS K y.1)&&KS T y.2 "__init__" λ t=>ER (PySem.W.findIn K (.ref (aS K y.1)) "__init__") (t.a K)&&PySem.W.isFn K (.ref (t.a K))) &&
 (p.cs.flds.all λ y=>KQ K (aS K y.1)&&LS (PySem.W.findIn K (.ref (aS K y.1)) y.2)) &&
 (p.cs.dic.all λ y=>ER (PySem.W.nsIn K mainGlobals y.1) (aS K y.1)&&y.2.all (λ kv=>NH kv.2)&&y.2.length==(NI K y.1).1.toList.length&&!(aS K y.1==sysModules)) &&
 (p.cs.isc.all λ x=>ER (PySem.W.nsIn K mainGlobals x) (aS K x)&&HJ K (aS K x)) &&
 T.all λ t=>PySem.W.keepIn K (.ref (t.a K))&&PySem.W.codeIn K (t.fd K).code (t.fd K).qualname
structure Stat:Prop where
 c:T.map (λ t=>(Dc (cS 60 ⟨t.N,t.nm,fns,gl,p.cs,fz⟩) (gm t.2)).map (Fn.mk t.ps.length t.N.length))=p.fns.map some
 s:T.all Tb.sc=true
 b:T.map (λ t q pm cd (f:Nat->Value)=>bindArgs (PySem.W.fnOf t.x q (i6 t.2) (gm t.2) (bf t.2) .none .none .none pm none cd .none) ⟨(List.range t.ps.length).map f,[]⟩)=T.map λ t q pm cd f=>pure (t.ps.zip ((List.range t.ps.length).map f))
end
variable{K:PySem.W.Frag}{p:Pg}{fns:List (Str×(Nat×Nat))}{gl:List (Str×W)}{fz:List Pos}{T:List Tb}
theorem uR{α J:Type}{f g:α->J}{l:List α}(h:l.map f=l.map g){x:α}(hx:l[i]?=some x):f x=g x:=by
 have e:=RM (λ l=>l[i]?) h;simpa[hx] using e
theorem jC{f:Addr}(h:ER o f=true):o=some @(.ref f):=by
 unfold ER at h;split at h
 .rw[eq_of_beq h]
 .cases h
theorem AI(h:LS o=true):o=some none:=by
 unfold LS at h;split at h
 .rfl
 .cases h
theorem HL(h:isA o=true):o=some @(.builtin "object.__setattr__"):=by
 unfold isA at h;split at h
 .rw[eq_of_beq h]
 .cases h
theorem uS{C:Addr}(h:KQ K C=true):yt K C:=by
 erw[KQ,Qn] at h;exact⟨h.1.1.1,h.1.1.2,h.1.2,HL h.2⟩
theorem AJ{s:String}(h:LU o s=true):o=some @(.builtin s):=by
 unfold LU at h;split at h
 .rw[eq_of_beq h]
 .cases h
theorem Dy{C:Addr}(h:HJ K C=true):GU K C:=by
 erw[HJ,Qn] at h;exact⟨uS h.1.1.1.1,AJ h.1.1.1.2,AJ h.1.1.2,eq_of_beq h.1.2,eq_of_beq h.2⟩
theorem qD{x:Str}{q:Tb->Bool}(h:KS T i x q=true):∃t,T[i]?=some t/\t.x=x/\q t=true:=by
 unfold KS at h;split at h
 .ext t e;rw[Qn] at h;exact⟨t,e,eq_of_beq h.1,h.2⟩
 .cases h
theorem AL(us:List Value):(List.range us.length).map (λ i=>us.getD i .none)=us:=by
 apply ext_getElem
 .simp
 .intro i h1 h2;simp[List.getD,h2]
theorem ES(S:Stat p fns gl fz T){t:Tb}(ht:T[i]?=some t){us:List Value}(hl:us.length=t.ps.length):bindArgs (t.fd K) ⟨us,[]⟩=pure (t.ps.zip us):=by
 have z:=congrFun (congrFun (congrFun (congrFun (uR S.b ht) (t.get K (·.qualname) "")) (t.get K (·.pyModule) .none)) (t.get K (·.code) .none)) (λ i=>us.getD i .none);rw[<-hl,AL] at z;exact z
theorem vU(S:Stat p fns gl fz T)(hf:T.map (λ t=>(K.lookup (t.a K)).map Obj.data)=T.map λ t=>some (.func (t.fd K)))(hk:T.all (λ t=>PySem.W.keepIn K (.ref (t.a K))&&PySem.W.codeIn K (t.fd K).code (t.fd K).qualname)=true)
 {t:Tb} (ht:T[i]?=some t):FD K p fns gl fz i t.x (t.a K) (t.fd K) t.ps:=by
 have hm:=QX ht;have k:=Qx.mp hk t hm;rw[Qn] at k;have e:=uR hf ht;rw[Qe] at e;let⟨o,e1,e2⟩:=e;let⟨oc,od,da,osl⟩:=o;cases e2;have F:=Gu (st:=t.2) e1 k.2 k.1;have s:=Qx.mp S.s t hm;erw[Tb.sc,Qn,Bool.not_eq_true',Q7,all_eq_true,Bool.or_eq_true,Ro,bne_iff_ne] at s;have c:(Dc (cS 60 ⟨t.N,t.nm,fns,gl,p.cs,fz⟩) (gm t.2)).map (Fn.mk t.ps.length t.N.length)=p.fns[i]?:=by
  have z:=RM (λ l=>l[i]?) S.c;erw[getElem?_map,ht,Option.map_some] at z;cases hp:p.fns[i]? with
  | none=>rw[hp] at z;cases z
  | some d=>rw[hp] at z;exact Ru z
 have hi:i < p.fns.length:=by
  have z:=RM List.length S.c;erw[Qi] at z;have:=(Qd.mp ht).1;omega
 rw[QG hi,Qe] at c;let⟨b,c1,c2⟩:=c;refine⟨_,t.2,t.N,b,F,⟨?_,s.1.1.1.1.1.2,s.1.1.1.1.2,s.1.1.1.2,s.1.1.2,s.1.2,s.2⟩,c1,by rw[QG hi,<-c2],Binds.all λ us hl=>?_⟩
 .have z:=s.1.1.1.1.1.1;unfold KP at z;split at z
  .assumption
  .cases z
 .exact ES S ht hl
theorem sX{P:Params}:∀(kvs:List (Str×W)) (es:List DictEntry),PySem.W.KeysLit P (sW P kvs es)
 | [],_=>by unfold sW;rw[PySem.W.KeysLit.eq_def];trivial
 | _::_,[]=>by unfold sW;rw[PySem.W.KeysLit.eq_def];trivial
 | kv::r,e::es=>by
  unfold sW;rw[PySem.W.KeysLit.eq_def];exact⟨⟨_,_,rfl,rfl⟩,sX r es⟩
theorem sY{P:Params}{x:Str}:∀(kvs:List (Str×W)) (es:List DictEntry),kvs.length=es.length->kvs.all (λ kv=>NH kv.2)=true->iF ((kvs.map λ kv=>(kv.1,vV kv.2)).lookup x) (((sW P kvs es).find? λ e=>Value.isStrOf x e.key).map (·.val))
 | [],[],_,_=>trivial
 | [],_::_,h,_=>by simp at h
 | _::_,[],h,_=>by simp at h
 | (k,w)::r,e::es,h,hc=>by
  rw[all_cons,Qn] at hc;have ih:=sY (P:=P) (x:=x) r es (by simpa using h) hc.2;unfold sW;rw[QM,Qy,find?_cons];have e1:Value.isStrOf x (Value.str k (HK e.key))=(k==x):=rfl;erw[e1]
  by_cases hk:k=x
  .subst hk;erw[BEq.rfl,Option.map_some];cases w<;>first | exact⟨_,rfl⟩ | cases hc.1
  .have h1:(x==k)=false:=by simpa using λ e=>hk e.symm
   have h2:(k==x)=false:=by simpa using hk
   rw[h1,h2];exact ih
theorem ET{J:List Addr}{H:Hp}:∀(kvs:List (Str×W)),kvs.all (λ kv=>NH kv.2)=true->iE K J H kvs (kvs.map λ kv=>(kv.1,vV kv.2))
 | [],_=>.nil
 | (k,w)::r,hc=>by
  rw[all_cons,Qn] at hc;refine .cons ?_ (ET r hc.2);cases w<;>first | exact .int _ | exact .str _ | cases hc.1
theorem KU{h:Heap}{w:World}(hdc:p.cs.dic.map (λ y=>K.lookup (aS K y.1))=p.cs.dic.map λ y=>some (KR K w.params y)){mg:Str->Option Value}(X:K.In h)(G:h.Ns mainGlobals mg)(S:Stat p fns gl fz T)(hf:T.map (λ t=>(K.lookup (t.a K)).map Obj.data)=T.map λ t=>some (.func (t.fd K)))(hc:LV K p fns gl T=true):FA K w mg p fns gl fz:=by
 erw[LV,Qn] at hc;let⟨⟨⟨⟨⟨⟨⟨⟨c1,c2⟩,c3⟩,c4⟩,c5⟩,c6⟩,c8⟩,c9⟩,c7⟩:=hc;have c7:T.all (λ t=>PySem.W.keepIn K (.ref (t.a K))&&PySem.W.codeIn K (t.fd K).code (t.fd K).qualname)=true:=c7;rw[all_eq_true] at c1 c2 c3 c4 c5 c6 c8 c9;have kp:∀{i:Nat} {t:Tb},T[i]?=some t->PySem.W.keepIn K (.ref (t.a K))=true:=λ ht=>(Qt.mp (Qx.mp c7 _ (QX ht))).1;refine⟨λ x hx=>PySem.W.mg_none_of X G (AI (c1 x hx)),λ {x w} hx=>?_,λ {x i np} hx=>?_,λ {c x i} hx=>?_,λ {c i} hx=>?_,λ {c x} hx=>?_,λ {x kvs} hx=>?_,λ {x} hx=>?_⟩
 .have z:=c2 _ (lookup_mem hx);unfold Ou at z;split at z
  .ext i t e;split at z
   .ext j ej;cases ej;cases eq_of_beq z;exact⟨_,.int _,PySem.W.mg_of X G e,⟨_,rfl⟩,λ _ _=>.int _⟩
   .cases z
  .ext i t e;split at z
   .ext j ej;cases ej;cases eq_of_beq z;exact⟨_,.str _,PySem.W.mg_of X G e,⟨_,rfl⟩,λ _ _=>.str _⟩
   .cases z
  .cases z
 .let⟨t,e1,rfl,e3⟩:=qD (c3 _ (lookup_mem hx));rw[Qn] at e3;exact⟨t.a K,_,t.ps,eq_of_beq e3.1,vU S hf c7 e1,PySem.W.mg_of X G (jC e3.2)⟩
 .have z:=c4 _ (sO hx);rw[Qn] at z;let⟨t,e1,rfl,e3⟩:=qD z.2;rw[Qn] at e3;exact⟨t.a K,_,t.ps,vU S hf c7 e1,uS z.1,jC e3.1,e3.2,kp e1⟩
 .have z:=c5 _ (lookup_mem hx);erw[Qn] at z;let⟨t,e1,e2,e3⟩:=qD z.2;rw[Qn] at e3;exact⟨t.a K,_,t.ps,e2▸vU S hf c7 e1,⟨z.1.1.1,jC e3.1,e3.2,z.1.1.2⟩,PySem.W.mg_of X G (jC z.1.2)⟩
 .have z:=c6 _ (List.contains_iff_mem.mp hx);rw[Qn] at z;exact⟨uS z.1,AI z.2⟩
 .have hm:=lookup_mem hx;have z:=c8 _ hm;erw[Qn,Ro,Bool.not_eq_true'] at z;let⟨⟨⟨z1,z2⟩,z3⟩,z4⟩:=z;let⟨i,hi⟩:=getElem?_of_mem hm;have e:=uR hdc hi;refine⟨aS K x,kvs.map λ kv=>(kv.1,vV kv.2),PySem.W.mg_of X G (jC z1),⟨⟨_,_,e,?_,λ y=>?_⟩,z4⟩,fun J H=>ET kvs z2⟩
  .exact sX _ _
  .unfold findBy;rw[find?_toArray];exact sY kvs _ z3 z2
 .have z:=c9 _ (List.contains_iff_mem.mp hx);rw[Qn] at z;exact⟨PySem.W.mg_of X G (jC z.1),Dy z.2⟩
theorem KW{l:PySem.W.OpenLaw}{w:World}{h:Heap}{mg:Str->Option Value}{fa:Addr}{x:Str}{t:Tb}(X:K.In h)(G:h.Ns mainGlobals mg)(O7:mg "law"=@(.ref fa))(S:Stat p fns gl fz T)(hi:fns.lookup ("law":Str)=some (i,1))(ht:T[i]?=some t)(hx:t.ps=[x])
  (hf:T.map (λ t=>(K.lookup (t.a K)).map Obj.data)=T.map λ t=>some (.func (t.fd K))) (hc:LV K p fns gl T=true) (hdc:p.cs.dic.map (λ y=>K.lookup (aS K y.1))=p.cs.dic.map λ y=>some (KR K w.params y)) :
  ∃fd:FuncData,(∀(s:Shared) (v:Value),BindsTo s fd ⟨[v],[]⟩ [(x,v)])/\∀base:Heap,K.In base->base.Ns mainGlobals mg->gX l.prog w K mg base xj 80 fa fd [x] (yv K ⟨l.prog,w⟩ 1 (runN p 40 i)):=by
 have hc':=hc;erw[LV,Qn] at hc';let⟨⟨⟨⟨⟨⟨⟨⟨c1,c2⟩,c3⟩,c4⟩,c5⟩,c6⟩,c8⟩,c9⟩,c7⟩:=hc';let⟨t',e1,e2,e3⟩:=qD (Qx.mp c3 _ (lookup_mem hi));cases ht.symm.trans e1;rw[Qn] at e3;cases O7.symm.trans (PySem.W.mg_of X G (jC e3.2));have z:=vU S hf c7 ht;rw[hx] at z;refine⟨t.fd K,λ s v=>.of_eq ?_,λ base _ _=>sound (KU hdc X G S hf hc) 40 z⟩;have z:=ES (K:=K) S ht (us:=[v]) (by rw[hx];rfl);rw[hx] at z;exact z
end D
end
section
namespace My
open PySem L2 D List
def NJ:Ss:=%[|.asg (.pt @1) (.frz (.comp (.gen @3 [3,4] @1 .nil (.gen @4 [] @2 .nil (.elt (.bin .Add @3 (.tup %[|@4])))))))]
def b0:Ss:=%[.asg (.pt @1) (.lst %[|.tup .nil]),.for_ @2 @0 NJ,|.ret @1]
def b1:Ss:=%[|.ret (.call 0 %[|.frz (.comp (.gen (.tup %[@2,|@3]) [2,3] (.zip %[@0,|@1]) .nil (.elt (.ife (.cmp .Eq @2 @3) (.lst %[|@2]) (.lst %[@(0),|@(1)])))))])]
def b2:Ss:=%[|.ife (.or (.cmp .NotEq (.blt .len %[|@1]) (.blt .len %[|.mth @0 "states" .nil])) (.not (.call 3 %[|@1]))) %[|.never] .nil]
def b3:Ss:=%[.asg (.pt @1) (.blt .len %[|.idx @0 @(0)]),.ife (.or (.not (.chain .LtE .LtE @(1) @1 @(4))) (.not (.blt .all %[|.frz (.comp (.gen @2 [2] @0 .nil (.elt (.cmp .Eq (.blt .len %[|@2]) @1))))]))) %[|.ret (.cst (.bl false))] .nil,|.ret (.and (.blt .all %[|.frz (.comp (.gen @2 [2,3] @0 .nil (.gen @3 [] @2 .nil (.elt (.cmp .In @3 (.tup %[@(0),|@(1)]))))))]) (.cmp .Eq (.fus .pV @0) (.blt .len %[|@0])))]
def HM:Ss:=%[.ife (.or (.not (.call 5 %[|@3])) (.cmp .In @3 @1)) %[|.ret @2] .nil,|.expr (.meth @1 "add" %[|@3])]
def b4:Ss:=%[.asg (.pt @1) .set0,.for_ (.tup %[@2,|@3]) (.enm @0) HM,|.ret (.cst .non)]
def b5:Ss:=%[|.ret (.and (.chain .LtE .LtE @(1) (.blt .len %[|@0]) @(8)) (.blt .all %[|.frz (.comp (.gen @1 [1] @0 .nil (.elt (.chain .LtE .LtE (.cst (.str "a")) @1 (.cst (.str "z"))))))]))]
def b6:Ss:=%[.expr (.call 16 %[@1,@2,@3,@4,|@5]),.fas @0 "key_list" (.frz (.blt .list %[|@1])),.fas @0 "state_list" (.frz (.blt .list %[|@2])),.fas @0 "lamp_list" (.frz (.blt .list %[|@3])),.fas @0 "row_list" (.frz (.comp (.gen @6 [6] @4 .nil (.elt (.blt .tuple %[|@6]))))),|.fas @0 "light_list" (.frz (.blt .list %[|@5]))]
def b7:Ss:=%[|.ret (.frz (.blt .list %[|.fld @0 "key_list"]))]
def b8:Ss:=%[|.ret (.frz (.blt .list %[|.fld @0 "state_list"]))]
def b9:Ss:=%[|.ret (.frz (.blt .list %[|.fld @0 "lamp_list"]))]
def LW:Ss:=%[|.ret (.call 13 %[|.fld @0 "key_list"])]
def LX:Ss:=%[|.ret (.idx (.idx (.fld @0 "row_list") @1) @2)]
def LY:Ss:=%[|.ret (.idx (.fld @0 "light_list") @1)]
def LZ:Ss:=%[|.ret (.bin .LShift @(1) (.blt .len %[|@0]))]
def L0:Ss:=%[|.ret (.frz (.comp (.gen @2 [2] (.rng (.blt .len %[|.mth @0 "states" .nil])) .nil (.elt (.tup %[@2,|.mth @0 "goes" %[@2,|@1]])))))]
def L1:Ss:=%[.asg (.pt @2) (.call 14 %[@0,|@1]),|.ret (.frz (.comp (.gen @3 [3,4] @2 .nil (.gen @4 [] @2 %[|.and (.cmp .Lt (.idx @3 @(0)) (.idx @4 @(0))) (.cmp .NotEq (.idx @3 @(1)) (.idx @4 @(1)))] (.elt (.tup %[@3,|@4]))))))]
def L3:Ss:=%[.asg (.pt @5) (.call 4 %[|.frz (.bin .Add (.bin .Add @0 @1) @2)]),.ife (.cmp .IsNot @5 (.cst .non)) %[|.never] .nil,.expr (.call 17 %[@0,@1,|@2]),.expr (.call 18 %[.cst (.str "row"),@3,.blt .len %[|@1],.call 13 %[|@0],|.blt .len %[|@1]]),.expr (.call 18 %[.cst (.str "lights"),@4,.blt .len %[|@1],.blt .len %[|@2],|@(2)]),|.expr (.call 19 %[|@3])]
def L4:Ss:=%[.ife (.cmp .Gt (.blt .len %[|@0]) @(2)) %[|.never] .nil,.ife (.not (.chain .LtE .LtE @(2) (.blt .len %[|@1]) @(4))) %[|.never] .nil,|.ife (.cmp .Gt (.blt .len %[|@2]) @(2)) %[|.never] .nil]
def AM:Ss:=%[|.ife (.or (.cmp .GtE @5 (.blt .len %[|@1])) (.or (.cmp .NotEq (.blt .len %[|.idx @1 @5]) @3) (.not (.blt .all %[|.frz (.comp (.gen @6 [6] (.idx @1 @5) .nil (.elt (.chain .LtE .Lt @(0) @6 @4))))])))) %[|.never] .nil]
def L5:Ss:=%[.for_ @5 (.rng @2) AM,|.ife (.cmp .Gt (.blt .len %[|@1]) @2) %[|.never] .nil]
def AN:Ss:=%[|.ife (.blt .any %[|.frz (.comp (.gen (.tup %[@3,|@4]) [3,4] (.enm @2) .nil (.elt (.cmp .NotEq (.idx (.idx @0 @4) @3) @4))))]) %[|.never] .nil]
def L6:Ss:=%[|.for_ (.tup %[@1,|@2]) (.enm @0) AN]
def vW:Ss:=%[.asg (.pt @6) (.call 21 %[@1,@4,|@5]),|.ife (.cmp .IsNot @6 (.cst .non)) %[|.expr (.meth @2 "append" %[|.tup %[@3,.idx @4 @(0),.idx @5 @(0),|@6]])] .nil]
def vX:Ss:=%[|.for_ (.tup %[@4,|@5]) (.call 15 %[@0,|@3]) vW]
def L7:Ss:=%[.expr (.call 2 %[@0,|@1]),.asg (.pt @2) (.lst .nil),.for_ @3 (.rng (.mth @0 "letters" .nil)) vX,|.ret @2]
def L8:Ss:=%[.asg (.tup %[.pt @3,|.pt @4]) @1,.asg (.tup %[.pt @5,|.pt @6]) @2,.asg (.pt @7) (.call 1 %[.idx @0 @5,|.idx @0 @6]),|.ret (.fus .mind (.frz (.comp (.gen @8 [8] (.call 1 %[.idx @0 @3,|.idx @0 @4]) %[|.cmp .In @8 @7] (.elt @8)))))]
def Ma:Ss:=%[.expr (.call 2 %[@0,|@1]),.asg (.tup %[.pt @3,.pt @4,.pt @5,|.pt @6]) @2,|.ret (.tup %[.call 23 %[.idx @1 @4,|@6],|.call 23 %[.idx @1 @5,|@6]])]
def KY:Ss:=%[|.ife (.cmp .NotEq (.idx @0 @3) @4) %[|.expr (.meth @2 "append" %[|.bin .Add (.slc @1 .none (.some (.bin .Add @3 @(1)))) (.slc @0 (.some (.bin .Add @3 @(1))) .none)])] .nil]
def O8:Ss:=%[.asg (.pt @2) (.lst %[|@0]),.for_ (.tup %[@3,|@4]) (.enm @1) KY,|.ret @2]
def NK:Ss:=%[.ife (.cmp .Lt @1 (.blt .len %[|@0])) %[|.ret (.idx @0 @1)] .nil,|.ret @(0)]
def Mb:Ss:=%[.asg (.pt @2) (.call 24 %[@0,|@1]),|.ret (.lst %[.blt .max %[@(0),|.bin .Sub (.blt .abs %[|@2]) (.bin .Pow @(10) @(18))],|.bin .Add (.bin .Add (.bin .Mod (.blt .abs %[|@2]) @(2147483629)) (.bin .Mult @(977) @1)) @(1)])]
def NL:Ss:=%[.ife (.cmp .Gt (.idx @0 @(0)) @(0)) %[.asg (.tup %[.sub @0 @(0),|.pt @2]) (.blt .divmod %[.idx @0 @(0),|@1]),|.ret @2] .nil,.asg (.sub @0 @(1)) (.bin .Mod (.bin .Add (.bin .Mult (.idx @0 @(1)) @(48271)) @(12345)) @(2147483647)),|.ret (.bin .Mod (.bin .FloorDiv (.bin .Mod (.bin .Mult (.idx @0 @(1)) (.idx @0 @(1))) @(2147483629)) @(7)) @1)]
def vY:Ss:=%[|.asg (.pt @2) (.bin .Add @2 (.idx (.cst (.str "abcdefghijklmnopqrstuvwxyz")) (.call 26 %[@0,|@(26)])))]
def Mc:Ss:=%[.asg (.pt @2) (.cst (.str "")),.for_ @3 (.rng (.bin .Add @(1) (.call 26 %[@0,|@(8)]))) vY,.ife (.cmp .In @2 @1) %[.asg (.pt @4) (.frz (.comp (.gen @5 [5] (.cst (.str "abcdefghijklmnopqrstuvwxyz")) .nil (.elt (.bin .Add (.slc @2 .none (.some @(7))) @5))))),|.asg (.pt @2) (.idx (.frz (.comp (.gen @6 [6] @4 %[|.cmp .NotIn @6 @1] (.elt @6)))) @(0))] .nil,.expr (.meth @1 "append" %[|@2]),|.ret @2]
def HN:Ss:=%[.asg (.pt @4) (.frz (.comp (.gen @5 [5] (.rng @3) %[|.cmp .Eq (.bin .Mod (.bin .FloorDiv @1 (.bin .LShift @(1) @5)) @(2)) @(1)] (.elt @5)))),.ife (.cmp .In @2 @4) %[|.ret @2] .nil,|.ret (.idx @4 (.call 26 %[@0,|.blt .len %[|@4]]))]
def Me:Ss:=%[.asg (.pt @3) (.frz (.comp (.gen @4 [4] (.rng @2) .nil (.elt (.bin .Add @(1) (.call 26 %[@0,|.bin .Sub (.bin .LShift @(1) @1) @(1)])))))),|.ret (.frz (.comp (.gen @5 [5] (.rng @1) .nil (.elt (.frz (.comp (.gen @6 [6] @3 .nil (.elt (.call 28 %[@0,@6,@5,|@1])))))))))]
def Mf:Ss:=%[.asg (.pt @1) (.lst .nil),.asg (.pt @2) (.bin .Add @(2) (.call 26 %[@0,|@(3)])),.asg (.pt @3) (.frz (.lst %[.call 26 %[@0,|@(3)],@2,|.call 26 %[@0,|@(3)]])),.asg (.pt @4) (.frz (.call 29 %[@0,@2,|.bin .LShift @(1) (.idx @3 @(0))])),.asg (.pt @5) (.frz (.comp (.gen @7 [7] @3 .nil (.elt (.frz (.comp (.gen @8 [8] (.rng @7) .nil (.elt (.call 27 %[@0,|@1]))))))))),.asg (.pt @6) (.frz (.comp (.gen @9 [9] (.rng @2) .nil (.elt (.blt .tuple %[|.frz (.comp (.gen @10 [10] (.idx @5 @(2)) .nil (.elt (.call 26 %[@0,|@(2)]))))]))))),|.ret (.tup %[.frz (.make "Table" %[.idx @5 @(0),.idx @5 @(1),.idx @5 @(2),@4,|@6]),|@4])]
def KZ:Ss:=%[|.asg (.pt @1) (.bin .Add (.frz (.comp (.gen @3 [3] @1 .nil (.elt (.bin .Add @3 (.tup %[|@(0)])))))) (.frz (.comp (.gen @3 [3] @1 .nil (.elt (.bin .Add @3 (.tup %[|@(1)])))))))]
def O9:Ss:=%[.asg (.pt @1) (.lst %[|.tup .nil]),.for_ @2 (.rng @0) KZ,|.ret (.blt .sorted %[|@1])]
def Mg:Ss:=%[.asg (.pt @2) (.bin .Add @(1) (.blt .int %[|.cmp .Gt @1 @(2)])),.asg (.pt @3) (.call 31 %[|.bin .Add @2 (.call 26 %[@0,|.bin .Sub @(5) @2])]),|.ret (.frz (.comp (.gen @4 [4] (.rng @1) .nil (.elt (.meth @3 "pop" %[|.call 26 %[@0,|.blt .len %[|@3]]])))))]
def K0:Ss:=%[|.ife (.and (.cmp .Eq (.idx @1 @3) (.idx @2 @3)) (.cmp .NotEq (.idx @0 @3) (.idx @1 @3))) %[|.ret (.cst (.bl false))] .nil]
def Pa:Ss:=%[.for_ @3 (.rng (.blt .len %[|@1])) K0,|.ret (.cst (.bl true))]
def vZ:Ss:=%[|.ife (.and (.call 33 %[@4,.idx @0 (.idx @1 @(0)),|.idx @0 (.idx @1 @(1))]) (.call 33 %[@4,.idx @0 (.idx @2 @(0)),|.idx @0 (.idx @2 @(1))])) %[|.expr (.meth @3 "append" %[|@4])] .nil]
def Mh:Ss:=%[.asg (.pt @3) (.lst .nil),.for_ @4 (.frz (.call 31 %[|.blt .len %[|.idx @0 @(0)]])) vZ,|.ret @3]
def v7:Ss:=%[.asg (.pt @6) (.frz (.call 34 %[@1,.tup %[@4,|.idx (.idx @0 @4) @3],|.tup %[@5,|.idx (.idx @0 @5) @3]])),|.ife (.and (.cmp .NotEq (.idx (.idx @0 @4) @3) (.idx (.idx @0 @5) @3)) (.cmp .NotEq @6 (.frz (.lst .nil)))) %[|.expr (.meth @2 "append" %[|.tup %[@3,@4,@5,|.idx @6 @(0)]])] .nil]
def v8:Ss:=%[|.for_ @5 (.rng2 (.bin .Add @4 @(1)) (.blt .len %[|@0])) v7]
def v9:Ss:=%[|.for_ @4 (.rng (.blt .len %[|@0])) v8]
def Mi:Ss:=%[.asg (.pt @2) (.lst .nil),.for_ @3 (.rng (.blt .len %[|.idx @0 @(0)])) v9,|.ret @2]
def Mj:Ss:=%[.asg (.pt @2) (.lrng @1),|.ret (.frz (.comp (.gen @3 [3] (.rng @1) .nil (.elt (.meth @2 "pop" %[|.call 26 %[@0,|.blt .len %[|@2]]])))))]
def Ml:Ss:=%[|.ret (.blt .tuple %[|.frz (.comp (.gen @3 [3] @1 .nil (.elt (.bin .Mod (.bin .Add (.idx @0 @3) (.idx @2 @3)) @(2)))))])]
def Mm:Ss:=%[|.ret (.frz (.comp (.gen @1 [1] @0 .nil (.elt (.slc @1 .none (.some @(3)))))))]
def Mn:Ss:=%[.asg (.tup %[.pt @3,|.pt @4]) (.frz (.call 22 %[@0,@1,|@2])),|.ret (.frz (.lst %[.blt .len %[|@3],|.blt .len %[|@4]]))]
def wc:Ss:=%[|.ife (.cmp .Eq (.call 37 %[.idx @9 @(3),@5,|@6]) (.idx @10 @(3))) %[|.ife (.cmp .NotEq (.call 39 %[@1,@3,|@9]) (.call 39 %[@1,@7,|@10])) %[|.ret (.cst (.bl false))] .nil] .nil]
def Mp:Ss:=%[.asg (.pt @5) (.call 36 %[@0,|.blt .len %[|.idx @3 @(0)]]),.asg (.pt @6) (.frz (.comp (.gen @11 [11] @5 .nil (.elt (.call 26 %[@0,|@(2)]))))),.asg (.pt @7) (.frz (.comp (.gen @12 [12] @3 .nil (.elt (.call 37 %[@12,@5,|@6]))))),.asg (.pt @8) (.frz (.call 20 %[@1,|@7])),.ife (.or (.cmp .NotEq (.call 38 %[|@8]) (.call 38 %[|@4])) (.cmp .NotEq @8 (.frz (.call 35 %[@2,|@7])))) %[|.ret (.cst (.bl false))] .nil,.for_ (.tup %[@9,|@10]) (.zip %[@4,|@8]) wc,|.ret (.cst (.bl true))]
def Mq:Ss:=%[.asg (.pt @4) (.call 26 %[@0,|.blt .len %[|.idx @2 @(0)]]),.ife (.cmp .Eq (.blt .len %[|.idx @2 @(0)]) @(4)) %[|.ret (.cst (.bl true))] .nil,.asg (.pt @5) (.frz (.call 20 %[@1,|.frz (.comp (.gen @6 [6] @2 .nil (.elt (.bin .Add @6 (.tup %[|.idx @6 @4])))))])),|.ret (.cmp .Eq @5 (.frz (.comp (.gen @7 [7] @3 .nil (.elt (.bin .Add (.slc @7 .none (.some @(3))) (.tup %[|.bin .Add (.idx @7 @(3)) (.tup %[|.idx (.idx @7 @(3)) @4])])))))))]
def we:Ss:=%[.asg (.tup %[.pt @16,|.pt @17]) (.frz (.blt .sorted %[|.lst %[.meth @6 "lindex" %[|@8],|.meth @6 "lindex" %[|@14]]])),|.expr (.meth @13 "append" %[|.tup %[.meth @7 "lindex" %[|@10],@16,@17,|@15]])]
def Mr:Ss:=%[.asg (.pt @5) (.blt .len %[|@2]),.asg (.pt @6) (.call 36 %[@0,|@5]),.asg (.pt @7) (.frz (.lrng (.blt .len %[|.idx @2 @(0)]))),.ife (.and (.cmp .Eq (.blt .len %[|@7]) @(4)) (.cmp .Eq (.call 26 %[@0,|@(2)]) @(1))) %[|.asg (.pt @7) (.frz (.lst %[@(0),@(2),@(1),|@(3)]))] .nil,.asg (.pt @9) (.frz (.comp (.gen @8 [8] @6 .nil (.elt (.idx (.mth @1 "states" .nil) @8))))),.asg (.pt @11) (.frz (.comp (.gen @8 [8] @6 .nil (.elt (.frz (.comp (.gen @10 [10] @7 .nil (.elt (.meth @6 "lindex" %[|.idx (.idx @2 @8) @10]))))))))),.asg (.pt @12) (.frz (.make "Table" %[.mth @1 "key_words" .nil,@9,.mth @1 "lamps" .nil,@11,|.frz (.comp (.gen @8 [8] @6 .nil (.elt (.mth @1 "lights" %[|@8]))))])),.asg (.pt @13) (.lst .nil),.for_ (.tup %[@10,@8,@14,|@15]) @4 we,|.ret (.cmp .Eq (.frz (.call 20 %[@12,|.frz (.comp (.gen @8 [8] @6 .nil (.elt (.idx @3 @8))))])) (.frz (.blt .sorted %[|@13])))]
def wg:Ss:=%[.asg (.pt @2) (.call 25 %[@0,|@1]),.asg (.tup %[.pt @3,|.pt @4]) (.call 30 %[|@2]),.asg (.pt @5) (.call 32 %[@2,|.blt .len %[|@4]]),.asg (.pt @6) (.frz (.blt .list %[|.frz (.call 20 %[@3,|@5])])),.ife (.or (.not (.call 40 %[@2,@3,@4,@5,|@6])) (.not (.call 41 %[@2,@3,@5,|@6]))) %[|.ret (.cst (.bl false))] .nil,|.ife (.or (.not (.call 42 %[@2,@3,@4,@5,|@6])) (.cmp .NotEq (.frz (.call 20 %[@3,|@5])) @6)) %[|.ret (.cst (.bl false))] .nil]
def Ms:Ss:=%[.for_ @1 (.rng (.blt .max %[@(1),|.blt .min %[.blt .len %[|@0],|@(4)]])) wg,|.ret (.cst (.bl true))]
def fe(x:Str)(i n:Nat):Str×(Nat×Nat):=(x,(i,n))
def fns:List (Str×(Nat×Nat)):=[fe "picks" 0 1,fe "span" 1 2,fe "check_names" 2 2,fe "are_names" 3 1,fe "first_wrong_word" 4 1,fe "is_word" 5 1,fe "count_letters" 13 1,fe "goings_on" 14 2,fe "unlike_goings" 15 2,fe "check_table" 16 5,fe "check_many" 17 3,fe "check_each" 18 5,fe "check_settled" 19 1,fe "races" 20 2,fe "least_between" 21 3,fe "steps" 22 3,fe "steps_between" 23 2,fe "_law_cell_at" 24 2,fe "_law_pot" 25 2,fe "_law_digit" 26 2,fe "_law_word" 27 2,fe "_law_goal" 28 4,fe "_law_rows" 29 3,fe "_law_table" 30 1,fe "_law_all" 31 1,fe "_law_tags" 32 2,fe "_law_is_between" 33 3,fe "_law_common" 34 3,fe "_law_races" 35 2,fe "_law_sequence" 36 2,fe "_law_moved" 37 3,fe "_law_threes" 38 1,fe "_law_lengths" 39 3,fe "_law_places_right" 40 5,fe "_law_twice_right" 41 4,fe "_law_states_right" 42 5,fe "law" 43 1]
def gl:List (Str×W):=[("MOST_PLACES",(.int 4)),("MOST_SIGNS",(.int 8)),("MOST_KEYS",(.int 2)),("MOST_LAMPS",(.int 2)),("LEAST_STATES",(.int 2)),("MOST_STATES",(.int 4))]
def po(a b c d:Nat):Pos:=⟨a,b,c,d⟩
def fz:List Pos:=[po 14 16 14 75,po 19 17 19 90,po 25 49 25 88,po 27 15 27 64,po 40 48 40 85,po 48 24 48 34,po 49 26 49 38,po 50 25 50 36,po 51 24 51 52,po 52 26 52 38,po 55 15 55 34,po 58 15 58 36,po 61 15 61 35,po 74 11 74 70,po 77 11 77 107,po 79 29 79 50,po 95 63 95 106,po 101 15 101 59,po 117 15 117 76,po 147 20 147 102,po 148 25 148 91,po 152 19 152 97,po 157 17 157 104,po 158 11 158 128,po 158 12 158 96,po 162 17 162 88,po 163 21 163 76,po 164 17 164 116,po 164 18 164 87,po 165 18 165 119,po 165 25 165 86,po 166 12 166 91,po 170 21 170 65,po 170 68 170 112,po 175 11 175 100,po 183 20 183 52,po 192 28 192 139,po 193 101 193 103,po 198 11 198 100,po 200 17 200 101,po 202 11 202 53,po 204 27 204 76,po 205 11 205 43,po 208 18 208 78,po 209 22 209 101,po 210 16 210 55,po 211 72 211 115,po 222 16 222 104,po 222 39 222 103,po 223 24 223 111,po 227 19 227 54,po 229 23 229 35,po 230 18 230 77,po 231 17 231 121,po 231 18 231 95,po 232 22 232 165,po 232 107 232 164,po 235 29 235 89,po 237 11 237 84,po 237 34 237 83,po 237 88 237 104,po 243 20 243 64,po 243 25 243 63,po 246 111 246 149]
def cs:Cs:=⟨[("Table","key_list"),("Table","state_list"),("Table","lamp_list"),("Table","row_list"),("Table","light_list")],[(("Table","key_words"),7),(("Table","states"),8),(("Table","lamps"),9),(("Table","letters"),10),(("Table","goes"),11),(("Table","lights"),12)],[("Table",6)],[],[]⟩
def fuel:Nat:=1000
def pg:Pg:=⟨[⟨1,5,b0⟩,⟨2,4,b1⟩,⟨2,2,b2⟩,⟨1,4,b3⟩,⟨1,4,b4⟩,⟨1,2,b5⟩,⟨6,7,b6⟩,⟨1,1,b7⟩,⟨1,1,b8⟩,⟨1,1,b9⟩,⟨1,1,LW⟩,⟨3,3,LX⟩,⟨2,2,LY⟩,⟨1,1,LZ⟩,⟨2,3,L0⟩,⟨2,5,L1⟩,⟨5,6,L3⟩,⟨3,3,L4⟩,⟨5,7,L5⟩,⟨1,5,L6⟩,⟨2,7,L7⟩,⟨3,9,L8⟩,⟨3,7,Ma⟩,⟨2,5,O8⟩,⟨2,2,NK⟩,⟨2,3,Mb⟩,⟨2,3,NL⟩,⟨2,7,Mc⟩,⟨4,6,HN⟩,⟨3,7,Me⟩,⟨1,11,Mf⟩,⟨1,4,O9⟩,⟨2,5,Mg⟩,⟨3,4,Pa⟩,⟨3,5,Mh⟩,⟨2,7,Mi⟩,⟨2,4,Mj⟩,⟨3,4,Ml⟩,⟨1,2,Mm⟩,⟨3,5,Mn⟩,⟨5,13,Mp⟩,⟨4,8,Mq⟩,⟨5,18,Mr⟩,⟨1,7,Ms⟩],cs,fuel⟩
def tf(i:Nat):Tb:=("",top i)
def tm(c:Str)(i j:Nat):Tb:=(c,inClass (top i) j)
def NN:List Tb:=[tf 5,tf 8,tf 9,tf 10,tf 15,tf 16,tm "Table" 20 0,tm "Table" 20 1,tm "Table" 20 2,tm "Table" 20 3,tm "Table" 20 4,tm "Table" 20 5,tm "Table" 20 6,tf 21,tf 22,tf 23,tf 24,tf 25,tf 26,tf 27,tf 29,tf 30,tf 31,tf 32,tf 34,tf 35,tf 36,tf 37,tf 38,tf 39,tf 40,tf 41,tf 42,tf 43,tf 44,tf 45,tf 46,tf 47,tf 48,tf 49,tf 50,tf 51,tf 52,tf 53]
theorem stat:Stat pg fns gl fz NN:=⟨by kernel_rfl,by kernel_rfl,by kernel_rfl⟩
end My
end
section
namespace My
open PySem D List
theorem dX{α:Type}{a:α}{l:List α}:(a::l)[0]?=some a:=rfl
theorem dY{α:Type}{a:α}{l:List α}{i:Nat}:(a::l)[i+1]?=l[i]?:=rfl
theorem dZ{α:Type}{x a:α}{l:List α}:(x::l).set 0 a=a::l:=rfl
theorem d7{α:Type}{x a:α}{l:List α}{n:Nat}:(x::l).set (n+1) a=x::l.set n a:=rfl
variable{C:D.Cx}{L:List (List Int)}{M m:Mem}{b ns:List Int}{c z:Str}{e:E}{i many mask n p q s t u v:Nat}{ks ls ss tk:List Str}{Dz rws xs:List W}{o:O}{o4 o5 o6:Option W}{r w:W}{α J:Type}{Z:D.Loc}
structure Wd(z:Str):Prop where
 lo:1<=z.cps.size
 hi:z.cps.size<=8
 az:∀c∈z.cps.toList,97<=c/\c<=122
theorem AO(z:Str):z.length=z.cps.size:=rfl
theorem Wd.asc(h:Wd z):L2.asc z=true:=by
 unfold L2.asc;rw[Array.all_eq_true];intro i hi;have:=h.az z.cps[i] 's';simp;omega
theorem Pb{c:Nat}(h:97<=c/\c<=122):aD .LtE (.str "a") (.str ⟨#[c]⟩)=λ m=>.ok true m:=by
 funext m;have:¬[c] < [97]:=by simp[cons_lt_cons_iff];omega
 simp[aD];exact this
theorem leZ{c:Nat}(h:97<=c/\c<=122):aD .LtE (.str ⟨#[c]⟩) (.str "z")=λ m=>.ok true m:=by
 funext m;have:¬[122] < [c]:=by simp[cons_lt_cons_iff];omega
 simp[aD];exact this
theorem DA(h:Wd z):D.runN pg (n+1) 5 [.str z] []=.ok (.bl true) []:=by
 refine aT (d:=⟨1,2,b5⟩) rfl rfl ?_;show aL _ b5 [@(.str z),none] []=_;have hI:cC (Cn pg n) @0 [@(.str z),none] []=.ok (.tup (signs z)) []:=by simp[cu,mK,jv,oU,rV,rX,rY,oV,rZ,r8,r9,mL,j9,oW,mO,aN,ck,dO,gG,dP,dD,gZ,cV,bg,dQ,cD,dF,cF,dR,dg,bC,ef,bD,bV,cW,gv,bS,gw,bW,dj,fR,R.bind,oS,zJ,h.asc]
 let⟨ρ',hc⟩:=comp_map (C:=Cn pg n) (i:=1) (e:=.chain .LtE .LtE (.cst (.str "a")) @1 (.cst (.str "z"))) (Z:=[@(.str z),none]) (m:=[]) (xs:=signs z) (g:=λ _=>.bl true) (λ x hx=>by
  let⟨c,hc,rfl⟩:=Qf.mp hx;have:=h.az c hc;simp[aN,ck,dO,gG,dP,dD,gZ,cV,bg,dQ,cD,dF,cF,dR,dg,bC,ef,bD,bV,cW,gv,bS,gw,bW,dj,fR,R.bind,Pb this,leZ this]) (by have:=h.hi;simp[signs,lim];omega)
 have hf:=bG (C:=Cn pg n) (m:=[]) (m0:=[]) (gH (js:=[1]) (ifs:=.nil) hI hc) rfl Cm.nil (by rw[lH];exact cj.mpr λ x hx=>by rw[(List.mem_replicate.mp hx).2];rfl);rw[b5,aQ (aR (w:=.bl true) (m1:=[]) ?_)];have h1:(1:Int)<=z.length:=by have:=h.lo;rw[AO];omega
 have h2:(z.length:Int)<=8:=by have:=h.hi;rw[AO];omega
 have h3:z.length<=lim:=by have:=h.hi;rw[AO];simp[lim];omega
 have hb:bools ((signs z).map λ _=>W.bl true)=some (List.replicate (signs z).length true):=by rw[lH];exact iA _
 simp[aN,ck,dO,dP,dD,gZ,cV,bg,dQ,cD,dF,cF,dR,dH,bC,ef,bD,bV,cW,nk,bS,fZ,bW,aY,aH,j7,j8,aP,aZ,h3,aD,h1,h2,hf,getL,hb]
theorem yb{ws:List Str}(h:z∉ws):mE (.inr z) (ws.map Sum.inr)=false:=by
 erw[mE,any_map,RA];rw[any_eq_false];intro x hx;erw[Q7,Sum.inr.injEq];rintro rfl;exact h hx
theorem kD{ws:List Str}(hw:∀z∈ws,Wd z)(hn:ws.Nodup)(hl:ws.length<=100):aC (D.runN pg (n+1+1) 4) [.fz (ws.map .str)] M=.ok .non M:=by
 have hI:cC (Cn pg (n+1)) (.enm @0) [@(.fz (ws.map .str)),@(.ref 0),none,none] [.set []]=.ok (.enm (.tup (ws.map .str))) [.set []]:=by simp[cu,mK,jv,oU,rV,rX,rY,oV,rZ,r8,r9,mL,j9,oW,mO,aN,ck,dO,gG,dP,dD,gZ,cV,bg,dQ,cD,dF,cF,dR,dg,bC,ef,bD,bV,cW,gv,bS,gw,bW,dj,fR,aN,ck,dO,dP,dD,gZ,cV,bg,dQ,cD,dF,cF,dR,dH,bC,ef,bD,bV,cW,nk,bS,fZ,bW,aY,aH,j7,j8,aP,srcOf]
 let⟨ρ',m',hf,_⟩:=cR (t:=.tup %[@2,|@3]) (b:=HM) (n:=ws.length) hI (by simp[Src.len])
  (λ i Z m=>m=[.set ((ws.take i).map Sum.inr)]/\∃o2 o3,Z=[@(.fz (ws.map .str)),@(.ref 0),o2,o3]) ⟨rfl,_,_,rfl⟩ (λ i Z m hi=>by
   rintro⟨rfl,o2,o3,rfl⟩;have hz:=hw ws[i] (QI hi);refine⟨.tup [.int i,.str ws[i]],[@(.fz (ws.map .str)),@(.ref 0),@(.int i),@(.str ws[i])],[@(.fz (ws.map .str)),@(.ref 0),@(.int i),@(.str ws[i])],[.set ((ws.take (i+1)).map Sum.inr)],?_,by simp[aE,dJ],.inl ?_,rfl,_,_,rfl⟩
   .rw[jB (w:=.str ws[i])];rw[aO (by simpa using hi)];simp
   .have hc:∀m,aC (D.runN pg (n+1) 5) [.str ws[i]] m=.ok (.bl true) m:=λ m=>aG rfl (DA hz) rfl;have hk:mE (.inr ws[i]) ((ws.take i).map Sum.inr)=false:=yb (uP hn hi);have ht:ws.take (i+1)=ws.take i++[ws[i]]:=by rw[take_add_one,QG hi];rfl
    have hlt:min i ws.length < 4000:=by omega
    have h1:bx (Cn pg (n+1)) (.or (.not (.call 5 %[|@3])) (.cmp .In @3 @1)) [@(.fz (ws.map .str)),@(.ref 0),@(.int i),@(.str ws[i])] [.set ((ws.take i).map Sum.inr)]=.ok false [.set ((ws.take i).map Sum.inr)]:=by
     erw[EVs,fD,fE,fF,fG,fH,fJ,fK,fL,bR,dS,fM,cG,cH,cJ,fN,fO,fP,cK,fQ,cL,cX,gx,cM,bH,bE,eV,dX,dY,dZ,d7,hc,D.truthy,aD,pZ,zz,hk,Bool.not_true,Qv,QK]
    have h2:ao (Cn pg (n+1)) (.meth @1 "add" %[|@3]) [@(.fz (ws.map .str)),@(.ref 0),@(.int i),@(.str ws[i])] [.set ((ws.take i).map Sum.inr)]=.ok .non [.set ((ws.take (i+1)).map Sum.inr)]:=by
     have e1:p8 "add"=.set:=by decide
     have e2:((ws.take i).map Sum.inr:List L2.Key).length < 4000:=by rw[Qi,Ri];exact hlt
     erw[EWs,kdOf,e1,QL,bJ,i7,zH,zz,hk,e2,Qv,QK];rw[ht,Rv];rfl
    rw[HM,ai (Z1:=[@(.fz (ws.map .str)),@(.ref 0),@(.int i),@(.str ws[i])]) (by rw[gR h1,ay]),ai (cQ h2),ay])
  (fun Z m _=>by rw[iW];exact aK 's')
 refine aG (m1:=m') (by simp[aj,av,dU]) (aT (d:=⟨1,4,b4⟩) rfl rfl ?_) rfl;show aL _ b4 [@(.fz (ws.map .str)),none,none,none] []=_;rw[b4,ai (Z1:=[@(.fz (ws.map .str)),@(.ref 0),none,none]) (aF (w:=.ref 0) (m1:=[.set []]) (by simp[aN,ck,dO,dP,dD,gZ,cV,bg,dQ,cD,dF,cF,dR,dH,bC,ef,bD,bV,cW,nk,bS,fZ,bW,aY,aH,j7,j8,aP,new]) rfl),ai hf,aQ (aR (w:=.non) (m1:=m') (by simp[aN,ck,dO,dP,dD,gZ,cV,bg,dQ,cD,dF,cF,dR,dH,bC,ef,bD,bV,cW,nk,bS,fZ,bW,aY,aH,j7,j8,aP]))]
theorem jm(h:aM m w=some xs)(hl:xs.length<=1000):aC (D.runN pg (n+1) 13) [w] m=.ok (.int (2^xs.length:Nat)) m:=by
 have go:∀M,aM M w=some xs->D.runN pg (n+1) 13 [w] M=.ok (.int (2^xs.length:Nat)) M:=λ M h=>by
  refine aT (d:=⟨1,1,LZ⟩) rfl rfl ?_;show aL _ LZ [some w] M=_;have hc:(0:Int)<=xs.length/\(xs.length:Int)<=1000000/\(1:Int).natAbs < 2^64:=⟨by omega,by omega,by decide⟩;rw[LZ,aQ (aR (w:=.int (2^xs.length:Nat)) (m1:=M) ?_)];erw[EWs,bK h,binop];rw[Qs hc];simp
 exact g7 (go m h) (λ hp=>go [] (by rw[fk (m:=m) (by simpa[aj] using hp)];exact h)) rfl
theorem uT{k s l:W}{ks ss ls:List W}(hk:aM m k=some ks)(hs:aM m s=some ss)(hl:aM m l=some ls)(h1:ks.length<=2)(h2:2<=ss.length)(h3:ss.length<=4)(h4:ls.length<=2):aC (D.runN pg (n+1) 17) [k,s,l] m=.ok .non m:=by
 have go:∀M,aM M k=some ks->aM M s=some ss->aM M l=some ls->D.runN pg (n+1) 17 [k,s,l] M=.ok .non M:=λ M hk hs hl=>by
  refine kB (d:=⟨3,3,L4⟩) (Z:=[some k,some s,some l]) rfl rfl ?_;show aL _ L4 [some k,some s,some l] M=_;have e1:¬(2:Int) < ks.length:=by omega
  have e2:(2:Int)<=ss.length:=by omega
  have e3:(ss.length:Int)<=4:=by omega
  have e4:¬(2:Int) < ls.length:=by omega
  erw[L4,jw,gn,fS,jL,gy,iP,gM,iD,gz,eB,gO,jk,gP,fB,iQ,EVs,fD,fE,fF,fG,fH,fJ,fK,fL,bR,dS,fM,cG,cH,cJ,fN,fO,fP,cK,fQ,cL,cX,gx,cM,bH,bE,eV,dX,dY,dZ,d7,bK hk,bK hs,bK hl,aD,e1,e2,e3,e4,decide_true,decide_false,QL,QK,Qv,Bool.not_true]
 refine g7 (go m hk hs hl) (λ hp=>?_) rfl;erw[aj,Qn,Bool.and_true] at hp;exact go [] (by rw[fk (m:=m) hp.1];exact hk) (by rw[fk (m:=m) hp.2.1];exact hs) (by rw[fk (m:=m) hp.2.2];exact hl)
def AQ(m:Mem)(width:Nat)(bound:Int)(r:W):Prop:=∃ns:List Int,aM m r=some (ns.map .int)/\ns.length=width/\∀x∈ns,0<=x/\x < bound
theorem nq{word:Str}{eG:W}{width:Nat}{bound:Int}(hm:Cm m)(hr:aM m eG=some rws)(hl:rws.length=many)(hb:many<=100)(P6:width<=100)(h:∀r∈rws,AQ m width bound r)(hp0:av eG=true->∀r∈rws,av r=true) :
  aC (D.runN pg (n+1) 18) [.str word,eG,.int many,.int width,.int bound] m=.ok .non m:=by
 have go:∀M,Cm M->aM M eG=some rws->(∀r∈rws,AQ M width bound r)->D.runN pg (n+1) 18 [.str word,eG,.int many,.int width,.int bound] M=.ok .non M:=λ M hm hr h=>by
  let⟨ρ',m',hf,rfl,o5,o6,rfl⟩:=cR (C:=Cn pg n) (t:=.var 5) (it:=.rng @2) (b:=AM) (Z:=[@(.str word),some eG,@(.int many),@(.int width),@(.int bound),none,none]) (m:=M) (m1:=M) (s:=.rng 0 many) (n:=many) (jQ (by erw[EWs]) 'o') rfl
   (λ i Z m=>m=M/\∃o5 o6,Z=[@(.str word),some eG,@(.int many),@(.int width),@(.int bound),o5,o6]) ⟨rfl,_,_,rfl⟩ (λ i Z m hi=>by
    rintro⟨rfl,o5,o6,rfl⟩;have hi':i < rws.length:=by omega
    let⟨ns,g1,g2,g3⟩:=h rws[i] (QI hi');let⟨s,s1,s2,s3⟩:=AF g1;refine⟨.int i,[@(.str word),some eG,@(.int many),@(.int width),@(.int bound),@(.int i),o6],[@(.str word),some eG,@(.int many),@(.int width),@(.int bound),@(.int i),o6],m,?_,by simp[aE],.inl ?_,rfl,_,_,rfl⟩
    .rw[cg hi];simp
    .have e1:ao (Cn pg n) (.idx @1 @5) [@(.str word),some eG,@(.int many),@(.int width),@(.int bound),@(.int i),o6] m=.ok rws[i] m:=by erw[EWs,fm hr hi']
     have e2:=sU (C:=Cn pg n) (m:=m) (i:=6) (e:=.chain .LtE .Lt @(0) @6 @4) (it:=.idx @1 @5) (js:=[6]) (Z:=[@(.str word),some eG,@(.int many),@(.int width),@(.int bound),@(.int i),o6]) hm (by rw[mK,e1];exact s1) s2 s3 (by rw[Qi,g2];simp[lim];omega) (λ x hx=>by
      let⟨z,hz,rfl⟩:=Qf.mp hx;let⟨z1,z2⟩:=g3 z hz;erw[br,EWs,aD,z1,z2,decide_true,QL])
     have f1:¬(rws.length:Int)<=i:=by omega
     have f2:qP m (.int ns.length) (.int width)=.ok true m:=by simp[qP,toD,g2,PyData.eqv]
     have t1:ao (Cn pg n) (.blt .len %[|@1]) [@(.str word),some eG,@(.int many),@(.int width),@(.int bound),@(.int i),o6] m=.ok (.int rws.length) m:=by erw[EWs,bK hr]
     have t2:ao (Cn pg n) (.blt .len %[|.idx @1 @5]) [@(.str word),some eG,@(.int many),@(.int width),@(.int bound),@(.int i),o6] m=.ok (.int ns.length) m:=by rw[bC,aH,e1];erw[aP,aY,bK g1,Qi]
     have ht:bx (Cn pg n) (.or (.cmp .GtE @5 (.blt .len %[|@1])) (.or (.cmp .NotEq (.blt .len %[|.idx @1 @5]) @3) (.not (.blt .all %[|.frz (.comp (.gen @6 [6] (.idx @1 @5) .nil (.elt (.chain .LtE .Lt @(0) @6 @4))))])))) [@(.str word),some eG,@(.int many),@(.int width),@(.int bound),@(.int i),o6] m=.ok false m:=by
      erw[gx,bH,cM,dS,aN,dX,dY,dZ,d7,aP,t1,t2,e2,aD,f1,f2,decide_false,Qv,QK,Bool.not_true,D.truthy]
     rw[AM,ai (Z1:=[@(.str word),some eG,@(.int many),@(.int width),@(.int bound),@(.int i),o6]) (by rw[gR ht,ay]),ay])
   (fun Z m _=>bO 'o')
  refine kB (d:=⟨5,7,L5⟩) (Z:=[@(.str word),some eG,@(.int many),@(.int width),@(.int bound),o5,o6]) rfl rfl ?_;show aL _ L5 [@(.str word),some eG,@(.int many),@(.int width),@(.int bound),none,none] m'=_;have ht:bx (Cn pg n) (.cmp .Gt (.blt .len %[|@1]) @2) [@(.str word),some eG,@(.int many),@(.int width),@(.int bound),o5,o6] m'=.ok false m':=by
   have f1:¬(many:Int) < rws.length:=by omega
   erw[EVs,fD,fE,fF,fG,fH,fJ,fK,fL,bR,dS,fM,cG,cH,cJ,fN,fO,fP,cK,fQ,cL,cX,gx,cM,bH,bE,eV,dX,dY,dZ,d7,bK hr,aD,f1,decide_false]
  rw[L5,ai hf,ai (Z1:=[@(.str word),some eG,@(.int many),@(.int width),@(.int bound),o5,o6]) (by rw[gR ht,ay]),ay]
 refine g7 (go m hm hr h) (λ hp=>?_) rfl;erw[aj,Qn] at hp;refine go [] Cm.nil (by rw[fk (m:=m) hp.2.1];exact hr) λ r hr'=>?_;let⟨ns,g1,g2⟩:=h r hr';exact⟨ns,by rw[fk (m:=m) (hp0 hp.2.1 r hr')];exact g1,g2⟩
structure Rows(m:Mem)(w:W)(rws:List W)(R:List (List Int)):Prop where
 at_:getL m w=some rws
 len:rws.length=R.length
 row:∀(i:Nat) (h:i < rws.length) (h':i < R.length),aM m rws[i]=@(R[i].map .int)
 pur:av w=true->∀r∈rws,av r=true
theorem Rows.pure{R:List (List Int)}(h:Rows m w rws R)(hp:av w=true):Rows [] w rws R:=
 ⟨by rw[ja (m:=m) hp];exact h.at_,h.len,λ i h1 h2=>by rw[fk (m:=m) (h.pur hp _ (QI h1))];exact h.row i h1 h2,h.pur⟩
theorem Rows.app{l:Mem}{R:List (List Int)}(h:Rows m w rws R):Rows (m++l) w rws R:=by
 refine⟨?_,h.len,λ i h1 h2=>nj (h.row i h1 h2),h.pur⟩;have:=nj (l:=l) (dN h.at_);cases w with
 | tup ys=>have:=h.at_;cases this
 | _=>exact this
theorem Rows.each{R:List (List Int)}{width:Nat}{bound:Int}(h:Rows m w rws R)(hR:∀ns∈R,ns.length=width/\∀x∈ns,0<=x/\x < bound):∀r∈rws,AQ m width bound r:=λ r hr=>by
 let⟨i,hi,rfl⟩:=List.mem_iff_getElem.mp hr;have hi':i < R.length:=by rw[<-h.len];exact hi
 let⟨h1,h2⟩:=hR R[i] (QI hi');exact⟨R[i],h.row i hi hi',h1,h2⟩
def qE(R:List (List Int)):Prop:=∀(i:Nat) (hi:i < R.length) (x:Nat) (hx:x < R[i].length),∃(k:Nat) (hk:k < R.length) (hx':x < R[k].length),R[i][x]=k/\R[k][x]=k
theorem AR{a b:Int}:qP m (.int a) (.int b)=.ok (decide (a=b)) m:=by
 simp[qP,toD,PyData.eqv]
 by_cases h:a=b<;>simp[h]
theorem n9{R:List (List Int)}(hm:Cm m)(h:Rows m w rws R)(hs:qE R)(hl:∀ns∈R,ns.length<=1000):aC (D.runN pg (n+1) 19) [w] m=.ok .non m:=by
 have go:∀M,Cm M->Rows M w rws R->D.runN pg (n+1) 19 [w] M=.ok .non M:=λ M hm h=>by
  let⟨s,s1,s2,s3⟩:=ni (dN h.at_);let⟨ρ',m',hf,rfl,o1,o2,o3,o4,rfl⟩:=cR (C:=Cn pg n) (t:=.tup %[@1,|@2]) (it:=.enm @0) (b:=AN) (Z:=[some w,none,none,none,none]) (m:=M) (m1:=M) (s:=.enm s) (n:=rws.length) (by erw[cu,mK,jv,oU,rV,rX,rY,oV,rZ,r8,r9,mL,j9,oW,mO,aN,ck,dO,gG,dP,dD,gZ,cV,bg,dQ,cD,dF,cF,dR,dg,bC,ef,bD,bV,cW,gv,bS,gw,bW,dj,fR,EWs,s1]) (by erw[Src.len,s3])
   (λ i Z m=>m=M/\∃o1 o2 o3 o4,Z=[some w,o1,o2,o3,o4]) ⟨rfl,_,_,_,_,rfl⟩ (λ i Z m hi=>by
    rintro⟨rfl,o1,o2,o3,o4,rfl⟩;have hi':i < R.length:=by rw[<-h.len];exact hi
    have g1:=h.row i hi hi';let⟨u,u1,u2,u3⟩:=ni g1;refine⟨.tup [.int i,rws[i]],[some w,@(.int i),some rws[i],o3,o4],[some w,@(.int i),some rws[i],o3,o4],m,?_,by simp[aE,dJ],.inl ?_,rfl,_,_,_,_,rfl⟩
    .rw[jB (w:=rws[i])];rw[s2,aO hi]
    .have e2:=AG (C:=Cn pg n) (t:=.tup %[@3,|@4]) (e:=.cmp .NotEq (.idx (.idx @0 @4) @3) @4) (it:=.enm @2) (js:=[3,4]) (Z:=[some w,@(.int i),some rws[i],o3,o4]) (m:=m) (s:=.enm u)
      (xs:=(List.range R[i].length).map λ (x:Nat)=>W.tup [.int (x:Int),.int (R[i].getD x 0)]) (B:=λ x=>match x with | .tup [a,b]=>[some w,@(.int i),some rws[i],some a,some b] | _=>[]) hm (by erw[cu,mK,jv,oU,rV,rX,rY,oV,rZ,r8,r9,mL,j9,oW,mO,aN,ck,dO,gG,dP,dD,gZ,cV,bg,dQ,cD,dF,cF,dR,dg,bC,ef,bD,bV,cW,gv,bS,gw,bW,dj,fR,EWs,u1])
      (λ j hj=>by
       have hj':j < R[i].length:=by simpa using hj
       rw[jB (w:=.int R[i][j]) (by rw[u2,aO (by simpa using hj')];simp)];simp[List.getD,hj'])
      (by rw[iW (by rw[u2];exact aK 's')]) (by erw[Src.len,u3];simp) (by have:=hl R[i] (QI hi');simp[lim];omega)
      (λ x hx=>by let⟨j,_,rfl⟩:=Qf.mp hx;simp[br,aE,dJ])
      (λ x hx y hy=>by let⟨j,_,rfl⟩:=Qf.mp hx;let⟨j',_,rfl⟩:=Qf.mp hy;simp[aE,dJ])
      (λ x hx=>by
       let⟨j,hj,rfl⟩:=Qf.mp hx;have hj:=Qo.mp hj;let⟨k,hk,hx',z1,z2⟩:=hs i hi' j hj;have hk':k < rws.length:=by rw[h.len];exact hk
       have e0:R[i].getD j 0=(k:Int):=by simp[List.getD,hj,z1]
       have g2:=h.row k hk' hk;have e3:=fm (dN h.at_) hk';have e4:=fm (i:=j) g2 (by simpa using hx');erw[EWs,e0,e3,e4,aD];simp[z2,AR,aP])
     rw[AN,ai (Z1:=[some w,@(.int i),some rws[i],o3,o4]) (by rw[gR (jb (dS _ _) e2),ay]),ay])
   (fun Z m h=>by let⟨rfl,_⟩:=h;rw[iW (by rw[s2];exact aK 'o')])
  refine kB (d:=⟨1,5,L6⟩) (Z:=[some w,o1,o2,o3,o4]) rfl rfl ?_;show aL _ L6 [some w,none,none,none,none] m'=_;rw[L6,ai hf,ay]
 refine g7 (go m hm h) (λ hp=>?_) rfl;erw[aj,Qn,Bool.and_true] at hp;exact go [] Cm.nil (h.pure hp)
structure Parts(m:Mem)(k s l r t:W)(ks ss ls:List Str)(rws Dz:List W)(R L:List (List Int)):Prop where
 k:getL m k=@(ks.map .str)
 s:getL m s=@(ss.map .str)
 l:getL m l=@(ls.map .str)
 r:Rows m r rws R
 t:Rows m t Dz L
structure TabOk(ks ss ls:List Str)(R L:List (List Int)):Prop where
 wd:∀z∈ks++ss++ls,Wd z
 nd:(ks++ss++ls).Nodup
 k2:ks.length<=2
 s2:2<=ss.length
 s4:ss.length<=4
 l2:ls.length<=2
 rl:R.length=ss.length
 tl:L.length=ss.length
 re:∀ns∈R,ns.length=2^ks.length/\∀x∈ns,0<=x/\x < (ss.length:Int)
 te:∀ns∈L,ns.length=ls.length/\∀x∈ns,0<=x/\x < (2:Int)
 st:qE R
theorem jT{l:Mem}(h:getL m w=some xs):getL (m++l) w=some xs:=by
 have:=nj (l:=l) (dN h);cases w with
 | tup ys=>cases h
 | _=>exact this
theorem iB(h:n<=2):2^n<=4:=by
 rcases (by omega:n=0\/n=1\/n=2) with rfl | rfl | rfl<;>decide
theorem EU{x y:W}{ys:List W}(h1:getL M x=some xs)(h2:getL M y=some ys)(h3:xs.length+ys.length<=lim):binop .Add x y M=.ok (.ref M.length) (M++[.lst (xs++ys)]):=by
 have:Cz M x y=.ok (.ref M.length) (M++[.lst (xs++ys)]):=by erw[Cz,h1,h2];rw[Qs h3];rfl
 cases x<;>cases y<;>first | exact this | cases h1 | cases h2
theorem NO{k s l t:W}{R:List (List Int)}(hm:Cm M)(p:Parts M k s l r t ks ss ls rws Dz R L)(o:TabOk ks ss ls R L) :
  ao (Cn pg (n+1+1)) (.frz (.bin .Add (.bin .Add @0 @1) @2)) [some k,some s,some l,some r,some t,none] M=.ok (.fz ((ks++ss++ls).map .str)) M:=by
 have c1:(ks.map W.str).length+(ss.map W.str).length<=lim:=by have:=o.k2;have:=o.s4;simp[lim];omega
 have c2:(ks.map W.str++ss.map W.str).length+(ls.map W.str).length<=lim:=by have:=o.k2;have:=o.s4;have:=o.l2;simp[lim];omega
 have h1:ao (Cn pg (n+1+1)) (.bin .Add (.bin .Add @0 @1) @2) [some k,some s,some l,some r,some t,none] M=.ok (.ref (M.length+1)) (M++[.lst (ks.map .str++ss.map .str),.lst (ks.map .str++ss.map .str++ls.map .str)]):=by
  erw[EWs,EU p.k p.s c1];rw[EU (M:=M++[O.lst (ks.map W.str++ss.map W.str)]) (x:=.ref M.length) (xs:=ks.map W.str++ss.map W.str) (by simp[getL]) (jT p.l) c2];simp
 have:=lG (C:=Cn pg (n+1+1)) h1 rfl hm 'o' (xs:=ks.map .str++ss.map .str++ls.map .str) 's' (by rw[<-Rv,<-Rv];exact dU _);rw[this,Rv,Rv]
theorem sZ{k s l t:W}{R:List (List Int)}(hm:Cm m)(p:Parts m k s l r t ks ss ls rws Dz R L)(o:TabOk ks ss ls R L):aC (D.runN pg (n+1+1+1) 16) [k,s,l,r,t] m=.ok .non m:=by
 have go:∀M,Cm M->Parts M k s l r t ks ss ls rws Dz R L->D.runN pg (n+1+1+1) 16 [k,s,l,r,t] M=.ok .non M:=λ M hm p=>by
  have hlen:(ks++ss++ls).length<=8:=by have:=o.k2;have:=o.s4;have:=o.l2;simp;omega
  have c1:(ks.map W.str).length+(ss.map W.str).length<=lim:=by have:=o.k2;have:=o.s4;simp[lim];omega
  have c2:(ks.map W.str++ss.map W.str).length+(ls.map W.str).length<=lim:=by have:=o.k2;have:=o.s4;have:=o.l2;simp[lim];omega
  have e1:=NO (n:=n) hm p o;have e2:ao (Cn pg (n+1+1)) (.call 4 %[|.frz (.bin .Add (.bin .Add @0 @1) @2)]) [some k,some s,some l,some r,some t,none] M=.ok .non M:=by
   rw[dH,aH,e1];erw[aP,aY,kD o.wd o.nd 'o']
  have d1:=jm (n:=n+1) (dN p.k) (by have:=o.k2;simp;omega);have d2:=uT (n:=n+1) (dN p.k) (dN p.s) (dN p.l) (by simpa using o.k2) (by simpa using o.s2) (by simpa using o.s4) (by simpa using o.l2);have d3:=nq (n:=n+1) (word:="row") (many:=ss.length) (width:=2^ks.length) (bound:=ss.length) hm (dN p.r.at_) (by rw[p.r.len,o.rl]) (by have:=o.s4;omega) (by have:=iB o.k2;omega) (p.r.each o.re) p.r.pur;have d4:=nq (n:=n+1) (word:="lights") (many:=ss.length) (width:=ls.length) (bound:=2) hm (dN p.t.at_) (by rw[p.t.len,o.tl]) (by have:=o.s4;omega) (by have:=o.l2;omega) (p.t.each o.te) p.t.pur;have d5:=n9 (n:=n+1) hm p.r o.st (λ ns hns=>by rw[(o.re ns hns).1];have:=iB o.k2;omega);erw[Qi] at d1;refine kB (d:=⟨5,6,L3⟩) (Z:=[some k,some s,some l,some r,some t,some .non]) rfl rfl ?_;show aL _ L3 [some k,some s,some l,some r,some t,none] M=_;have ht:bx (Cn pg (n+1+1)) (.cmp .IsNot @5 (.cst .non)) [some k,some s,some l,some r,some t,some .non] M=.ok false M:=by erw[EVs,fD,fE,fF,fG,fH,fJ,fK,fL,bR,dS,fM,cG,cH,cJ,fN,fO,fP,cK,fQ,cL,cX,gx,cM,bH,bE,eV,dX,dY,dZ,d7,aD,vn,Bool.not_true]
  rw[L3,ai (Z1:=[some k,some s,some l,some r,some t,some .non]) (aF e2 rfl),ai (Z1:=[some k,some s,some l,some r,some t,some .non]) (by rw[gR ht,ay])];rw[ai (cQ (w:=.non) (m1:=M) (by erw[EWs,d2]))];rw[ai (cQ (w:=.non) (m1:=M) (by erw[EWs,bK (dN p.s),Qi,d1,d3]))];rw[ai (cQ (w:=.non) (m1:=M) (by erw[EWs,bK (dN p.s),bK (dN p.l),Qi,d4]))];rw[ai (cQ (w:=.non) (m1:=M) (by erw[EWs,d5])),ay]
 refine g7 (go m hm p) (λ hp=>?_) rfl;erw[aj,Qn,Bool.and_true] at hp;exact go [] Cm.nil ⟨by rw[ja (m:=m) hp.1];exact p.k,by rw[ja (m:=m) hp.2.1];exact p.s,by rw[ja (m:=m) hp.2.2.1];exact p.l,p.r.pure hp.2.2.2.1,p.t.pure hp.2.2.2.2⟩
theorem iX{fs:List (Str×W)}(hp:m[p]?=@(.ins c fs))(h:getL m w=some xs):getL (m.set p o) w=some xs:=by
 cases w with
 | ref q=>
  erw[getL] at h ⊢;split at h
  .ext ys e;have hq:p≠q:=by rintro rfl;rw[hp] at e;cases e
   rw[QT hq,e];exact h
  .cases h
 | _=>exact h
theorem AS{fs:List (Str×W)}(hp:m[p]?=@(.ins c fs))(h:aM m w=some xs):aM (m.set p o) w=some xs:=by
 cases w with
 | tup ys=>exact h
 | _=>erw[aM] at h ⊢;exact iX hp h
theorem Rows.ins{fs:List (Str×W)}{R:List (List Int)}(hp:m[p]?=@(.ins c fs))(h:Rows m w rws R):Rows (m.set p o) w rws R:=
 ⟨iX hp h.at_,h.len,λ i h1 h2=>AS hp (h.row i h1 h2),h.pur⟩
theorem Parts.ins{fs:List (Str×W)}{k s l t:W}{R:List (List Int)}(hp:m[p]?=@(.ins c fs))(h:Parts m k s l r t ks ss ls rws Dz R L):Parts (m.set p o) k s l r t ks ss ls rws Dz R L:=
 ⟨iX hp h.k,iX hp h.s,iX hp h.l,h.r.ins hp,h.t.ins hp⟩
theorem Parts.app{l0:Mem}{k s l t:W}{R:List (List Int)}(h:Parts m k s l r t ks ss ls rws Dz R L):Parts (m++l0) k s l r t ks ss ls rws Dz R L:=
 ⟨jT h.k,jT h.s,jT h.l,h.r.app,h.t.app⟩
abbrev tupI(r:List Int):W:=.tup (r.map .int)
abbrev fC(z:List Str):W:=.fz (z.map .str)
abbrev F1(ks:List Str):List (Str×W):=[("key_list",fC ks)]
abbrev F2(ks ss:List Str):List (Str×W):=[("key_list",fC ks),("state_list",fC ss)]
abbrev F3(ks ss ls:List Str):List (Str×W):=[("key_list",fC ks),("state_list",fC ss),("lamp_list",fC ls)]
abbrev F4(ks ss ls:List Str)(R:List (List Int)):List (Str×W):=[("key_list",fC ks),("state_list",fC ss),("lamp_list",fC ls),("row_list",.fz (R.map tupI))]
abbrev F5(ks ss ls:List Str)(R L:List (List Int)):List (Str×W):=[("key_list",fC ks),("state_list",fC ss),("lamp_list",fC ls),("row_list",.fz (R.map tupI)),("light_list",.fz (L.map tupI))]
def tab(ks ss ls:List Str)(R L:List (List Int)):W:=.obj "Table" ["key_list","state_list","lamp_list","row_list","light_list"] [fC ks,fC ss,fC ls,.fz (R.map tupI),.fz (L.map tupI)]
theorem cP(R:List (List Int)):aj (R.map tupI)=true:=kR (λ r=>by simp[av,bI]) R
theorem cy{R:List (List Int)}:av (tab ks ss ls R L)=true:=by simp[tab,av,aj,dU,cP]
theorem qF{fs:List (Str×W)}(hm:Cm m)(h:aj (fs.map (·.2))=true):Cm (m.set p (.ins c fs)):=hm.set (cB _ h)
theorem fV{C:Cx}(he:ao C e Z m=.ok w m)(h:getL m w=some xs)(hm:Cm m)(hp:aj xs=true):ao C (.frz (.blt .list %[|e])) Z m=.ok (.fz xs) m:=by
 refine bG (m0:=m) ?_ rfl hm hp;rw[bC,aH,he];erw[aP,aY,aZ,dN h,new]
theorem nu{f:Str}{fs fs':List (Str×W)}{v:W}(hp:m[p]?=@(.ins "Table" fs))(hc:cs.flds.contains (("Table":Str),f)=true)(hl:fs.length < 1000)(hf:D.gj f v fs=fs'):oR cs (.ref p) f v m=.ok () (m.set p (.ins "Table" fs')):=by
 erw[oR,hp];rw[Qs ⟨hc,hl⟩,hf]
theorem uU{k s l t:W}{R:List (List Int)}(hm:Cm m)(hp:m[p]?=@(.ins "Table" []))(q:Parts m k s l r t ks ss ls rws (L.map tupI) R L)(o:TabOk ks ss ls R L) :
  D.runN pg (n+1+1+1+1) 6 [.ref p,k,s,l,r,t] m=.ok .non (m.set p (.ins "Table" (F5 ks ss ls R L))):=by
 have hlt:p < m.length:=(Qd.mp hp).1;have g:∀o:O,(m.set p o)[p]?=some o:=λ o=>by rw[QN hlt]
 have d0:=sZ (n:=n) hm q o;have q1:Parts (m.set p (.ins "Table" (F1 ks))) k s l r t ks ss ls rws (L.map tupI) R L:=q.ins hp;have q2:Parts (m.set p (.ins "Table" (F2 ks ss))) k s l r t ks ss ls rws (L.map tupI) R L:=q.ins hp;have q3:Parts (m.set p (.ins "Table" (F3 ks ss ls))) k s l r t ks ss ls rws (L.map tupI) R L:=q.ins hp;have q4:Parts (m.set p (.ins "Table" (F4 ks ss ls R))) k s l r t ks ss ls rws (L.map tupI) R L:=q.ins hp;have m1:Cm (m.set p (.ins "Table" (F1 ks))):=qF hm (by simp[aj,av,dU]);have m2:Cm (m.set p (.ins "Table" (F2 ks ss))):=qF hm (by simp[aj,av,dU]);have m3:Cm (m.set p (.ins "Table" (F3 ks ss ls))):=qF hm (by simp[aj,av,dU]);have m4:Cm (m.set p (.ins "Table" (F4 ks ss ls R))):=qF hm (by simp[aj,av,dU,cP]);have hrl:rws.length<=lim:=by have:=q.r.len;have:=o.rl;have:=o.s4;simp[lim];omega
 have e4:ao (Cn pg (n+1+1+1)) (.frz (.comp (.gen @6 [6] @4 .nil (.elt (.blt .tuple %[|@6]))))) [@(.ref p),some k,some s,some l,some r,some t,none] (m.set p (.ins "Table" (F3 ks ss ls)))=.ok (.fz (R.map tupI)) (m.set p (.ins "Table" (F3 ks ss ls))):=by
  let⟨sr,s1,s2,s3⟩:=AF (dN q3.r.at_);have hI:cC (Cn pg (n+1+1+1)) @4 [@(.ref p),some k,some s,some l,some r,some t,none] (m.set p (.ins "Table" (F3 ks ss ls)))=.ok sr (m.set p (.ins "Table" (F3 ks ss ls))):=by rw[cu,aN];exact s1
  let⟨ρ',hc⟩:=jS (C:=Cn pg (n+1+1+1)) (get:=sr.get) (t:=.var 6) (ifs:=.nil) (e:=.blt .tuple %[|@6]) (Z:=br [6] [@(.ref p),some k,some s,some l,some r,some t,none]) (m:=m.set p (.ins "Table" (F3 ks ss ls))) (xs:=rws) (B:=λ x=>[@(.ref p),some k,some s,some l,some r,some t,some x]) (p:=λ _=>true) (g:=λ w=>match aM (m.set p (.ins "Table" (F3 ks ss ls))) w with | some xs=>.tup xs | none=>.non)
   (λ j hj=>by rw[s2,aO hj]) (by rw[s2];exact aK 'o') (λ x _=>by simp[br,aE]) (λ x _ y _=>by simp[aE]) (λ x _=>by erw[bZ]) (λ x hx _=>by
    let⟨j,hj,rfl⟩:=List.mem_iff_getElem.mp hx;have hj':j < R.length:=by rw[<-q.r.len];exact hj
    erw[EWs,aZ,q3.r.row j hj hj']) hrl
  have he:rws.map (λ w=>match aM (m.set p (.ins "Table" (F3 ks ss ls))) w with | some xs=>W.tup xs | none=>.non)=R.map tupI:=by
   apply ext_getElem
   .simp[q.r.len]
   .intro j h1 h2;have hj:j < rws.length:=by simpa using h1
    have hj':j < R.length:=by simpa using h2
    simp[q3.r.row j hj hj']
  rw[jR,he,<-s3] at hc;exact bG (gH (js:=[6]) (ifs:=.nil) (g:=.elt (.blt .tuple %[|@6])) hI hc) rfl m3 (cP R)
 refine kB (d:=⟨6,7,b6⟩) (Z:=[@(.ref p),some k,some s,some l,some r,some t,none]) rfl rfl ?_;show aL _ b6 [@(.ref p),some k,some s,some l,some r,some t,none] m=_;have v0:∀M,ao (Cn pg (n+1+1+1)) @0 [@(.ref p),some k,some s,some l,some r,some t,none] M=.ok (.ref p) M:=λ M=>by erw[EWs]
 rw[b6,ai (cQ (w:=.non) (m1:=m) (by erw[EWs,d0]))];rw[ai (nh (fV (w:=k) (by erw[EWs]) q.k hm (dU _)) (v0 _) (nu (fs':=F1 ks) hp rfl 'd' rfl))];rw[ai (nh (fV (w:=s) (by erw[EWs]) q1.s m1 (dU _)) (v0 _) (nu (fs':=F2 ks ss) (g _) rfl 's' rfl)),set_set];rw[ai (nh (fV (w:=l) (by erw[EWs]) q2.l m2 (dU _)) (v0 _) (nu (fs':=F3 ks ss ls) (g _) rfl 's' rfl)),set_set];rw[ai (nh e4 (v0 _) (nu (fs':=F4 ks ss ls R) (g _) rfl 's' rfl)),set_set];rw[ai (nh (fV (w:=t) (by erw[EWs]) q4.t.at_ m4 (cP L)) (v0 _) (nu (fs':=F5 ks ss ls R L) (g _) rfl 's' rfl)),set_set,ay]
theorem nv{es:Es}{k s l t:W}{R:List (List Int)}(he:bQ (Cn pg (n+1+1+1+1)) es Z M=.ok [k,s,l,r,t] M)(hm:Cm M)(q:Parts M k s l r t ks ss ls rws (L.map tupI) R L)(o:TabOk ks ss ls R L) :
  ao (Cn pg (n+1+1+1+1)) (.frz (.make "Table" es)) Z M=.ok (tab ks ss ls R L) M:=by
 have hp:(M++[O.ins "Table" []])[M.length]?=some (.ins "Table" []):=by simp
 have h1:=uU (n:=n) (hm.push (o:=.ins "Table" []) rfl) hp q.app o;have h2:(M++[O.ins "Table" []]).set M.length (.ins "Table" (F5 ks ss ls R L))=M++[.ins "Table" (F5 ks ss ls R L)]:=by simp
 rw[h2] at h1;have hi:cs.ini.lookup ("Table":Str)=some 6:=rfl;refine qC (l:=[.ins "Table" (F5 ks ss ls R L)]) (w:=.ref M.length) ?_ rfl hm ?_
 .rw[bS,he];erw[aP,p9,Cn,pg,hi];have:aC (D.runN pg (n+1+1+1+1) 6) [.ref M.length,k,s,l,r,t] (M++[O.ins "Table" []])=.ok .non (M++[.ins "Table" (F5 ks ss ls R L)]):=by rw[bz rfl,h1]
  erw[pg] at this;rw[this];rfl
 .have hx:(M++[O.ins "Table" (F5 ks ss ls R L)])[M.length]?=some (.ins "Table" (F5 ks ss ls R L)):=by simp
  erw[mH,BA,hx];rw[Qz 'o'];erw[QM,map_nil];rw[fj _ (by simp[aj,av,dU,cP])];rfl
section
variable{n:Nat}{m:Mem}{ks ss ls:List Str}{R L:List (List Int)}
theorem DB:jJ pg.cs (tab ks ss ls R L) "row_list" m=.ok (.fz (R.map tupI)) m:=rfl
theorem yc:jJ pg.cs (tab ks ss ls R L) "light_list" m=.ok (.fz (L.map tupI)) m:=rfl
theorem wj:jJ pg.cs (tab ks ss ls R L) "key_list" m=.ok (fC ks) m:=rfl
theorem yd:jJ pg.cs (tab ks ss ls R L) "state_list" m=.ok (fC ss) m:=rfl
theorem AU:jJ pg.cs (tab ks ss ls R L) "lamp_list" m=.ok (fC ls) m:=rfl
theorem goes{x:Nat}(h1:s < R.length)(h2:x < R[s].length):aC (D.runN pg (n+1) 11) [tab ks ss ls R L,.int s,.int x] m=.ok (.int R[s][x]) m:=by
 refine aG (m1:=[]) (by simp[aj,av,cy]) (aT (d:=⟨3,3,LX⟩) rfl rfl ?_) rfl;show aL _ LX [@(tab ks ss ls R L),@(.int s),@(.int x)] []=_;have e1:=fm (m:=[]) (w:=.fz (R.map tupI)) (xs:=R.map tupI) (i:=s) rfl (by simpa using h1);have e2:=fm (m:=[]) (w:=tupI R[s]) (xs:=R[s].map .int) (i:=x) rfl (by simpa using h2);rw[LX,aQ (aR (w:=.int R[s][x]) (m1:=[]) ?_)];erw[QD] at e1 e2;erw[EWs,DB,e1,e2]
theorem bh(h:ks.length<=2):aC (D.runN pg (n+1+1) 10) [tab ks ss ls R L] m=.ok (.int (2^ks.length:Nat)) m:=by
 refine aG (m1:=[]) (by simp[aj,av,cy]) (aT (d:=⟨1,1,LW⟩) rfl rfl ?_) rfl;show aL _ LW [@(tab ks ss ls R L)] []=_;have d1:=jm (n:=n) (m:=[]) (w:=fC ks) (xs:=ks.map .str) rfl (by simp;omega);rw[LW,aQ (aR (w:=.int (2^ks.length:Nat)) (m1:=[]) ?_)];erw[Qi] at d1;erw[EWs,wj,d1]
end
theorem toNat_eq{d:Int}(h:0<=d):((d.toNat:Nat):Int)=d:=by omega
theorem NP:Draws (D.runN pg (n+1) 26):=by
 intro m p many hp h0 h1;let⟨A,B,hm⟩:=hp;have hp:p < m.length:=(Qd.mp hm).1;have hs:∀o:O,(m.set p o)[p]?=some o:=λ o=>by simp[hp]
 by_cases hA:0 < A
 .refine⟨A%many,m.set p (gg (A / many) B),?_,⟨_,_,rfl⟩,Int.emod_nonneg _ 'o',Int.emod_lt_of_pos _ h0⟩;simp[D.runN,pg,NL,gA,jw,gn,fS,jL,gy,iP,gM,iD,gz,eB,gO,jk,gP,fB,iQ,fD,fE,fF,fG,fH,fJ,fK,fL,bR,dS,fM,cG,cH,cJ,fN,fO,fP,cK,fQ,cL,cX,gx,cM,bH,bE,eV,aN,ck,dO,gG,dP,dD,gZ,cV,bg,dQ,cD,dF,cF,dR,dg,bC,ef,bD,bV,cW,gv,bS,gw,bW,dj,fR,fY,gU,eO,aE,R.bind,aD,aX,aM,getL,hm,L2.kZ,L2.nP,aZ,rT,outF,hA,h0,h1]
 .refine⟨_,m.set p (gg A ((B*48271+12345)%2147483647)),?_,⟨_,_,rfl⟩,Int.emod_nonneg (((B*48271+12345)%2147483647)*((B*48271+12345)%2147483647)%2147483629 / 7) (by omega:many≠0),Int.emod_lt_of_pos _ h0⟩;have g0:0<=(B*48271+12345)%2147483647:=Int.emod_nonneg _ 'd';have g1:(B*48271+12345)%2147483647 < 2147483647:=Int.emod_lt_of_pos _ 'd';have g2:kO B 48271=true:=by simp[kO]
  have g3:kO ((B*48271+12345)%2147483647) ((B*48271+12345)%2147483647)=true:=by simp[kO];omega
  simp[D.runN,pg,NL,gA,jw,gn,fS,jL,gy,iP,gM,iD,gz,eB,gO,jk,gP,fB,iQ,fD,fE,fF,fG,fH,fJ,fK,fL,bR,dS,fM,cG,cH,cJ,fN,fO,fP,cK,fQ,cL,cX,gx,cM,bH,bE,eV,aN,ck,dO,gG,dP,dD,gZ,cV,bg,dQ,cD,dF,cF,dR,dg,bC,ef,bD,bV,cW,gv,bS,gw,bW,dj,fR,fY,gU,eO,aE,R.bind,aD,aX,aM,getL,hm,hs,L2.kZ,L2.nP,aZ,rT,outF,hA,h0,h1,binop,g2,g3]
theorem draw{many:Int}(hp:iH m p)(h0:0 < many)(h1:many < 1073741824):∃d:Nat,∃m',aC (D.runN pg (n+1) 26) [.ref p,.int many] m=.ok (.int d) m'/\PS p m m'/\(d:Int) < many:=by
 rw[bz rfl];let⟨d,m',h,s,z0,z1⟩:=NP hp h0 h1;exact⟨d.toNat,m',by rw[toNat_eq z0];exact h,s,by omega⟩
theorem cell{k:Nat}:∃c:Int,aC (D.runN pg (n+1) 24) [.fz (ns.map .int),.int k] m=.ok (.int c) m:=by
 by_cases h:k < ns.length
 .refine⟨ns[k],aG (m1:=[]) (by simp[aj,av,bI]) ?_ rfl⟩;have h':(k:Int) < ns.length:=by omega
  simp[D.runN,pg,NK,gA,jw,gn,fS,jL,gy,iP,gM,iD,gz,eB,gO,jk,gP,fB,iQ,fD,fE,fF,fG,fH,fJ,fK,fL,bR,dS,fM,cG,cH,cJ,fN,fO,fP,cK,fQ,cL,cX,gx,cM,bH,bE,eV,aN,ck,dO,gG,dP,dD,gZ,cV,bg,dQ,cD,dF,cF,dR,dg,bC,ef,bD,bV,cW,gv,bS,gw,bW,dj,fR,fY,R.bind,aD,aX,aM,getL,L2.kZ,L2.nP,aZ,outF,h,h']
 .refine⟨0,aG (m1:=[]) (by simp[aj,av,bI]) ?_ rfl⟩;have h':¬(k:Int) < ns.length:=by omega
  simp[D.runN,pg,NK,gA,jw,gn,fS,jL,gy,iP,gM,iD,gz,eB,gO,jk,gP,fB,iQ,fD,fE,fF,fG,fH,fJ,fK,fL,bR,dS,fM,cG,cH,cJ,fN,fO,fP,cK,fQ,cL,cX,gx,cM,bH,bE,eV,aN,ck,dO,gG,dP,dD,gZ,cV,bg,dQ,cD,dF,cF,dR,dg,bC,ef,bD,bV,cW,gv,bS,gw,bW,dj,fR,fY,R.bind,aD,aX,aM,getL,L2.kZ,L2.nP,aZ,outF,h,h']
theorem NQ{k:Nat}(hk:k < 100):∃A B,aC (D.runN pg (n+1+1) 25) [.fz (ns.map .int),.int k] m=.ok (.ref m.length) (m++[gg A B]):=by
 let⟨c,hc⟩:=cell (n:=n) (m:=[]) (ns:=ns) (k:=k);have g:kO 977 k=true:=by simp[kO]
 have hr:D.runN pg (n+1+1) 25 [.fz (ns.map .int),.int k] []=.ok (.ref 0) [gg (if (if c < 0 then -c else c) - 10^18>0 then (if c < 0 then -c else c) - 10^18 else 0) ((if c < 0 then -c else c)%2147483629+977*k+1)]:=by
  refine aT (d:=⟨2,3,Mb⟩) rfl rfl ?_;show aL _ Mb [@(.fz (ns.map .int)),@(.int k),none] []=_;rw[Mb,ai (AB (w:=.int c) (m1:=[]) (by erw[EWs,hc])),aQ (aR (w:=.ref 0) (m1:=_) ?_)];simp[aN,ck,dO,gG,dP,dD,gZ,cV,bg,dQ,cD,dF,cF,dR,dg,bC,ef,bD,bV,cW,gv,bS,gw,bW,dj,fR,fY,R.bind,aZ,binop,g,new,lim]
 exact⟨_,_,(dW (m:=m) (by simp[aj,av,bI]) hr rfl).trans rfl⟩
theorem EV:("abcdefghijklmnopqrstuvwxyz":Str).cps.toList=(List.range 26).map (97+·):=by decide +kernel
abbrev ab:W:=.str "abcdefghijklmnopqrstuvwxyz"
theorem NR{d:Nat}(h:d < 26)(m:Mem):aX ab (.int d) m=.ok (.str ⟨#[97+d]⟩) m:=by
 have hl:("abcdefghijklmnopqrstuvwxyz":Str).length<=lim:=by decide +kernel
 erw[aX];rw[Qs hl,EV,vQ (i:=d) (by simpa using h)];simp
theorem Wd.small(h:Wd z):z.cps.all (· < 0x110000)=true:=by
 rw[Array.all_eq_true];intro i hi;have:=h.az z.cps[i] 's';simp;omega
def ws(cs:List Nat):Str:=⟨cs.toArray⟩
theorem EW{cs:List Nat}(h1:1<=cs.length)(h8:cs.length<=8)(ha:∀c∈cs,97<=c/\c<=122):Wd (ws cs):=⟨by simpa[ws] using h1,by simpa[ws] using h8,λ c hc=>ha c (by simpa[ws] using hc)⟩
theorem AV{cs:List Nat}{c:Nat}(h:cs.length<=100):binop .Add (.str (ws cs)) (.str ⟨#[c]⟩) m=.ok (.str (ws (cs++[c]))) m:=by
 have e:(ws cs).length+(⟨#[c]⟩:Str).length<=lim:=by simp[AO,ws,lim];omega
 erw[binop];rw[Qs e];congr 2;show Str.mk (cs.toArray++#[c])=_;simp[ws]
theorem ye{m1:Mem}{k:Nat}{Z1:Option W}{o3:Option W}(hp:iH m1 p)(hk:k<=8)(hI:cC (Cn pg (n+1)) e [@(.ref p),Z1,@(.str ""),o3,o4,o5,o6] m=.ok (.rng 0 k) m1) :
  ∃cs m' o3',fu (Cn pg (n+1)) (.for_ @3 e vY) [@(.ref p),Z1,@(.str ""),o3,o4,o5,o6] m=.ok (.nx [@(.ref p),Z1,@(.str (ws cs)),o3',o4,o5,o6]) m'/\cs.length=k/\(∀c∈cs,97<=c/\c<=122)/\PS p m1 m':=by
 let⟨ρ',m',hf,cs,o3',rfl,hl,ha,hs⟩:=cR (C:=Cn pg (n+1)) (t:=.var 3) (b:=vY) hI (n:=k) rfl
  (λ i Z m2=>∃cs o3',Z=[@(.ref p),Z1,@(.str (ws cs)),o3',o4,o5,o6]/\cs.length=i/\(∀c∈cs,97<=c/\c<=122)/\PS p m1 m2)
  ⟨[],o3,rfl,rfl,by simp,hp.refl⟩ (λ i Z m2 hi=>by
   rintro⟨cs,o3',rfl,hl,ha,hs⟩;let⟨d,m3,h3,s3,d1⟩:=draw (n:=n) (many:=26) (hs.gg hp) 'd' 'd';refine⟨.int (0+i),[@(.ref p),Z1,@(.str (ws cs)),@(.int (0+i)),o4,o5,o6],[@(.ref p),Z1,@(.str (ws (cs++[97+d]))),@(.int (0+i)),o4,o5,o6],m3,cg hi,by simp[aE],.inl ?_,cs++[97+d],_,rfl,by simp[hl],λ c hc=>?_,hs.trans s3⟩
   .have e2:=NR (d:=d) 'o' m3;have e3:=AV (cs:=cs) (c:=97+d) (m:=m3) 'o';rw[vY,ai (Z1:=[@(.ref p),Z1,@(.str (ws (cs++[97+d]))),@(.int (0+i)),o4,o5,o6]) (m1:=m3) (aF (w:=.str (ws (cs++[97+d]))) (by erw[EWs,h3,e2,e3]) rfl),ay]
   .rcases QW.mp hc with hc | hc
    .exact ha c hc
    .rw[QY] at hc;omega)
  (fun Z m _=>bO 'o')
 exact⟨cs,m',o3',hf,hl,ha,hs⟩
section
variable{C:D.Cx}{i:Nat}{js:List Nat}{it e:E}{ifs:Es}{Z:D.Loc}{m:Mem}{xs:List W}{s:Src}{p:W->Bool}{g:W->W}{t:T}{B:W->D.Loc}
theorem HP(hm:Cm m)(hI:cC C it Z m=.ok s m)(hg:∀j,s.get m j=Src.get (.tup xs) m j)(hn:s.len m=xs.length)(h0:∀x∈xs,aE t x (br js Z)=@(B x))(h1:∀x∈xs,∀y∈xs,aE t y (B x)=@(B y))(ht:∀x∈xs,bw C ifs (B x) m=.ok (p x) m)
  (he:∀x∈xs,p x=true->ao C e (B x) m=.ok (g x) m) (hp:∀x∈xs,p x=true->av (g x)=true) (hl:xs.length<=lim):ao C (.frz (.comp (.gen t js it ifs (.elt e)))) Z m=.ok (.fz ((xs.filter p).map g)) m:=by
 let⟨ρ',hc⟩:=jS (C:=C) (get:=s.get) (t:=t) (ifs:=ifs) (e:=e) (Z:=br js Z) (m:=m) (xs:=xs) (B:=B) (p:=p) (g:=g) (λ j hj=>by rw[hg,aO hj]) (by rw[hg];exact aK 'o') h0 h1 ht he hl;refine bG (gH (js:=js) (ifs:=ifs) (g:=.elt e) hI (by rw[hn];exact hc)) rfl hm (cj.mpr λ x hx=>?_);let⟨y,hy,rfl⟩:=Qf.mp hx;let⟨hy,hpy⟩:=RB.mp hy;exact hp y hy hpy
theorem wk(hm:Cm m)(hI:cC C it Z m=.ok s m)(hg:∀j,s.get m j=Src.get (.tup xs) m j)(hn:s.len m=xs.length)(ht:∀x∈xs,bw C ifs ((br js Z).set i (some x)) m=.ok (p x) m)
  (he:∀x∈xs,p x=true->ao C e ((br js Z).set i (some x)) m=.ok (g x) m) (hp:∀x∈xs,p x=true->av (g x)=true) (hl:xs.length<=lim):ao C (.frz (.comp (.gen (.var i) js it ifs (.elt e)))) Z m=.ok (.fz ((xs.filter p).map g)) m:=
 HP hm hI hg hn (λ x _=>by erw[aE]) (λ x _ y _=>by erw[aE,set_set]) ht he hp hl
theorem f6(hm:Cm m)(hI:cC C it Z m=.ok s m)(hg:∀j,s.get m j=Src.get (.tup xs) m j)(hn:s.len m=xs.length)
  (he:∀x∈xs,ao C e ((br js Z).set i (some x)) m=.ok (g x) m) (hp:∀x∈xs,av (g x)=true) (hl:xs.length<=lim):ao C (.frz (.comp (.gen (.var i) js it .nil (.elt e)))) Z m=.ok (.fz (xs.map g)) m:=by
 have:=wk (C:=C) (i:=i) (js:=js) (it:=it) (ifs:=.nil) (e:=e) (Z:=Z) (p:=λ _=>true) (g:=g) hm hI hg hn (λ x _=>by erw[bZ]) (λ x hx _=>he x hx) (λ x hx _=>hp x hx) hl;rw[jR] at this;exact this
end
theorem HQ:L2.asc ("abcdefghijklmnopqrstuvwxyz":Str)=true:=by decide +kernel
theorem jU:signs ("abcdefghijklmnopqrstuvwxyz":Str)=(List.range 26).map λ d=>W.str ⟨#[97+d]⟩:=by
 unfold signs;rw[EV,Q8];rfl
theorem Pc:cC C (.cst ab) Z m=.ok (.tup (signs ("abcdefghijklmnopqrstuvwxyz":Str))) m:=by rw[oV,ck];simp[R.bind,oS,zJ,HQ]
theorem HR(cs:List Nat):Txt.slice (ws cs) none (some 7)=ws (cs.take 7):=by
 have:=L2.zo (ws cs) 7;rw[show ((7:Nat):Int)=7 from rfl] at this;rw[this];simp[ws]
theorem yf{cs:List Nat}{o3:Option W}(hm:Cm m)(hq:m[q]?=@(.lst (tk.map .str)))(hw:∀z∈tk,Wd z)(hl:tk.length<=20)(h1:1<=cs.length)(h8:cs.length<=8)(ha:∀c∈cs,97<=c/\c<=122) :
  ∃z o4',aL (Cn pg n) %[.asg (.pt @4) (.frz (.comp (.gen @5 [5] (.cst (.str "abcdefghijklmnopqrstuvwxyz")) .nil (.elt (.bin .Add (.slc @2 .none (.some @(7))) @5))))),|.asg (.pt @2) (.idx (.frz (.comp (.gen @6 [6] @4 %[|.cmp .NotIn @6 @1] (.elt @6)))) @(0))]
    [@(.ref p),@(.ref q),@(.str (ws cs)),o3,o4,o5,o6] m=.ok (.nx [@(.ref p),@(.ref q),@(.str z),o3,o4',o5,o6]) m/\Wd z/\z∉tk:=by
 let cand:List Str:=(List.range 26).map λ d=>ws (cs.take 7++[97+d])
 have hcd:∀z∈cand,Wd z:=λ z hz=>by
  let⟨d,hd,rfl⟩:=Qf.mp hz;have hd:=Qo.mp hd;refine EW 's' (by simp;omega) λ c hc=>?_;rcases QW.mp hc with hc | hc
  .exact ha c (mem_of_mem_take hc)
  .rw[QY] at hc;omega
 have hnd:cand.Nodup:=by
  show ((List.range 26).map λ d=>ws (cs.take 7++[97+d])).Nodup;rw[nodup_iff_pairwise_ne,pairwise_map];refine List.Pairwise.imp (λ {a b} hab e=>hab ?_) (Rj.mp nodup_range);have:=RM (λ z:Str=>z.cps.toList) e;simp[ws] at this;exact this
 have e1:ao (Cn pg n) (.frz (.comp (.gen @5 [5] (.cst (.str "abcdefghijklmnopqrstuvwxyz")) .nil (.elt (.bin .Add (.slc @2 .none (.some @(7))) @5))))) [@(.ref p),@(.ref q),@(.str (ws cs)),o3,o4,o5,o6] m=.ok (.fz (cand.map .str)) m:=by
  have:=f6 (C:=Cn pg n) (i:=5) (js:=[5]) (it:=.cst ab) (e:=.bin .Add (.slc @2 .none (.some @(7))) @5) (Z:=[@(.ref p),@(.ref q),@(.str (ws cs)),o3,o4,o5,o6]) (m:=m) (xs:=signs ("abcdefghijklmnopqrstuvwxyz":Str))
   (g:=λ x=>match x with | .str z=>.str ⟨(cs.take 7).toArray++z.cps⟩ | _=>.non) hm Pc (λ j=>rfl) rfl (λ x hx=>by
    rw[jU] at hx;let⟨d,hd,rfl⟩:=Qf.mp hx;have hlim:(ws cs).length<=lim:=by simp[AO,ws,lim];omega
    have e3:=AV (cs:=cs.take 7) (c:=97+d) (m:=m) (by simp;omega);erw[br,EWs,mF];rw[Qs hlim];erw[aP,HR,e3];simp[ws]) (λ x hx=>by
    rw[jU] at hx;let⟨d,hd,rfl⟩:=Qf.mp hx;rfl) (by rw[jU];simp[lim])
  rw[show (signs ("abcdefghijklmnopqrstuvwxyz":Str)).map (λ x=>match x with | .str z=>.str ⟨(cs.take 7).toArray++z.cps⟩ | _=>.non)=cand.map W.str by
   rw[jU,Q8,Q8];refine map_congr_left λ d _=>?_;simp[ws]] at this
  exact this
 have e2:ao (Cn pg n) (.frz (.comp (.gen @6 [6] @4 %[|.cmp .NotIn @6 @1] (.elt @6)))) [some (.ref p),some (.ref q),some (.str (ws cs)),o3,some (.fz (cand.map .str)),o5,o6] m=.ok (.fz ((cand.filter λ z=>!decide (z∈tk)).map .str)) m:=by
  have:=wk (C:=Cn pg n) (i:=6) (js:=[6]) (it:=.var 4) (ifs:=.cons (.cmp .NotIn @6 @1) .nil) (e:=.var 6) (Z:=[@(.ref p),@(.ref q),@(.str (ws cs)),o3,@(.fz (cand.map .str)),o5,o6]) (m:=m) (xs:=cand.map .str) (s:=.tup (cand.map .str))
   (p:=λ x=>match x with | .str z=>!decide (z∈tk) | _=>false) (g:=λ x=>x) hm (by rw[cu];erw[EWs];rfl) (λ j=>rfl) rfl (λ x hx=>by
    let⟨z,hz,rfl⟩:=Qf.mp hx;have:=sV (m:=m) (hcd z hz).small λ z hz=>(hw z hz).small;erw[br,bZ,EVs,fD,fE,fF,fG,fH,fJ,fK,fL,bR,dS,fM,cG,cH,cJ,fN,fO,fP,cK,fQ,cL,cX,gx,cM,bH,bE,eV,dX,dY,dZ,d7,aD,pZ,hq,this];cases decide (z∈tk)<;>rfl) (λ x hx _=>by erw[br,EWs]) (λ x hx _=>by
    let⟨z,hz,rfl⟩:=Qf.mp hx;rfl) (by simp[cand,lim])
  rw[this];congr 2;rw[filter_map];simp;rfl
 have hne:cand.filter (λ z=>!decide (z∈tk))≠[]:=λ he=>by
  rw[filter_eq_nil_iff] at he;have:=pe (k:=tk) hnd λ x hx=>by simpa using he x hx
  simp[cand] at this;omega
 let⟨z,r,hz⟩:=exists_cons_of_ne_nil hne;have Pd:z∈cand.filter λ z=>!decide (z∈tk):=by rw[hz];exact Qu
 let⟨hz1,hz2⟩:=RB.mp Pd;refine⟨z,@(.fz (cand.map .str)),?_,hcd z hz1,by simpa using hz2⟩;rw[hz] at e2;rw[ai (aF e1 rfl),ai (Z1:=[@(.ref p),@(.ref q),@(.str z),o3,@(.fz (cand.map .str)),o5,o6]) (m1:=m) (aF (w:=.str z) ?_ rfl),ay];rw[cF];erw[dX,dY,dZ,d7] at e2 ⊢;rw[e2];erw[EVs,aX,aM,getL];simp[L2.kZ,L2.nP]
theorem word(hp:iH m p)(hm:Cm m)(hpq:p≠q)(hq:m[q]?=@(.lst (tk.map .str)))(hw:∀z∈tk,Wd z)(hl:tk.length<=20) :
  ∃z m1,aC (D.runN pg (n+1+1) 27) [.ref p,.ref q] m=.ok (.str z) (m1.set q (.lst ((tk++[z]).map .str)))/\PS p m m1/\Wd z/\z∉tk:=by
 let⟨d,m1,hd,s1,d1⟩:=draw (n:=n) (many:=8) hp 'd' 'd';have hI:cC (Cn pg (n+1)) (.rng (.bin .Add @(1) (.call 26 %[@0,|@(8)]))) [@(.ref p),@(.ref q),@(.str ""),none,none,none,none] m=.ok (.rng 0 (1+d)) m1:=
  jQ (by erw[EWs,hd,binop];rfl) 'o'
 let⟨cs,m2,o3,hf,hlen,haz,s2⟩:=ye (n:=n) (s1.gg hp) 'o' hI;have s12:=s1.trans s2;have hq2:m2[q]?=some (.lst (tk.map .str)):=(s12.ne hpq).trans hq;have Ov:=EW (cs:=cs) 'o' 'o' haz;have hT:bx (Cn pg (n+1)) (.cmp .In @2 @1) [@(.ref p),@(.ref q),@(.str (ws cs)),o3,none,none,none] m2=.ok (decide (ws cs∈tk)) m2:=by
  have:=sV (m:=m2) Ov.small λ z hz=>(hw z hz).small;erw[EVs,fD,fE,fF,fG,fH,fJ,fK,fL,bR,dS,fM,cG,cH,cJ,fN,fO,fP,cK,fQ,cL,cX,gx,cM,bH,bE,eV,dX,dY,dZ,d7,aD,pZ,hq2,this]
 have fin:∀(z:Str) (o4:Option W),Wd z->z∉tk->fu (Cn pg (n+1)) (.ife (.cmp .In @2 @1) %[.asg (.pt @4) (.frz (.comp (.gen @5 [5] (.cst (.str "abcdefghijklmnopqrstuvwxyz")) .nil (.elt (.bin .Add (.slc @2 .none (.some @(7))) @5))))),|.asg (.pt @2) (.idx (.frz (.comp (.gen @6 [6] @4 %[|.cmp .NotIn @6 @1] (.elt @6)))) @(0))] .nil) [@(.ref p),@(.ref q),@(.str (ws cs)),o3,none,none,none] m2=.ok (.nx [@(.ref p),@(.ref q),@(.str z),o3,o4,none,none]) m2->
   ∃z m1,aC (D.runN pg (n+1+1) 27) [.ref p,.ref q] m=.ok (.str z) (m1.set q (.lst ((tk++[z]).map .str)))/\PS p m m1/\Wd z/\z∉tk:=λ z o4 hz hnz hS=>by
  refine⟨z,m2,?_,s12,hz,hnz⟩;rw[bz rfl];refine aT (d:=⟨2,7,Mc⟩) rfl rfl ?_;show aL _ Mc [@(.ref p),@(.ref q),none,none,none,none,none] m=_;have hap:bJ (.ref q) "append" [.str z] m2=.ok .non (m2.set q (.lst ((tk++[z]).map .str))):=by
   have hlt:(tk.map W.str).length < lim:=by simp[lim];omega
   erw[bJ,hq2,iM,iL];erw[hlt,QL,Rv,QM,map_nil]
  have hk:kdOf m2 (.ref q)=p8 "append":=by erw[kdOf,hq2];rfl
  rw[Mc,ai (Z1:=[@(.ref p),@(.ref q),@(.str ""),none,none,none,none]) (aF (w:=.str "") (m1:=m) (by erw[EVs]) rfl),ai hf,ai hS,
   ai (cQ (w:=.non) (m1:=m2.set q (.lst ((tk++[z]).map .str))) (by erw[EWs,hk,QL,hap])),aQ (aR (w:=.str z) (m1:=m2.set q (.lst ((tk++[z]).map .str))) (by erw[EWs]))]
 by_cases hin:ws cs∈tk
 .rw[Q2 hin] at hT;let⟨z,o4,he,hz,hnz⟩:=yf (n:=n+1) (p:=p) (o3:=o3) (o4:=none) (o5:=none) (o6:=none) (s12.cm hm) hq2 hw hl 'o' 'o' haz;exact fin z o4 hz hnz (by rw[sQ hT,he])
 .rw[QE hin] at hT;exact fin (ws cs) none Ov hin (by rw[gR hT,ay])
theorem qG(a b:Int):PyData.eqv (.int a) (.int b)=decide (a=b):=by
 have:=AR (m:=[]) (a:=a) (b:=b);erw[qP,toD] at this;simpa using this
theorem s8{a:Int}:jH m (.int a) (ns.map .int)=.ok (decide (a∈ns)) m:=by
 erw[jH,jc ns];rw[show toD 60 m (.int a)=some (.int a) from rfl];simp only;congr 1;rw[any_map]
 induction ns with
 | nil=>simp
 | cons y r ih=>
  erw[any_cons,Function.comp,qG,Rq] at ih ⊢;rw[ih]
  by_cases h:a=y
  .subst h;simp
  .have h':¬y=a:=λ e=>h e.symm;simp[h,h']
theorem mem_cast{l:List Nat}:(s:Int)∈l.map (λ t:Nat=>(t:Int))↔s∈l:=by
 constructor
 .intro h;let⟨a,ha,e⟩:=Qf.mp h;have:a=s:=by omega
  exact this▸ha
 .exact λ h=>Qf.mpr ⟨s,h,rfl⟩
def stay(mask many:Nat):List Nat:=(List.range many).filter λ t=>decide (mask / 2^t%2=1)
theorem DC(h0:0 < mask)(h1:mask < 2^many)(h2:many<=4):stay mask many≠[]:=by
 have:∀many < 5,∀mask < 16,0 < mask->mask < 2^many->stay mask many≠[]:=by decide +kernel
 exact this many 'o' mask (QA h1 (Nat.pow_le_pow_right 'd' h2)) h0 h1
theorem K1(l:List Nat):(l.map λ t=>W.int (t:Nat))=(l.map λ t:Nat=>(t:Int)).map W.int:=by rw[Q8];rfl
theorem K2{Z0:Option W}(hm:Cm m)(h4:many<=4) :
  ao (Cn pg n) (.frz (.comp (.gen @5 [5] (.rng @3) %[|.cmp .Eq (.bin .Mod (.bin .FloorDiv @1 (.bin .LShift @(1) @5)) @(2)) @(1)] (.elt @5)))) [Z0,some (.int mask),some (.int s),some (.int many),o4,o5] m=.ok (.fz ((stay mask many).map λ t=>W.int (t:Nat))) m:=by
 have hI:cC (Cn pg n) (.rng @3) [Z0,@(.int mask),@(.int s),@(.int many),o4,o5] m=.ok (.rng 0 many) m:=jQ (by erw[EWs]) 'o';have:=wk (C:=Cn pg n) (i:=5) (js:=[5]) (it:=.rng @3) (ifs:=.cons (.cmp .Eq (.bin .Mod (.bin .FloorDiv @1 (.bin .LShift @(1) @5)) @(2)) @(1)) .nil) (e:=.var 5) (Z:=[Z0,@(.int mask),@(.int s),@(.int many),o4,o5]) (m:=m) (xs:=(List.range many).map λ t=>W.int (t:Nat)) (s:=.rng 0 many)
  (p:=λ x=>match x with | .int t=>decide (mask / 2^t.toNat%2=1) | _=>false) (g:=λ x=>x) hm hI (λ j=>by
   by_cases h:j < many
   .rw[cg h,aO (by simpa using h)];simp
   .rw[bO h,aK (by simpa using h)]) (by simp[Src.len]) (λ x hx=>by
   let⟨t,ht,rfl⟩:=Qf.mp hx;have ht:=Qo.mp ht;have h1:(0:Int)<=t/\(t:Int)<=1000000/\(1:Int).natAbs < 2^64:=⟨by omega,by omega,by decide⟩;have h2:(0:Int) < 1*2^t/\(1*2^t:Int) < 1073741824:=by
    rcases (by omega:t=0\/t=1\/t=2\/t=3) with rfl | rfl | rfl | rfl<;>decide
   have h3:((mask:Int) / (1*2^t)%2=1)↔(mask / 2^t%2=1):=by
    rw[Int.one_mul];have:((mask:Int) / 2^t%2)=((mask / 2^t%2:Nat):Int):=by simp
    rw[this];omega
   erw[br,bZ,EVs,fD,fE,fF,fG,fH,fJ,fK,fL,bR,dS,fM,cG,cH,cJ,fN,fO,fP,cK,fQ,cL,cX,gx,cM,bH,bE,eV,dX,dY,dZ,d7,binop,Q0];rw[Qs h1];erw[aP,Q0];rw[Qs h2];erw[aP,show (0:Int) < 2 from by decide,QL,aD,AR,aP]
   by_cases h:mask / 2^t%2=1
   .rw[Q2 (h3.mpr h),Q2 h];rfl
   .rw[QE λ z=>h (h3.mp z),QE h];rfl) (λ x hx _=>by erw[br,EWs]) (λ x hx _=>by
   let⟨t,ht,rfl⟩:=Qf.mp hx;rfl) 'l'
 have e:(((List.range many).map λ t=>W.int (t:Nat)).filter λ x=>match x with | .int t=>decide (mask / 2^t.toNat%2=1) | _=>false).map (λ x=>x)=(stay mask many).map λ t=>W.int (t:Nat):=by
  rw[map_id'',filter_map]
  .rfl
  .intro x;rfl
 rw[e] at this;exact this
theorem goal(hp:iH m p)(hm:Cm m)(h0:0 < mask)(h1:mask < 2^many)(h4:many<=4) :
  ∃g:Nat,∃m',aC (D.runN pg (n+1+1) 28) [.ref p,.int mask,.int s,.int many] m=.ok (.int g) m'/\PS p m m'/\g∈stay mask many/\(s∈stay mask many->g=s):=by
 have eS:=K2 (n:=n+1) (Z0:=@(.ref p)) (mask:=mask) (s:=s) (many:=many) (o4:=none) (o5:=none) hm h4;have hT:bx (Cn pg (n+1)) (.cmp .In @2 @4) [@(.ref p),@(.int mask),@(.int s),@(.int many),@(.fz ((stay mask many).map λ t=>W.int (t:Nat))),none] m=.ok (decide (s∈stay mask many)) m:=by
  erw[EVs,fD,fE,fF,fG,fH,fJ,fK,fL,bR,dS,fM,cG,cH,cJ,fN,fO,fP,cK,fQ,cL,cX,gx,cM,bH,bE,eV,dX,dY,dZ,d7,aD,pZ,aM,getL];rw[K1,s8,show decide ((s:Int)∈(stay mask many).map λ t:Nat=>(t:Int))=decide (s∈stay mask many) from decide_eq_decide.mpr mem_cast]
 by_cases hin:s∈stay mask many
 .refine⟨s,m,?_,hp.refl,hin,λ _=>rfl⟩;rw[Q2 hin] at hT;rw[bz rfl];refine aT (d:=⟨4,6,HN⟩) rfl rfl ?_;show aL _ HN [@(.ref p),@(.int mask),@(.int s),@(.int many),none,none] m=_;rw[HN,ai (aF eS rfl)];erw[dX,dY,dZ,d7];rw[aQ (w:=.int s) (m1:=m) (by rw[sQ hT,aQ (aR (w:=.int s) (m1:=m) (by erw[EWs]))])]
 .have hpos:0 < (stay mask many).length:=List.length_pos_iff.mpr (DC h0 h1 h4);have hle:(stay mask many).length<=4:=by
   have:=RX (λ t=>decide (mask / 2^t%2=1)) (List.range many);rw[Ry] at this;exact QC this h4
  let⟨d,m',hd,s1,d1⟩:=draw (n:=n) (many:=(stay mask many).length) hp 'o' 'o';have hdl:d < (stay mask many).length:=by omega
  refine⟨(stay mask many)[d],m',?_,s1,QI hdl,λ z=>absurd z hin⟩;rw[QE hin] at hT;rw[bz rfl];refine aT (d:=⟨4,6,HN⟩) rfl rfl ?_;show aL _ HN [@(.ref p),@(.int mask),@(.int s),@(.int many),none,none] m=_;rw[HN,ai (aF eS rfl)];erw[dX,dY,dZ,d7];rw[ai (by rw[gR hT,ay]),aQ (w:=.int (stay mask many)[d]) (m1:=m') (aR ?_)];have hix:=fm (m:=m') (w:=.fz ((stay mask many).map λ t=>W.int (t:Nat))) (xs:=(stay mask many).map λ t=>W.int (t:Nat)) (i:=d) rfl (by simpa using hdl);rw[QD] at hix;erw[EWs,aZ,aM,getL,Qi,hd,hix]
section
variable{C:D.Cx}{i p:Nat}{js:List Nat}{it e:E}{Z:D.Loc}{m:Mem}{xs:List W}{s:Src}{Rr:W->W->Prop}
theorem jd(hp:iH m p)(hm:Cm m)(hI:cC C it Z m=.ok s m)(hg:∀M j,s.get M j=Src.get (.tup xs) M j)(hn:s.len m=xs.length)(hl:xs.length<=lim)
  (he:∀x∈xs,∀m1,PS p m m1->∃w m2,ao C e ((br js Z).set i (some x)) m1=.ok w m2/\PS p m1 m2/\av w=true/\Rr x w) :
  ∃ws m',ao C (.frz (.comp (.gen (.var i) js it .nil (.elt e)))) Z m=.ok (.fz ws) m'/\PS p m m'/\ws.length=xs.length/\∀(j:Nat) (h:j < xs.length) (h':j < ws.length),Rr xs[j] ws[j]:=by
 let⟨acc,ρ',m',e1,h1,h2,h3,h4,h5⟩:=fh (get:=s.get) (t:=.var i) (test:=fun Z m=>bw C .nil Z m) (body:=fun Z m acc=>jj C (.elt e) Z m acc) (n:=xs.length)
  (λ j Z1 m1 acc=>(∀o,Z1.set i o=(br js Z).set i o)/\PS p m m1/\acc.length=j/\(∀w∈acc,av w=true)/\∀(k:Nat) (h:k < xs.length) (h':k < acc.length),Rr xs[k] acc[k]) (λ j Z1 m1 acc hj=>by
   rintro⟨h1,h2,h3,h4,h5⟩;let⟨w,m2,e1,e2,e3,e4⟩:=he xs[j] (QI hj) m1 h2;refine⟨xs[j],(br js Z).set i (some xs[j]),by rw[hg,aO hj],by erw[aE,h1],.inl ⟨m1,acc++[w],(br js Z).set i (some xs[j]),m2,by erw[bZ],?_,λ o=>by simp,h2.trans e2,by simp[h3],λ y hy=>?_,λ k hk hk'=>?_⟩⟩
   .have:acc.length < lim:=by omega
    erw[jK,e1,R.bind,this,QL]
   .rcases QW.mp hy with hy | hy
    .exact h4 y hy
    .rw[QY] at hy;subst hy;exact e3
   .by_cases hka:k < acc.length
    .rw[getElem_append_left hka];exact h5 k hk hka
    .have hk2:k=acc.length:=by simp at hk';omega
     subst hk2;rw[getElem_append_right (Qk _)];erw[h3,Nat.sub_self,getElem_cons_zero];exact e4) (fun Z m acc _=>by rw[hg];exact aK 'o') xs.length 0 (br js Z) m [] 'o' ⟨λ _=>rfl,hp.refl,rfl,by simp,λ k h h'=>by simp at h'⟩
 refine⟨acc,m',bG (m0:=m') (gH (js:=js) (ifs:=.nil) (g:=.elt e) hI (by rw[hn];exact e1)) h2.len (h2.cm hm) (cj.mpr h4),h2,h3,h5⟩
end
theorem iC(k:Nat)(M:Mem)(j:Nat):Src.get (.rng 0 k) M j=Src.get (.tup ((List.range k).map λ t=>W.int (t:Nat))) M j:=by
 by_cases h:j < k
 .rw[cg h,aO (by simpa using h)];simp
 .rw[bO h,aK (by simpa using h)]
theorem HS{a b:Nat}(h:W.int (a:Int)=W.int (b:Int)):a=b:=Int.ofNat.inj (W.int.inj h)
theorem lI{ws:List W}{P:Nat->Prop}(h:∀w∈ws,∃k:Nat,w=.int k/\P k):∃ks:List Nat,ws=ks.map (λ k=>W.int (k:Nat))/\∀k∈ks,P k:=by
 induction ws with
 | nil=>exact⟨[],rfl,by simp⟩
 | cons w r ih=>
  let⟨k,rfl,hk⟩:=h w Qu;let⟨ks,rfl,hks⟩:=ih λ w hw=>h w (Qj _ hw);exact⟨k::ks,rfl,λ x hx=>(Qp.mp hx).elim (λ e=>e▸hk) (hks x)⟩
abbrev bL(r:List Int):W:=.fz (r.map .int)
def HU(many bh:Nat)(R:List (List Int)):Prop:=R.length=many/\(∀ns∈R,ns.length=bh/\∀x∈ns,0<=x/\x < (many:Int))/\qE R
theorem pow2(h:many<=4):2^many<=16:=by
 rcases (by omega:many=0\/many=1\/many=2\/many=3\/many=4) with rfl | rfl | rfl | rfl | rfl<;>decide
theorem DE(h:2<=many):4<=2^many:=by
 have:=Nat.pow_le_pow_right (n:=2) 'd' h;simpa using this
theorem K3{bh:Nat}(hp:iH m p)(hm:Cm m)(h2:2<=many)(h4:many<=4)(hl:bh<=4) :
  ∃R m',aC (D.runN pg (n+1+1+1) 29) [.ref p,.int many,.int bh] m=.ok (.fz (R.map bL)) m'/\PS p m m'/\HU many bh R:=by
 have qS:=pow2 h4;have htp:=DE h2;have hsh:(0:Int)<=many/\(many:Int)<=1000000/\(1:Int).natAbs < 2^64:=⟨by omega,by omega,by decide⟩;have NS:(1:Int)*2^many - 1=((2^many - 1:Nat):Int):=by
  have:((2^many:Nat):Int)=2^many:=by simp
  rw[Int.one_mul];omega
 have Pe:cC (Cn pg (n+1+1)) (.rng @2) [@(.ref p),@(.int many),@(.int bh),none,none,none,none] m=.ok (.rng 0 bh) m:=jQ (by erw[EWs]) 'o';let⟨ws1,m1,e1,s1,l1,r1⟩:=jd (C:=Cn pg (n+1+1)) (i:=4) (p:=p) (js:=[4]) (it:=.rng @2) (e:=.bin .Add @(1) (.call 26 %[@0,|.bin .Sub (.bin .LShift @(1) @1) @(1)])) (Z:=[@(.ref p),@(.int many),@(.int bh),none,none,none,none]) (m:=m) (xs:=(List.range bh).map λ t=>W.int (t:Nat)) (Rr:=λ _ w=>∃k:Nat,w=.int k/\0 < k/\k < 2^many) hp hm Pe (iC bh) (by simp[Src.len]) 'l' (λ x hx M sM=>by
   let⟨d,M2,hd,s2,d1⟩:=draw (n:=n+1) (many:=((2^many - 1:Nat):Int)) (sM.gg hp) 'o' 'o';refine⟨.int (1+d:Nat),M2,?_,s2,rfl,1+d,rfl,by omega,by omega⟩;erw[br,EWs,binop,Q0];rw[Qs hsh];erw[aP,NS,hd,Q0];simp)
 let⟨ks,rfl,hks⟩:=lI (P:=λ k=>0 < k/\k < 2^many) (ws:=ws1) λ w hw=>by
  let⟨j,hj,rfl⟩:=Rz hw;exact r1 j 'o' hj
 have Ds:ks.length=bh:=by simpa using l1
 have Pf:cC (Cn pg (n+1+1)) (.rng @1) [@(.ref p),@(.int many),@(.int bh),@(.fz (ks.map λ k=>W.int (k:Nat))),none,none,none] m1=.ok (.rng 0 many) m1:=jQ (by erw[EWs]) 'o';let⟨ws2,m2,e2,s2,l2,r2⟩:=jd (C:=Cn pg (n+1+1)) (i:=5) (p:=p) (js:=[5]) (it:=.rng @1) (e:=.frz (.comp (.gen @6 [6] @3 .nil (.elt (.call 28 %[@0,@6,@5,|@1]))))) (Z:=[@(.ref p),@(.int many),@(.int bh),@(.fz (ks.map λ k=>W.int (k:Nat))),none,none,none]) (m:=m1) (xs:=(List.range many).map λ t=>W.int (t:Nat))
  (Rr:=λ x w=>∀s:Nat,x=.int s->∃gs:List Nat,w=.fz (gs.map λ k=>W.int (k:Nat))/\gs.length=ks.length/\∀(j:Nat) (h:j < gs.length) (h':j < ks.length),gs[j]∈stay ks[j] many/\(s∈stay ks[j] many->gs[j]=s)) (s1.gg hp) (s1.cm hm) Pf (iC many) (by simp[Src.len]) 'l' (λ x hx M sM=>by
   let⟨s,hs,rfl⟩:=Qf.mp hx;have Ph:cC (Cn pg (n+1+1)) @3 [@(.ref p),@(.int many),@(.int bh),@(.fz (ks.map λ k=>W.int (k:Nat))),none,@(.int s),none] M=.ok (.tup (ks.map λ k=>W.int (k:Nat))) M:=by rw[cu];erw[EWs];rfl
   let⟨ws3,m3,e3,s3,l3,r3⟩:=jd (C:=Cn pg (n+1+1)) (i:=6) (p:=p) (js:=[6]) (it:=.var 3) (e:=.call 28 %[@0,@6,@5,|@1]) (Z:=[@(.ref p),@(.int many),@(.int bh),@(.fz (ks.map λ k=>W.int (k:Nat))),none,@(.int s),none]) (m:=M) (xs:=ks.map λ k=>W.int (k:Nat))
    (Rr:=λ x w=>∃k g:Nat,x=.int k/\w=.int g/\g∈stay k many/\(s∈stay k many->g=s)) (sM.gg (s1.gg hp)) (sM.cm (s1.cm hm)) Ph (λ _ _=>rfl) rfl 'l' (λ x hx M' sM'=>by
     let⟨k,hk,rfl⟩:=Qf.mp hx;let⟨g,m4,h4',s4,g1,g2⟩:=goal (n:=n) (mask:=k) (s:=s) (many:=many) (sM'.gg (sM.gg (s1.gg hp))) (sM'.cm (sM.cm (s1.cm hm))) (hks k hk).1 (hks k hk).2 h4;exact⟨.int g,m4,by erw[br,EWs,h4'],s4,rfl,k,g,rfl,rfl,g1,g2⟩)
   have Pj:ao (Cn pg (n+1+1)) (.frz (.comp (.gen @6 [6] @3 .nil (.elt (.call 28 %[@0,@6,@5,|@1]))))) ((br [5] [some (.ref p),some (.int many),some (.int bh),some (.fz (ks.map λ k=>W.int (k:Nat))),none,none,none]).set 5 @(.int s)) M=.ok (.fz ws3) m3:=by erw[br,dX,dY,dZ,d7];exact e3
   let⟨gs,rfl,_⟩:=lI (P:=λ _=>True) (ws:=ws3) λ w hw=>by
    let⟨j,hj,rfl⟩:=Rz hw;let⟨k,g,_,h,_⟩:=r3 j 'o' hj;exact⟨g,h,trivial⟩
   have IW:gs.length=ks.length:=by simpa using l3
   refine⟨_,m3,Pj,s3,by erw[av];exact kR (λ _=>rfl) _,λ s' hs'=>?_⟩;have:s=s':=HS hs';subst this;refine⟨gs,rfl,IW,λ j h h'=>?_⟩;let⟨k,g,hk,hg,g1,g2⟩:=r3 j (by simpa using h') (by simpa using h);rw[QD] at hk hg;have a1:ks[j]=k:=HS hk;have a2:gs[j]=g:=HS hg;rw[a1,a2];exact⟨g1,g2⟩)
 have hR:∃G:List (List Nat),ws2=G.map (λ gs=>W.fz (gs.map λ k=>W.int (k:Nat)))/\G.length=many/\∀(s:Nat) (h:s < G.length),G[s].length=ks.length/\∀(j:Nat) (h:j < G[s].length) (h':j < ks.length),G[s][j]∈stay ks[j] many/\(s∈stay ks[j] many->G[s][j]=s):=by
  have hw:ws2.length=many:=by simpa using l2
  have hall:∀(s:Nat) (h:s < ws2.length),∃gs:List Nat,ws2[s]=.fz (gs.map λ k=>W.int (k:Nat))/\gs.length=ks.length/\∀(j:Nat) (h:j < gs.length) (h':j < ks.length),gs[j]∈stay ks[j] many/\(s∈stay ks[j] many->gs[j]=s):=λ s h=>
   r2 s (by simpa using hw▸h) h s (by rw[QD,getElem_range])
  refine⟨(List.range many).map λ s=>if h:s < ws2.length then (hall s h).choose else [],?_,by simp,λ s h=>?_⟩
  .refine ext_getElem (by simp[hw]) λ s h h'=>?_;have hs:=(hall s h).choose_spec.1;rw[QD,QD,getElem_range,dif_pos h];exact hs
  .have h':s < ws2.length:=by simpa[hw] using h
   have:=(hall s h').choose_spec.2;rw[QD,getElem_range,dif_pos h'];exact this
 let⟨G,rfl,hGl,hG⟩:=hR;refine⟨G.map (λ gs=>gs.map λ k:Nat=>(k:Int)),m2,?_,s1.trans s2,by simpa using hGl,λ ns hns=>?_,λ i hi x hx=>?_⟩
 .rw[bz rfl];refine aT (d:=⟨3,7,Me⟩) rfl rfl ?_;show aL _ Me [@(.ref p),@(.int many),@(.int bh),none,none,none,none] m=_;rw[Me,ai (aF e1 rfl)];erw[dX,dY,dZ,d7];rw[aQ (aR e2),Q8];have:(λ gs:List Nat=>W.fz (gs.map λ k=>W.int (k:Nat)))=bL∘λ gs=>gs.map λ k:Nat=>(k:Int):=by
   funext gs;erw[Function.comp,bL,Q8];rfl
  rw[this]
 .let⟨gs,hgs,rfl⟩:=Qf.mp hns;let⟨s,hs,rfl⟩:=Rz hgs;let⟨a1,a2⟩:=hG s hs;refine⟨by simp[a1,Ds],λ x hx=>?_⟩;let⟨k,hk,rfl⟩:=Qf.mp hx;let⟨j,hj,rfl⟩:=Rz hk;have:=(a2 j hj 'o').1;have:=Qo.mp ((RB.mp this).1);omega
 .have hi':i < G.length:=by simpa using hi
  let⟨a1,a2⟩:=hG i hi';have hx':x < G[i].length:=by simpa using hx
  have hxk:x < ks.length:=by omega
  let⟨b1,b2⟩:=a2 x hx' hxk;have Pk:G[i][x] < many:=Qo.mp ((RB.mp b1).1);let⟨c1,c2⟩:=hG G[i][x] 'o';refine⟨G[i][x],by simp[hGl,Pk],by simp[c1,hxk],by simp,?_⟩;have:=(c2 x 'o' hxk).2 b1;erw[QD];rw[this]
section
variable{C:D.Cx}{i:Nat}{js:List Nat}{it e:E}{Z:D.Loc}{m:Mem}{xs:List W}{s:Src}
theorem qH(I:Nat->Mem->List W->Prop)(hI:cC C it Z m=.ok s m)(hg:∀M j,I j M=I j M->s.get M j=Src.get (.tup xs) M j)(hn:s.len m=xs.length)(hl:xs.length<=lim)(h0:I 0 m [])
  (hs:∀(j:Nat) (h:j < xs.length) (M:Mem) (acc:List W),I j M acc->acc.length=j->∃w M2,ao C e ((br js Z).set i (some xs[j])) M=.ok w M2/\av w=true/\I (j+1) M2 (acc++[w]))
  (hf:∀M acc,I xs.length M acc->M.length=m.length/\Cm M) :
  ∃ws m',ao C (.frz (.comp (.gen (.var i) js it .nil (.elt e)))) Z m=.ok (.fz ws) m'/\I xs.length m' ws/\ws.length=xs.length:=by
 let⟨acc,ρ',m',e1,h1,h2,h3,h4⟩:=fh (get:=s.get) (t:=.var i) (test:=fun Z m=>bw C .nil Z m) (body:=fun Z m acc=>jj C (.elt e) Z m acc) (n:=xs.length)
  (λ j Z1 m1 acc=>(∀o,Z1.set i o=(br js Z).set i o)/\I j m1 acc/\acc.length=j/\∀w∈acc,av w=true) (λ j Z1 m1 acc hj=>by
   rintro⟨h1,h2,h3,h4⟩;let⟨w,m2,e1,e3,e4⟩:=hs j hj m1 acc h2 h3;refine⟨xs[j],(br js Z).set i (some xs[j]),by rw[hg m1 j rfl,aO hj],by erw[aE,h1],.inl ⟨m1,acc++[w],(br js Z).set i (some xs[j]),m2,by erw[bZ],?_,λ o=>by simp,e4,by simp[h3],λ y hy=>?_⟩⟩
   .have:acc.length < lim:=by omega
    erw[jK,e1,R.bind,this,QL]
   .rcases QW.mp hy with hy | hy
    .exact h4 y hy
    .rw[QY] at hy;subst hy;exact e3) (fun Z m acc _=>by rw[hg m _ rfl];exact aK 'o') xs.length 0 (br js Z) m [] 'o' ⟨λ _=>rfl,h0,rfl,by simp⟩
 let⟨f1,f2⟩:=hf _ _ h2;exact⟨acc,m',bG (m0:=m') (gH (js:=js) (ifs:=.nil) (g:=.elt e) hI (by rw[hn];exact e1)) f1 f2 (cj.mpr h4),h2,h3⟩
end
structure EX(p q L:Nat)(M:Mem)(tk:List Str):Prop where
 gg:iH M p
 cm:Cm M
 len:M.length=L
 at_:M[q]?=@(.lst (tk.map .str))
 wd:∀z∈tk,Wd z
 nd:tk.Nodup
theorem EX.step{L:Nat}(h:EX p q L M tk)(hpq:p≠q)(hl:tk.length<=20):∃z M2,aC (D.runN pg (n+1+1) 27) [.ref p,.ref q] M=.ok (.str z) M2/\EX p q L M2 (tk++[z]):=by
 let⟨z,m1,e,s,hz,hnz⟩:=word (n:=n) h.gg h.cm hpq h.at_ h.wd hl;have hq:q < m1.length:=by rw[s.len];exact(Qd.mp h.at_).1
 let⟨A,B,hA⟩:=s.gg h.gg;refine⟨z,_,e,⟨A,B,?_⟩,(s.cm h.cm).set (cB _ (dU _)),by rw[length_set,s.len,h.len],QN hq,λ y hy=>?_,?_⟩
 .rw[QT hpq.symm];exact hA
 .rcases QW.mp hy with hy | hy
  .exact h.wd y hy
  .rw[QY] at hy;exact hy▸hz
 .rw[nodup_append];refine⟨h.nd,by simp,λ a ha b hb=>?_⟩;rw[QY] at hb;rintro rfl;exact hnz (hb▸ha)
theorem HV{L k:Nat}(h:EX p q L M tk)(hpq:p≠q)(hl:tk.length+k<=20)(hI:cC (Cn pg (n+1+1)) (.rng @7) Z M=.ok (.rng 0 k) M)(h0:∀o,((br [8] Z).set 8 o)[0]?=@(some (.ref p)))(h1:∀o,((br [8] Z).set 8 o)[1]?=@(some (.ref q))) :
  ∃zs M2,ao (Cn pg (n+1+1)) (.frz (.comp (.gen @8 [8] (.rng @7) .nil (.elt (.call 27 %[@0,|@1]))))) Z M=.ok (fC zs) M2/\zs.length=k/\EX p q L M2 (tk++zs):=by
 let⟨ws,M2,e,⟨zs,rfl,hw⟩,hlen⟩:=qH (C:=Cn pg (n+1+1)) (i:=8) (js:=[8]) (it:=.rng @7) (e:=.call 27 %[@0,|@1]) (Z:=Z) (m:=M) (xs:=(List.range k).map λ t=>W.int (t:Nat)) (λ j M acc=>∃zs:List Str,acc=zs.map .str/\EX p q L M (tk++zs)) hI (λ M j _=>iC k M j) (by simp[Src.len]) 'l' ⟨[],rfl,by simpa using h⟩ (λ j hj M acc ⟨zs,ha,hw⟩ hac=>by
   let⟨z,M2,e,hw2⟩:=hw.step (n:=n) hpq (by
    have:zs.length=j:=by rw[<-hac,ha];simp
    simp at hj;simp;omega)
   refine⟨.str z,M2,?_,rfl,zs++[z],by simp[ha],by rw[<-append_assoc];exact hw2⟩;erw[EVs,h0,h1,e]) (λ M acc ⟨zs,_,hw⟩=>⟨by rw[hw.len,h.len],hw.cm⟩)
 exact⟨zs,M2,e,by simpa using hlen,hw⟩
theorem wm{R:List (List Int)}:Rows m (.fz (R.map bL)) (R.map bL) R:=
 ⟨rfl,by simp,λ i h h'=>by rw[QD];rfl,λ _ r hr=>by
  let⟨a,_,rfl⟩:=Qf.mp hr;simp[av,bI]⟩
theorem wu{R:List (List Int)}:Rows m (.fz (R.map tupI)) (R.map tupI) R:=
 ⟨rfl,by simp,λ i h h'=>by rw[QD];rfl,λ _ r hr=>by
  let⟨a,_,rfl⟩:=Qf.mp hr;simp[av,bI]⟩
theorem EY(R:List (List Int)):aj (R.map bL)=true:=kR (λ r=>by simp[av,bI]) R
theorem DF(hp:iH M p)(hm:Cm M)(hl:ls.length<=2)(hI:cC (Cn pg (n+1)) (.idx @5 @(2)) Z M=.ok (.tup (ls.map .str)) M)(h0:∀o,((br [10] Z).set 10 o)[0]?=@(some (.ref p))) :
  ∃(ns:List Int) (M2:Mem),ao (Cn pg (n+1)) (.blt .tuple %[|.frz (.comp (.gen @10 [10] (.idx @5 @(2)) .nil (.elt (.call 26 %[@0,|@(2)]))))]) Z M=.ok (tupI ns) M2/\PS p M M2/\ns.length=ls.length/\∀x∈ns,0<=x/\x < (2:Int):=by
 let⟨ws,M2,e,s,hlen,hr⟩:=jd (C:=Cn pg (n+1)) (i:=10) (p:=p) (js:=[10]) (it:=.idx @5 @(2)) (e:=.call 26 %[@0,|@(2)]) (Z:=Z) (m:=M) (xs:=ls.map .str) (Rr:=λ _ w=>∃k:Nat,w=.int k/\k < 2) hp hm hI (λ _ _=>rfl) rfl 'l' (λ x _ M1 s1=>by
  let⟨d,M2,hd,s2,d1⟩:=draw (n:=n) (many:=2) (s1.gg hp) 'd' 'd';exact⟨.int d,M2,by erw[EVs,h0,hd],s2,rfl,d,rfl,by omega⟩)
 let⟨ks,rfl,hks⟩:=lI (P:=λ k=>k < 2) (ws:=ws) λ w hw=>by
  let⟨j,hj,rfl⟩:=Rz hw;exact hr j 'o' hj
 refine⟨ks.map λ k:Nat=>(k:Int),M2,?_,s,by simpa using hlen,λ x hx=>?_⟩
 .rw[bC,aH,e];erw[aP,aY,aZ,aM,getL,tupI,Q8];rfl
 .let⟨k,hk,rfl⟩:=Qf.mp hx;have:=hks k hk;omega
theorem DG{ws:List W}{P:List Int->Prop}(h:∀w∈ws,∃k,w=tupI k/\P k):∃ks:List (List Int),ws=ks.map tupI/\∀k∈ks,P k:=by
 induction ws with
 | nil=>exact⟨[],rfl,by simp⟩
 | cons w r ih=>
  let⟨k,rfl,hk⟩:=h w Qu;let⟨ks,rfl,hks⟩:=ih λ w hw=>h w (Qj _ hw);exact⟨k::ks,rfl,λ x hx=>(Qp.mp hx).elim (λ e=>e▸hk) (hks x)⟩
theorem table(hp:iH m p)(hm:Cm m) :
  ∃ks ss ls R L m',aC (D.runN pg (n+1+1+1+1+1) 30) [.ref p] m=.ok (.tup [tab ks ss ls R L,.fz (R.map bL)]) m'/\iH m' p/\Cm m'/\TabOk ks ss ls R L:=by
 have hpl:=hp.lt;have hpq:p≠m.length:=by omega
 have p1:iH (m++[.lst []]) p:=hp.app;have c1:Cm (m++[.lst []]):=hm.push rfl;let⟨d,m2,hd,s2,d1⟩:=draw (n:=n+1+1+1) (many:=3) p1 'd' 'd';let⟨a,m3,ha,s3,a1⟩:=draw (n:=n+1+1+1) (many:=3) (s2.gg p1) 'd' 'd';let⟨c,m4,hc,s4,b1⟩:=draw (n:=n+1+1+1) (many:=3) (s3.gg (s2.gg p1)) 'd' 'd';have NT:=s2.trans (s3.trans s4);have p4:=NT.gg p1;have c4:=NT.cm c1;have qS:2^a<=4:=iB 'o';let⟨R,m5,hR,s5,⟨rl,re,rs⟩⟩:=K3 (n:=n+1) (many:=2+d) (bh:=2^a) p4 c4 'o' 'o' qS;have Mt:=NT.trans s5;have Pn:m5[m.length]?=some (.lst (([]:List Str).map .str)):=by rw[Mt.ne hpq];simp
 have w5:EX p m.length (m.length+1) m5 []:=⟨Mt.gg p1,Mt.cm c1,by rw[Mt.len];simp,Pn,by simp,by simp⟩;have eW:∀(o6:Option W),cC (Cn pg (n+1+1+1+1)) @3 [@(.ref p),@(.ref m.length),@(.int (2+d:Nat)),@(.fz [.int a,.int (2+d:Nat),.int c]),@(.fz (R.map bL)),none,none,none,none,none,none] m5=.ok (.tup [.int a,.int (2+d:Nat),.int c]) m5:=λ _=>by rw[cu];erw[EWs];rfl
 let⟨ws,m6,e6,⟨zss,rfl,hz,w6⟩,l6⟩:=qH (C:=Cn pg (n+1+1+1+1)) (i:=7) (js:=[7]) (it:=.var 3) (e:=.frz (.comp (.gen @8 [8] (.rng @7) .nil (.elt (.call 27 %[@0,|@1]))))) (Z:=[@(.ref p),@(.ref m.length),@(.int (2+d:Nat)),@(.fz [.int a,.int (2+d:Nat),.int c]),@(.fz (R.map bL)),none,none,none,none,none,none]) (m:=m5) (xs:=[.int a,.int (2+d:Nat),.int c])
  (λ j M acc=>∃zss:List (List Str),acc=zss.map fC/\zss.map List.length=[a,2+d,c].take j/\EX p m.length (m.length+1) M zss.flatten) (eW none) (λ _ _ _=>rfl) rfl 'm' ⟨[],rfl,rfl,w5⟩ (λ j hj M acc ⟨zss,ha',hz,hw⟩ hac=>by
   have Ow:j < 3:=hj;have hk:∃k:Nat,([.int a,.int (2+d:Nat),.int c]:List W)[j]=.int k/\[a,2+d,c][j]?=some k/\k<=4:=by
    match j,Ow with
    | 0,_=>exact⟨a,rfl,rfl,by omega⟩
    | 1,_=>exact⟨2+d,rfl,rfl,by omega⟩
    | 2,_=>exact⟨c,rfl,rfl,by omega⟩
   let⟨k,hk1,hk2,hk3⟩:=hk;have hfl:zss.flatten.length<=12:=by
    rw[length_flatten,hz]
    match j,Ow with
    | 0,_=>simp
    | 1,_=>simp;omega
    | 2,_=>simp;omega
   rw[hk1];let⟨zs,M2,e,hzl,hw2⟩:=HV (n:=n+1+1) (k:=k) (Z:=(br [7] [@(.ref p),@(.ref m.length),@(.int (2+d:Nat)),@(.fz [.int a,.int (2+d:Nat),.int c]),@(.fz (R.map bL)),none,none,none,none,none,none]).set 7 @(.int k)) hw hpq 'o' (jQ (by erw[br,EWs]) 'o') (λ o=>by erw[br,dX,dY,dZ,d7]) (λ o=>by erw[br,dX,dY,dZ,d7]);refine⟨fC zs,M2,e,by erw[av];exact dU _,zss++[zs],by simp[ha'],?_,by simpa using hw2⟩;rw[Rv,hz,take_add_one,hk2];simp[hzl]) (λ M acc ⟨zss,_,_,hw⟩=>⟨by rw[hw.len,w5.len],hw.cm⟩)
 obtain⟨ks,ss,ls,rfl⟩:∃ks ss ls,zss=[ks,ss,ls]:=by
  have:zss.length=3:=by simpa using RM List.length hz
  match zss,this with
  | [x,y,z],_=>exact⟨x,y,z,rfl⟩
 have hz:ks.length=a/\ss.length=2+d/\ls.length=c:=by simpa using hz
 let⟨z1,z2,z3⟩:=hz;let⟨ws,m7,e7,s7,l7,r7⟩:=jd (C:=Cn pg (n+1+1+1+1)) (i:=9) (p:=p) (js:=[9]) (it:=.rng @2) (e:=.blt .tuple %[|.frz (.comp (.gen @10 [10] (.idx @5 @(2)) .nil (.elt (.call 26 %[@0,|@(2)]))))]) (Z:=[@(.ref p),@(.ref m.length),@(.int (2+d:Nat)),@(.fz [.int a,.int (2+d:Nat),.int c]),@(.fz (R.map bL)),@(.fz ([ks,ss,ls].map fC)),none,none,none,none,none]) (m:=m6) (xs:=(List.range (2+d)).map λ t=>W.int (t:Nat)) (Rr:=λ _ w=>∃ns,w=tupI ns/\(ns.length=ls.length/\∀x∈ns,0<=x/\x < (2:Int))) w6.gg w6.cm (jQ (by erw[EWs]) 'o') (iC _) (by simp[Src.len]) 'l' (λ x hx M sM=>by
   let⟨ns,M2,e,s,h1,h2⟩:=DF (n:=n+1+1+1) (ls:=ls) (Z:=(br [9] [@(.ref p),@(.ref m.length),@(.int (2+d:Nat)),@(.fz [.int a,.int (2+d:Nat),.int c]),@(.fz (R.map bL)),@(.fz ([ks,ss,ls].map fC)),none,none,none,none,none]).set 9 (some x)) (sM.gg w6.gg) (sM.cm w6.cm) 'o' (by rw[mK];erw[br,EWs,aX,aM,getL,QM,map_nil,L2.kZ,L2.nP];rfl) (λ o=>by erw[br,dX,dY,dZ,d7]);exact⟨tupI ns,M2,e,s,by simp[av,bI],ns,rfl,h1,h2⟩)
 let⟨Lg,rfl,hLg⟩:=DG (P:=λ ns=>ns.length=ls.length/\∀x∈ns,0<=x/\x < (2:Int)) (ws:=ws) λ w hw=>by
  let⟨j,hj,rfl⟩:=Rz hw;exact r7 j 'o' hj
 have HW:Lg.length=2+d:=by simpa using l7
 have ok:TabOk ks ss ls R Lg:=by
  refine⟨λ z hz=>w6.wd z (by simpa[or_assoc] using hz),by simpa using w6.nd,by omega,by omega,by omega,by omega,by omega,by omega,λ ns hns=>?_,λ ns hns=>hLg ns hns,rs⟩;let⟨q1,q2⟩:=re ns hns;exact⟨by rw[q1,z1],λ x hx=>by rw[z2];exact q2 x hx⟩
 refine⟨ks,ss,ls,R,Lg,m7,?_,s7.gg w6.gg,s7.cm w6.cm,ok⟩;have hsh:(0:Int)<=a/\(a:Int)<=1000000/\(1:Int).natAbs < 2^64:=⟨by omega,by omega,by decide⟩;have NS:(1:Int)*2^a=((2^a:Nat):Int):=by simp
 have f3:ao (Cn pg (n+1+1+1+1)) (.frz (.lst %[.call 26 %[@0,|@(3)],@2,|.call 26 %[@0,|@(3)]])) [@(.ref p),@(.ref m.length),@(.int (2+d:Nat)),none,none,none,none,none,none,none,none] m2=.ok (.fz [.int a,.int (2+d:Nat),.int c]) m4:=by
  refine bG (m0:=m4) ?_ (by rw[(s3.trans s4).len]) c4 rfl;erw[EWs,ha,hc,new,lim];rfl
 have f4:ao (Cn pg (n+1+1+1+1)) (.frz (.call 29 %[@0,@2,|.bin .LShift @(1) (.idx @3 @(0))])) [@(.ref p),@(.ref m.length),@(.int (2+d:Nat)),@(.fz [.int a,.int (2+d:Nat),.int c]),none,none,none,none,none,none,none] m4=.ok (.fz (R.map bL)) m5:=by
  refine Du (m0:=m5) ?_ s5.len (s5.cm c4) (by erw[av];exact EY _);have hix:=fm (m:=m4) (w:=.fz [.int a,.int (2+d:Nat),.int c]) (xs:=[.int a,.int (2+d:Nat),.int c]) (i:=0) rfl 's';erw[EWs];rw[show ((0:Nat):Int)=0 from rfl] at hix;erw[hix,getElem_cons_zero,aP,binop,Q0];rw[Qs hsh];erw[aP,NS,hR]
 have f7:∀M,bQ (Cn pg (n+1+1+1+1)) %[.idx @5 @(0),.idx @5 @(1),.idx @5 @(2),@4,|@6] [some (.ref p),some (.ref m.length),some (.int (2+d:Nat)),some (.fz [.int a,.int (2+d:Nat),.int c]),some (.fz (R.map bL)),some (.fz ([ks,ss,ls].map fC)),some (.fz (Lg.map tupI)),none,none,none,none] M=.ok [fC ks,fC ss,fC ls,.fz (R.map bL),.fz (Lg.map tupI)] M:=λ M=>by
  erw[EWs,aX,aM,getL,QM,map_nil,L2.kZ,L2.nP];rfl
 rw[bz rfl];refine aT (d:=⟨1,11,Mf⟩) rfl rfl ?_;show aL _ Mf [@(.ref p),none,none,none,none,none,none,none,none,none,none] m=_;rw[Mf,ai (Z1:=[@(.ref p),@(.ref m.length),none,none,none,none,none,none,none,none,none]) (m1:=m++[.lst []]) (aF (w:=.ref m.length) (by erw[EVs,new,RS];rw[Qs (RC _)]) rfl),
  ai (Z1:=[@(.ref p),@(.ref m.length),@(.int (2+d:Nat)),none,none,none,none,none,none,none,none]) (m1:=m2) (aF (w:=.int (2+d:Nat)) (by erw[EWs,hd,binop];rfl) rfl),
  ai (aF f3 rfl)]
 erw[dX,dY,dZ,d7];rw[ai (aF f4 rfl)];erw[dX,dY,dZ,d7];rw[ai (aF e6 rfl)];erw[dX,dY,dZ,d7];rw[ai (aF e7 rfl)];erw[dX,dY,dZ,d7];rw[aQ (aR (w:=.tup [tab ks ss ls R Lg,.fz (R.map bL)]) (m1:=m7) ?_)];have ht:=nv (n:=n) (Z:=[@(.ref p),@(.ref m.length),@(.int (2+d:Nat)),@(.fz [.int a,.int (2+d:Nat),.int c]),@(.fz (R.map bL)),@(.fz ([ks,ss,ls].map fC)),@(.fz (Lg.map tupI)),none,none,none,none]) (f7 m7) (s7.cm w6.cm) ⟨rfl,rfl,rfl,wm,wu⟩ ok;erw[cD,aH,ht,aP];erw[EWs];exact Qs 'm'
def af:Nat->List (List Int)
 | 0=>[[]]
 | n+1=>(af n).map (0::·)++(af n).map (1::·)
def je(m:Mem):Bool:=m.all λ o=>match o with | .lst xs=>aj xs | _=>false
def kE:List W->List Int->Bool
 | [],[]=>true
 | .int a::r,b::s=>a==b&&kE r s
 | _,_=>false
def EZ:List W->List (List Int)->Bool
 | [],[]=>true
 | .tup a::r,b::s=>kE a b&&EZ r s
 | _,_=>false
def kF(k:Nat):R W->Bool
 | .ok (.ref j) M=>j==k+1&&M.length==k+2&&(match M[k+1]? with | some (.lst xs)=>EZ xs (af k) | _=>false)&&je M
 | _=>false
theorem K4:kF 1 (D.runN pg (n+1) 31 [.int 1] [])=true:=by kernel_rfl
theorem K5:kF 2 (D.runN pg (n+1) 31 [.int 2] [])=true:=by kernel_rfl
theorem K6:kF 3 (D.runN pg (n+1) 31 [.int 3] [])=true:=by kernel_rfl
theorem K7:kF 4 (D.runN pg (n+1) 31 [.int 4] [])=true:=by kernel_rfl
theorem DH:∀{ws:List W} {ns:List Int},kE ws ns=true->ws=ns.map .int:=by
 intro ws
 induction ws with
 | nil=>intro ns h;cases ns with | nil=>rfl | cons a r=>simp[kE] at h
 | cons w r ih=>
  intro ns h;cases ns with
  | nil=>simp[kE] at h
  | cons a s=>
   cases w<;>simp[kE] at h;rw[h.1,ih h.2];rfl
theorem uV:∀{ws:List W} {ns:List (List Int)},EZ ws ns=true->ws=ns.map tupI:=by
 intro ws
 induction ws with
 | nil=>intro ns h;cases ns with | nil=>rfl | cons a r=>simp[EZ] at h
 | cons w r ih=>
  intro ns h;cases ns with
  | nil=>simp[EZ] at h
  | cons a s=>
   cases w<;>simp[EZ] at h;rw[DH h.1,ih h.2];rfl
theorem wA{k:Nat}(h1:1<=k)(h4:k<=4):∃M,D.runN pg (n+1) 31 [.int k] []=.ok (.ref (k+1)) M/\M.length=k+2/\M[k+1]?=some (.lst ((af k).map tupI))/\je M=true:=by
 have h:kF k (D.runN pg (n+1) 31 [.int k] [])=true:=by
  rcases (by omega:k=1\/k=2\/k=3\/k=4) with rfl | rfl | rfl | rfl
  .exact K4
  .exact K5
  .exact K6
  .exact K7
 generalize D.runN pg (n+1) 31 [.int k] []=r at h
 match r,h with
 | .ok (.ref j) M,h=>
  erw[kF,Qn,Ro] at h;let⟨⟨⟨rfl,h2⟩,h3⟩,h4⟩:=h;refine⟨M,rfl,h2,?_,h4⟩;split at h3
  .ext xs e;rw[e,uV h3]
  .cases h3
theorem DI(k:Nat):av w=true->BD k w=w:=
 W.rec (motive_1:=λ w=>av w=true->BD k w=w) (motive_2:=λ w=>aj w=true->ng k w=w) (λ _=>rfl) (λ _ _=>rfl) (λ _ _=>rfl) (λ _ _=>rfl)
  (λ _ i e=>RM W.tup (i e)) (λ _ i e=>RM W.fz (i e)) (λ c ks _ i e=>RM (W.obj c ks) (i e)) (λ _ e=>nomatch (show false=true from e)) (λ _=>rfl) (λ x r a b e=>by
   have e:=Qt.mp e;show BD k x::ng k r=x::r;rw[a e.1,b e.2]) w
theorem g8(k:Nat){w:List W}(e:aj w=true):ng k w=w:=by
 induction w with
 | nil=>rfl
 | cons x r ih=>
  have e:=Qt.mp e;show BD k x::ng k r=x::r;rw[DI k e.1,ih e.2]
theorem s9(k:Nat)(e:je M=true):M.map (BE k)=M:=by
 induction M with
 | nil=>rfl
 | cons o r ih=>
  erw[je,all_cons,Qn] at e;rw[QM,ih (by simpa[je] using e.2)];cases o with
  | lst xs=>rw[BE,g8 k e.1]
  | _=>cases e.1
theorem HX(h:Cm m)(e:je M=true):Cm (m++M):=h.app λ o ho=>by
 have:=Qx.mp e o ho;cases o with
 | lst xs=>exact cB _ this
 | _=>cases this
theorem ny(k:Nat):(af k).length=2^k:=by
 induction k with
 | zero=>rfl
 | succ k ih=>rw[af,Q5,Qi,Qi,ih,Nat.pow_succ];omega
theorem DJ:∀k:Nat,(af k).Nodup:=by
 intro k
 induction k with
 | zero=>simp[af]
 | succ k ih=>
  rw[af,nodup_append];have hc:∀b:Int,((af k).map (b::·)).Nodup:=λ b=>by
   rw[nodup_iff_pairwise_ne,pairwise_map];exact List.Pairwise.imp (λ {x y} h e=>h (List.cons.inj e).2) (Rj.mp ih)
  refine⟨hc 0,hc 1,λ a ha b hb=>?_⟩;let⟨x,_,rfl⟩:=Qf.mp ha;let⟨y,_,rfl⟩:=Qf.mp hb;intro e;have:=(List.cons.inj e).1;omega
theorem nA:∀{l:List α} {d:Nat} (h:d < l.length),(l[d]::l.eraseIdx d).Perm l:=by
 intro l
 induction l with
 | nil=>intro d h;simp at h
 | cons x r ih=>
  intro d h;cases d with
  | zero=>exact List.Perm.refl _
  | succ d=>
   have hd:d < r.length:=by simpa using h
   show (r[d]::x::r.eraseIdx d).Perm (x::r);exact(List.Perm.swap x r[d] _).trans ((ih hd).cons x)
theorem jV(f:α->J):∀(l:List α) (d:Nat),(l.map f).eraseIdx d=(l.eraseIdx d).map f:=by
 intro l
 induction l with
 | nil=>intro d;rfl
 | cons x r ih=>
  intro d;cases d with
  | zero=>rfl
  | succ d=>show f x::(r.map f).eraseIdx d=_;rw[ih];rfl
structure K8(p q L:Nat)(all:List (List Int))(M:Mem)(ns rest:List (List Int)):Prop where
 gg:iH M p
 cm:Cm M
 len:M.length=L
 at_:M[q]?=@(.lst (rest.map tupI))
 perm:(ns++rest).Perm all
theorem K8.step{L:Nat}{all:List (List Int)}{ns rest:List (List Int)}(h:K8 p q L all M ns rest)(hpq:p≠q)(hr:0 < rest.length)(hl:rest.length<=16)(h0:Z[0]?=@(some (.ref p)))(h3:Z[3]?=@(some (.ref q))) :
  ∃a rest' M2,ao (Cn pg (n+1)) (.meth @3 "pop" %[|.call 26 %[@0,|.blt .len %[|@3]]]) Z M=.ok (tupI a) M2/\K8 p q L all M2 (ns++[a]) rest'/\rest'.length+1=rest.length:=by
 let⟨d,m1,hd,s,d1⟩:=draw (n:=n) (many:=rest.length) h.gg 'o' 'o';have hq1:m1[q]?=some (.lst (rest.map tupI)):=(s.ne hpq).trans h.at_;have NU:q < m1.length:=(Qd.mp hq1).1;have hdl:d < rest.length:=by omega
 have hk:kdOf M (.ref q)=p8 "pop":=by erw[kdOf,h.at_];rfl
 have HY:bJ (.ref q) "pop" [.int d] m1=.ok (tupI rest[d]) (m1.set q (.lst ((rest.eraseIdx d).map tupI))):=by
  have hb:-(2^63)<=(d:Int)/\(d:Int) < 2^63:=by omega
  have hs:seqIndex? (d:Int) (rest.map tupI).length=some d:=by
   unfold seqIndex?;erw[Qi];rw[Qz (by omega:¬(d:Int) < 0)];simp;omega
  have hg:(rest.map tupI)[d]?=some (tupI rest[d]):=by simp[hdl]
  have hop:oQ q (rest.map tupI) [.int d] m1=.ok (tupI rest[d]) (m1.set q (.lst ((rest.eraseIdx d).map tupI))):=by
   erw[oQ];rw[Qs hb];erw[hs,hg,jV]
  erw[bJ,hq1,iM];rw[Qz 'd',Qz 'd',Qz 'd',Qs trivial];exact hop
 let⟨A,B,hA⟩:=s.gg h.gg;refine⟨rest[d],rest.eraseIdx d,m1.set q (.lst ((rest.eraseIdx d).map tupI)),?_,⟨⟨A,B,?_⟩,(s.cm h.cm).set (cB _ (cP _)),by rw[length_set,s.len,h.len],QN NU,?_⟩,by rw[length_eraseIdx_of_lt hdl];omega⟩
 .erw[EVs,h0,h3,hk,QL,aZ,aM,getL,h.at_,Qi,hd,HY]
 .rw[QT hpq.symm];exact hA
 .refine List.Perm.trans ?_ h.perm;rw[append_assoc];refine List.Perm.append_left ns ?_;exact nA hdl
theorem tags(hp:iH m p)(hm:Cm m)(h2:2<=many)(h4:many<=4) :
  ∃(N:List (List Int)) (size:Nat) (m':Mem),aC (D.runN pg (n+1+1) 32) [.ref p,.int many] m=.ok (.fz (N.map tupI)) m'/\N.length=many/\N.Nodup/\1<=size/\size<=4/\(∀a∈N,a∈af size)/\iH m' p/\Cm m':=by
 have hpl:=hp.lt;obtain⟨least,hle,hl1,hl2,hlm⟩:∃least:Nat,(1:Int)+(if (decide ((many:Int)>2))=true then 1 else 0)=least/\1<=least/\least<=2/\many<=2^least:=by
  by_cases h:(many:Int)>2
  .exact⟨2,by simp[h],by omega,by omega,by simpa using h4⟩
  .exact⟨1,by simp[h],by omega,by omega,by simp;omega⟩
 let⟨d,m1,hd,s1,d1⟩:=draw (n:=n) (many:=5 - least) hp 'o' 'o';let⟨M,hM,hMl,hMq,hMp⟩:=wA (n:=n) (k:=least+d) 'o' 'o';have hall:aC (D.runN pg (n+1) 31) [.int (least+d:Nat)] m1=.ok (.ref (m1.length+(least+d+1))) (m1++M):=by
  rw[dW rfl hM rfl,s9 _ hMp];rfl
 have qS:2^least<=2^(least+d):=Nat.pow_le_pow_right 'd' 'o';have Po:2^(least+d)<=16:=pow2 'o';have hq:(m1++M)[m1.length+(least+d+1)]?=some (.lst ((af (least+d)).map tupI)):=by
  rw[QH 'o'];rw[show m1.length+(least+d+1) - m1.length=least+d+1 by omega];exact hMq
 have hpq:p≠m1.length+(least+d+1):=by have:=s1.len;omega
 have n0:K8 p (m1.length+(least+d+1)) (m1++M).length (af (least+d)) (m1++M) [] (af (least+d)):=⟨(s1.gg hp).app,HX (s1.cm hm) hMp,rfl,hq,List.Perm.refl _⟩;have hI:cC (Cn pg (n+1)) (.rng @1) [@(.ref p),@(.int many),@(.int least),@(.ref (m1.length+(least+d+1))),none] (m1++M)=.ok (.rng 0 many) (m1++M):=jQ (by erw[EWs]) 'o';let⟨ws,m2,e,⟨ns,rest,rfl,hr,hN⟩,hlen⟩:=qH (C:=Cn pg (n+1)) (i:=4) (js:=[4]) (it:=.rng @1) (e:=.meth @3 "pop" %[|.call 26 %[@0,|.blt .len %[|@3]]]) (Z:=[@(.ref p),@(.int many),@(.int least),@(.ref (m1.length+(least+d+1))),none]) (m:=m1++M) (xs:=(List.range many).map λ t=>W.int (t:Nat))
  (λ j M' acc=>∃ns rest,acc=ns.map tupI/\rest.length+j=2^(least+d)/\K8 p (m1.length+(least+d+1)) (m1++M).length (af (least+d)) M' ns rest) hI (λ M j _=>iC many M j) (by simp[Src.len]) 'l' ⟨[],_,rfl,by rw[ny];rfl,n0⟩ (λ j hj M' acc ⟨ns,rest,ha,hr,hN⟩ hac=>by
   have hj:j < many:=by simpa using hj
   let⟨a,rest',M2,e,hN2,hl⟩:=hN.step (n:=n) hpq 'o' 'o' (Z:=(br [4] [@(.ref p),@(.int many),@(.int least),@(.ref (m1.length+(least+d+1))),none]).set 4 (some ((List.range many).map λ t=>W.int (t:Nat))[j])) (by erw[br,dX,dY,dZ,d7]) (by erw[br,dX,dY,dZ,d7]);exact⟨tupI a,M2,e,by simp[av,bI],ns++[a],rest',by simp[ha],by omega,hN2⟩) (λ M' acc ⟨ns,rest,_,_,hN⟩=>⟨hN.len,hN.cm⟩)
 have hnd:ns.Nodup:=(List.nodup_append.mp (hN.perm.nodup_iff.mpr (DJ _))).1;refine⟨ns,least+d,m2,?_,by simpa using hlen,hnd,by omega,by omega,λ a ha=>hN.perm.mem_iff.mp (mem_append_left _ ha),hN.gg,hN.cm⟩;rw[bz rfl];refine aT (d:=⟨2,5,Mg⟩) rfl rfl ?_;show aL _ Mg [@(.ref p),@(.int many),none,none,none] m=_;rw[Mg,ai (Z1:=[@(.ref p),@(.int many),@(.int least),none,none]) (m1:=m) (aF (w:=.int least) ?_ rfl),ai (Z1:=[@(.ref p),@(.int many),@(.int least),@(.ref (m1.length+(least+d+1))),none]) (m1:=m1++M) (aF (w:=.ref (m1.length+(least+d+1))) ?_ rfl),aQ (aR e)]
 .have:(least:Int)+d=((least+d:Nat):Int):=by omega
  erw[EWs,binop,hd,this,hall]
 .erw[EWs,aD,aZ,binop,<-hle]
def gW:List Int->List Int->List Int->Bool
 | a::as,b::bs,x::xs=>(a != b||x==a)&&gW as bs xs
 | _,_,_=>true
def sp(a b:List Int):List (List Int):=(af a.length).filter (gW a b)
def E1(l:List (List Int)):R W->Bool
 | .ok (.fz xs) _=>EZ xs l
 | _=>false
theorem AW:([1,2,3,4].all λ k=>(af k).all λ a=>(af k).all λ b=>E1 (sp a b) (D.runN pg (n+1+1) 1 [tupI a,tupI b] []))=true:=by kernel_rfl
theorem AX{l:List (List Int)}{r:R W}(h:E1 l r=true):∃M,r=.ok (.fz (l.map tupI)) M:=by
 match r,h with
 | .ok (.fz xs) M,h=>exact⟨M,by rw[uV h]⟩
theorem k4{k:Nat}(h1:1<=k)(h4:k<=4):k∈[1,2,3,4]:=by
 rcases (by omega:k=1\/k=2\/k=3\/k=4) with rfl | rfl | rfl | rfl<;>simp
theorem span{k:Nat}{a:List Int}(h1:1<=k)(h4:k<=4)(ha:a∈af k)(hb:b∈af k):aC (D.runN pg (n+1+1) 1) [tupI a,tupI b] m=.ok (.fz ((sp a b).map tupI)) m:=by
 have h:=Qx.mp (Qx.mp (Qx.mp (AW (n:=n)) k (k4 h1 h4)) a ha) b hb;let⟨M,hM⟩:=AX h;exact aG (by simp[aj,av,bI]) hM (by erw[av];exact cP _)
def cm(a b c d:List Int):List (List Int):=(sp a b).filter λ x=>decide (x∈sp c d)
def qT:List Int->List Int->List Int->List Int->Bool
 | a::as,b::bs,c::cs,d::ds=>(a==b&&c==d&&a != c)||qT as bs cs ds
 | _,_,_,_=>false
theorem aB{k:Nat}{a:List Int}:a∈af k↔a.length=k/\∀i∈a,i=0\/i=1:=by
 induction k generalizing a with
 | zero=>
  erw[af,QY];constructor
  .rintro rfl;simp
  .rintro⟨h,_⟩;exact List.length_eq_zero_iff.mp h
 | succ k ih=>
  rw[af,mem_append,mem_map,mem_map];constructor
  .rintro (⟨r,hr,rfl⟩ | ⟨r,hr,rfl⟩)
   .let⟨h1,h2⟩:=ih.mp hr;exact⟨by simp[h1],λ i hi=>(Qp.mp hi).elim (λ e=>.inl e) (h2 i)⟩
   .let⟨h1,h2⟩:=ih.mp hr;exact⟨by simp[h1],λ i hi=>(Qp.mp hi).elim (λ e=>.inr e) (h2 i)⟩
  .rintro⟨h1,h2⟩;cases a with
   | nil=>simp at h1
   | cons x r=>
    have hr:=ih.mpr ⟨by simpa using h1,λ i hi=>h2 i (Qj _ hi)⟩;rcases h2 x Qu with rfl | rfl
    .exact .inl ⟨r,hr,rfl⟩
    .exact .inr ⟨r,hr,rfl⟩
theorem tu:([1,2,3,4].all λ k=>decide ((af k).Pairwise λ x y=>HT.lexLt y x=false))=true:=by decide +kernel
theorem AY(x:List Int):HT.lexLt x x=false:=by
 induction x with
 | nil=>rfl
 | cons a r ih=>rw[HT.gq,Qs rfl,ih]
theorem least{k:Nat}(h1:1<=k)(h4:k<=4){p:List Int->Bool}:(((af k).filter p).all λ ns=>!HT.lexLt ns (((af k).filter p).headD []))=true:=by
 have hs:=of_decide_eq_true (Qx.mp tu k (k4 h1 h4));have hf:=hs.filter p;cases hl:(af k).filter p with
 | nil=>rfl
 | cons x r=>
  rw[hl] at hf;have:=(List.pairwise_cons.mp hf).1;erw[headD_cons,all_cons,AY,Bool.not_false,Bool.true_and,all_eq_true];intro y hy;rw[this y hy];rfl
theorem tB:∀(a b:List Int),PyData.eqvAll (a.map .int) (b.map .int)=decide (a=b):=by
 intro a
 induction a with
 | nil=>intro b;cases b<;>simp[PyData.eqvAll]
 | cons x r ih=>
  intro b;cases b with
  | nil=>simp[PyData.eqvAll]
  | cons y s=>
   erw[QM,PyData.eqvAll,ih,qG]
   by_cases h:x=y<;>by_cases h':r=s<;>simp[h,h']
theorem lJ(a b:List Int):PyData.eqv (.tuple (a.map .int)) (.tuple (b.map .int))=decide (a=b):=by
 rw[<-tB,PyData.eqv.eq_def]
theorem gB{a:List Int}:toD (n+1+1) m (tupI a)=some (.tuple (a.map .int)):=by rw[vS,jc];rfl
theorem AZ{a:List Int}{ns:List (List Int)}:jH m (tupI a) (ns.map tupI)=.ok (decide (a∈ns)) m:=by
 have h1:toD 60 m (tupI a)=some (.tuple (a.map .int)):=gB;have h2:dw (toD 60 m) (ns.map tupI)=some (ns.map λ b=>PyData.tuple (b.map .int)):=fU λ b _=>gB;erw[jH,h1,h2];have:((ns.map λ b=>PyData.tuple (b.map .int)).any λ e=>PyData.eqv e (.tuple (a.map .int)))=decide (a∈ns):=by
  rw[any_map]
  induction ns with
  | nil=>simp
  | cons y r ih=>
   have:=ih (fU λ b _=>gB);erw[any_cons,Function.comp,lJ,Rq] at this ⊢;rw[this]
   by_cases h:a=y
   .subst h;simp
   .have h':¬y=a:=λ e=>h e.symm;simp[h,h']
 rw[this]
abbrev aU(N:List (List Int)):W:=.fz (N.map tupI)
abbrev pW(s t:Nat):W:=.tup [.int s,.int t]
theorem fW{N:List (List Int)}(h:s < N.length):aX (aU N) (.int s) m=.ok (tupI N[s]) m:=by
 have:=fm (m:=m) (w:=aU N) (xs:=N.map tupI) (i:=s) rfl (by simpa using h);rw[QD] at this;exact this
def oh:Option (List Int)->W
 | none=>.non
 | some x=>tupI x
structure aA(k:Nat)(N:List (List Int)):Prop where
 k1:1<=k
 k4:k<=4
 mem:∀a∈N,a∈af k
 nd:N.Nodup
 len:N.length<=4
theorem aA.at_{k:Nat}{N:List (List Int)}(h:aA k N)(hs:s < N.length):N[s]∈af k:=h.mem _ (QI hs)
theorem tD:∀(a b:List Int),kE (a.map .int) b=decide (a=b):=by
 intro a
 induction a with
 | nil=>intro b;cases b<;>simp[kE]
 | cons x r ih=>intro b;cases b with
  | nil=>simp[kE]
  | cons y s=>erw[QM,kE,ih];by_cases h:x=y<;>by_cases h':r=s<;>simp[h,h']
theorem wB(y:List Int)(l:List (List Int)):(l.any λ z=>kE (y.map .int) z)=decide (y∈l):=by
 rw[Bool.eq_iff_iff,any_eq_true,decide_eq_true_iff];constructor
 .rintro⟨z,hz,e⟩;rw[tD,decide_eq_true_iff] at e;exact e▸hz
 .exact λ h=>⟨y,h,by rw[tD];simp⟩
theorem HZ{k:Nat}{N:List (List Int)}(h:aA k N)(hs:s < N.length)(ht:t < N.length):(sp N[s] N[t]).length<=16:=by
 have h1:(sp N[s] N[t]).length<=(af N[s].length).length:=RX ..;rw[ny] at h1;have hk:=(aB.mp (h.at_ hs)).1;rw[hk] at h1;exact QC h1 (pow2 h.k4)
theorem Pp{k j:Nat}{N:List (List Int)}{e1 e2:E}(h:aA k N)(hs:s < N.length)(ht:t < N.length)(hu:u < N.length)(hv:v < N.length)
  (h1:ao (Cn pg (n+1+1)) e1 Z []=.ok (tupI N[s]) []) (h2:ao (Cn pg (n+1+1)) e2 Z []=.ok (tupI N[t]) []) (hij:i≠j) (hi:i < Z.length) (hj:Z[j]?=@(some (aU (sp N[u] N[v])))) :
  ao (Cn pg (n+1+1)) (.frz (.comp (.gen (.var i) [i] (.call 1 %[e1,|e2]) %[|.cmp .In (.var i) (.var j)] (.elt (.var i))))) Z []=.ok (aU (cm N[s] N[t] N[u] N[v])) []:=by
 have hI:cC (Cn pg (n+1+1)) (.call 1 %[e1,|e2]) Z []=.ok (.tup ((sp N[s] N[t]).map tupI)) []:=by
  rw[jv,dH,aH,h1];erw[aP];rw[aH,h2];erw[aP,aY,span h.k1 h.k4 (h.at_ hs) (h.at_ ht)];rfl
 have iV:∀x:W,((br [i] Z).set i (some x))[i]?=some (some x):=λ x=>by simp[br,hi]
 have K9:∀x:W,((br [i] Z).set i (some x))[j]?=some @(aU (sp N[u] N[v])):=λ x=>by erw[br,set_set];rw[QT hij];exact hj
 have:=wk (C:=Cn pg (n+1+1)) (i:=i) (js:=[i]) (it:=.call 1 %[e1,|e2]) (ifs:=.cons (.cmp .In (.var i) (.var j)) .nil) (e:=.var i) (Z:=Z) (m:=[]) (xs:=(sp N[s] N[t]).map tupI) (s:=.tup ((sp N[s] N[t]).map tupI))
  (p:=λ x=>match x with | .tup ws=>(sp N[u] N[v]).any λ y=>kE ws y | _=>false) (g:=λ x=>x) Cm.nil hI (λ j=>rfl) rfl (λ x hx=>by
   let⟨y,hy,rfl⟩:=Qf.mp hx;have hm:=AZ (m:=[]) (a:=y) (ns:=sp N[u] N[v]);have he:=wB y (sp N[u] N[v]);erw[bZ,EVs,fD,fE,fF,fG,fH,fJ,fK,fL,bR,dS,fM,cG,cH,cJ,fN,fO,fP,cK,fQ,cL,cX,gx,cM,bH,bE,eV,iV,K9,aD,pZ,aM,getL,hm,he];cases decide (y∈sp N[u] N[v])<;>rfl) (λ x hx _=>by erw[EVs,iV]) (λ x hx _=>by
   let⟨y,hy,rfl⟩:=Qf.mp hx;simp[av,bI]) (by rw[Qi];have:=HZ h hs ht;erw[lim];omega)
 rw[this,map_id'' (λ _=>rfl),filter_map];have:((λ x=>match x with | .tup ws=>(sp N[u] N[v]).any λ y=>kE ws y | _=>false)∘tupI)=λ y=>decide (y∈sp N[u] N[v]):=by
  funext y;exact wB y (sp N[u] N[v])
 rw[this];rfl
theorem H8{k:Nat}{N:List (List Int)}(h:aA k N){t u v:List Int}(hs:s < N.length):cm N[s] t u v=(af k).filter λ x=>decide (x∈sp u v)&&gW N[s] t x:=by
 show ((af N[s].length).filter (gW N[s] t)).filter _=_;rw[filter_filter,(aB.mp (h.at_ hs)).1]
theorem oi{k:Nat}{N:List (List Int)}(h:aA k N)(hs:s < N.length)(ht:t < N.length)(hu:u < N.length)(hv:v < N.length) :
  aC (D.runN pg (n+1+1+1) 21) [aU N,pW s t,pW u v] m=.ok (oh (cm N[s] N[t] N[u] N[v]).head?) m:=by
 have hr:D.runN pg (n+1+1+1) 21 [aU N,pW s t,pW u v] []=.ok (oh (cm N[s] N[t] N[u] N[v]).head?) []:=by
  refine aT (d:=⟨3,9,L8⟩) rfl rfl ?_;show aL _ L8 [@(aU N),@(pW s t),@(pW u v),none,none,none,none,none,none] []=_;have t6:=span (n:=n) (m:=[]) h.k1 h.k4 (h.at_ hu) (h.at_ hv);have e7:ao (Cn pg (n+1+1)) (.call 1 %[.idx @0 @5,|.idx @0 @6]) [@(aU N),@(pW s t),@(pW u v),@(.int s),@(.int t),@(.int u),@(.int v),none,none] []=.ok (aU (sp N[u] N[v])) []:=by
   erw[EWs,fW hu,fW hv,t6]
  have e8:=Pp (n:=n) (i:=8) (j:=7) (Z:=[@(aU N),@(pW s t),@(pW u v),@(.int s),@(.int t),@(.int u),@(.int v),@(aU (sp N[u] N[v])),none]) (e1:=.idx @0 @3) (e2:=.idx @0 @4) h hs ht hu hv (by erw[EWs,fW hs]) (by erw[EWs,fW ht]) 'd' 's' rfl;rw[L8,ai (Z1:=[@(aU N),@(pW s t),@(pW u v),@(.int s),@(.int t),none,none,none,none]) (m1:=[]) (by simp[fS,jL,gy,iP,gM,iD,gz,eB,gO,jk,gP,fB,iQ,aN,ck,dO,gG,dP,dD,gZ,cV,bg,dQ,cD,dF,cF,dR,dg,bC,ef,bD,bV,cW,gv,bS,gw,bW,dj,fR,gU,eO,aE,R.bind,aM]),
   ai (Z1:=[@(aU N),@(pW s t),@(pW u v),@(.int s),@(.int t),@(.int u),@(.int v),none,none]) (m1:=[]) (by simp[fS,jL,gy,iP,gM,iD,gz,eB,gO,jk,gP,fB,iQ,aN,ck,dO,gG,dP,dD,gZ,cV,bg,dQ,cD,dF,cF,dR,dg,bC,ef,bD,bV,cW,gv,bS,gw,bW,dj,fR,gU,eO,aE,R.bind,aM]),
   ai (aF e7 rfl)]
  erw[dX,dY,dZ,d7];rw[aQ (aR (w:=oh (cm N[s] N[t] N[u] N[v]).head?) (m1:=[]) ?_)];rw[cW,e8];have h2:dw gK ((cm N[s] N[t] N[u] N[v]).map tupI)=some (cm N[s] N[t] N[u] N[v]):=by
   have:∀a:List Int,cU (a.map .int)=some a:=λ a=>by
    induction a with
    | nil=>rfl
    | cons x r ih=>simp[cU,ih]
   have:=fU (f:=gK) (g:=tupI) (h:=id) (xs:=cm N[s] N[t] N[u] N[v]) (λ a _=>by simp[gK,this]);simpa using this
  have h3:((cm N[s] N[t] N[u] N[v]).all λ ns=>!HT.lexLt ns ((cm N[s] N[t] N[u] N[v]).headD []))=true:=by
   rw[H8 h hs];exact least h.k1 h.k4
  erw[aP,oO,xF,getL,h2,uz];rw[Qs h3];cases cm N[s] N[t] N[u] N[v]<;>rfl
 refine aG (by simp[aj,av,bI,cP]) hr ?_;cases (cm N[s] N[t] N[u] N[v]).head? with
 | none=>rfl
 | some x=>simp[oh,av,bI]
section
variable{C:D.Cx}{i1 i2:Nat}{js:List Nat}{By DK e:E}{ifs:Es}{Z ρ':D.Loc}{m:Mem}
theorem inner{acc ys:List W}{s2:Src}{B:W->D.Loc}{p:W->Bool}{g:W->W}(hI:cC C DK ρ' m=.ok s2 m)(hg:∀j,s2.get m j=Src.get (.tup ys) m j)(hn:s2.len m=ys.length)(hB:∀o y,(ρ'.set i2 o).set i2 (some y)=B y)
  (ht:∀y∈ys,bw C ifs (B y) m=.ok (p y) m) (he:∀y∈ys,p y=true->ao C e (B y) m=.ok (g y) m) (hl:acc.length+ys.length<=lim) :
  ∃Z2,jj C (.gen (.var i2) [] DK ifs (.elt e)) ρ' m acc=.ok (acc++(ys.filter p).map g,Z2) m/\∀o,Z2.set i2 o=ρ'.set i2 o:=by
 let⟨qB,Z2,m2,e1,h1,h2,h3⟩:=fh (get:=s2.get) (t:=.var i2) (test:=fun Z m=>bw C ifs Z m) (body:=fun Z m acc=>jj C (.elt e) Z m acc) (n:=ys.length)
  (λ j Z1 m1 a=>(∀o,Z1.set i2 o=ρ'.set i2 o)/\m1=m/\a=acc++((ys.take j).filter p).map g) (λ j Z1 m1 a hj=>by
   rintro⟨hb,rfl,rfl⟩;have hx:=QI hj;have htk:ys.take (j+1)=ys.take j++[ys[j]]:=by rw[take_add_one,QG hj];rfl
   have Ox:ρ'.set i2 (some ys[j])=B ys[j]:=by rw[<-hB none];simp
   refine⟨ys[j],B ys[j],by rw[hg,aO hj],by erw[aE];rw[hb,Ox],?_⟩;have h5:=ht _ hx;have iV:∀o,(B ys[j]).set i2 o=ρ'.set i2 o:=λ o=>by rw[<-Ox,set_set]
   cases hp:p ys[j] with
   | true=>
    rw[hp] at h5;refine .inl ⟨m1,acc++((ys.take (j+1)).filter p).map g,B ys[j],m1,h5,?_,iV,rfl,rfl⟩;have hlt:(acc++((ys.take j).filter p).map g).length < lim:=by
     rw[Q5,Qi];have:=RX p (ys.take j);rw[Ri] at this;omega
    erw[jK,he _ hx hp,R.bind];rw[Qs hlt,htk,filter_append,Rv];simp[hp]
   | false=>
    rw[hp] at h5;refine .inr ⟨m1,h5,iV,rfl,?_⟩;rw[htk,filter_append];simp[hp]) (fun Z1 m1 a h=>by rw[h.2.1,hg];exact aK 'o') ys.length 0 ρ' m acc 'o' ⟨λ _=>rfl,rfl,by simp⟩
 subst h2 h3;refine⟨Z2,?_,h1⟩;erw[jK,hI,R.bind,hn,br];rw[take_length] at e1;exact e1
theorem wC{s:Src}{ys:W->List W}{s2:W->Src}{p:W->W->Bool}{g:W->W->W}(hm:Cm m)(hI:cC C By Z m=.ok s m)(hg:∀j,s.get m j=Src.get (.tup xs) m j)(hn:s.len m=xs.length)
  (hin:∀x∈xs,∀ρ',(∀o,ρ'.set i2 o=((br js Z).set i1 (some x)).set i2 o)->cC C DK ρ' m=.ok (s2 x) m) (G1:∀x∈xs,∀j,(s2 x).get m j=Src.get (.tup (ys x)) m j) (hn2:∀x∈xs,(s2 x).len m=(ys x).length)
  (ht:∀x∈xs,∀y∈ys x,bw C ifs (((br js Z).set i1 (some x)).set i2 (some y)) m=.ok (p x y) m) (he:∀x∈xs,∀y∈ys x,p x y=true->ao C e (((br js Z).set i1 (some x)).set i2 (some y)) m=.ok (g x y) m)
  (hp:∀x∈xs,∀y∈ys x,p x y=true->av (g x y)=true) (hne:i1≠i2) (hlx:xs.length<=100) (Oz:∀x∈xs,(ys x).length<=100) :
  ao C (.frz (.comp (.gen (.var i1) js By .nil (.gen (.var i2) [] DK ifs (.elt e))))) Z m=.ok (.fz (xs.flatMap λ x=>((ys x).filter (p x)).map (g x))) m:=by
 let⟨qB,Z2,m2,e1,h1,h2,h3,h4⟩:=fh (get:=s.get) (t:=.var i1) (test:=fun Z m=>bw C .nil Z m) (body:=fun Z m acc=>jj C (.gen (.var i2) [] DK ifs (.elt e)) Z m acc) (n:=xs.length)
  (λ j Z1 m1 a=>(∀o o',(Z1.set i1 o).set i2 o'=((br js Z).set i1 o).set i2 o')/\m1=m/\a=((xs.take j).flatMap λ x=>((ys x).filter (p x)).map (g x))/\a.length<=100*j) (λ j Z1 m1 a hj=>by
   rintro⟨hb,rfl,ha,hal⟩;have hx:=QI hj;have htk:xs.take (j+1)=xs.take j++[xs[j]]:=by rw[take_add_one,QG hj];rfl
   let⟨Z3,e3,h3⟩:=inner (C:=C) (i2:=i2) (DK:=DK) (ifs:=ifs) (e:=e) (ρ':=Z1.set i1 (some xs[j])) (m:=m1) (acc:=a) (ys:=ys xs[j]) (B:=λ y=>((br js Z).set i1 (some xs[j])).set i2 (some y)) (p:=p xs[j]) (g:=g xs[j]) (hin _ hx _ (hb _)) (G1 _ hx) (hn2 _ hx) (λ o y=>by rw[set_set,hb]) (ht _ hx) (he _ hx) (by have:=Oz _ hx;erw[lim];omega);refine⟨xs[j],Z1.set i1 (some xs[j]),by rw[hg,aO hj],by erw[aE],.inl ⟨m1,_,Z3,m1,by erw[bZ],e3,λ o o'=>?_,rfl,?_,?_⟩⟩
   .rw[set_comm _ _ hne,h3,set_comm _ _ hne.symm,set_set,hb]
   .rw[htk,flatMap_append,<-ha];simp
   .have h1:=RX (p xs[j]) (ys xs[j]);have h2:=Oz _ hx;rw[Q5,Qi];omega) (fun Z1 m1 a h=>by rw[h.2.1,hg];exact aK 'o') xs.length 0 (br js Z) m [] 'o' ⟨λ _ _=>rfl,rfl,by simp,by simp⟩
 subst h2;rw[take_length] at h3;subst h3;refine bG (gH (js:=js) (ifs:=.nil) hI (by rw[hn];exact e1)) rfl hm (cj.mpr λ x hx=>?_);let⟨y,hy,hx⟩:=QZ.mp hx;let⟨z,hz,rfl⟩:=Qf.mp hx;let⟨hz,hpz⟩:=RB.mp hz;exact hp y hy z hz hpz
end
theorem d8(a:List Int):cU (a.map .int)=some a:=by
 induction a with
 | nil=>rfl
 | cons x r ih=>simp[cU,ih]
theorem yg(N:List (List Int)):dw gK (N.map tupI)=some N:=by
 have:=fU (f:=gK) (g:=tupI) (h:=id) (xs:=N) (λ a _=>by simp[gK,d8]);simpa using this
theorem yh{l:List W}(h:∀w∈l,w=.bl true)(m:Mem):aZ .all [.fz l] m=.ok (.bl true) m:=by
 have:l=List.replicate l.length (.bl true):=List.eq_replicate_iff.mpr ⟨rfl,h⟩;rw[this];erw[aZ,getL,iA,all_true]
theorem yi{k:Nat}{N:List (List Int)}(h:aA k N)(h0:0 < N.length):aC (D.runN pg (n+1) 3) [aU N] m=.ok (.bl true) m:=by
 refine aG (m1:=[]) (by simp[aj,av,cP]) ?_ rfl;refine aT (d:=⟨1,4,b3⟩) rfl rfl ?_;show aL _ b3 [@(aU N),none,none,none] []=_;have lk:∀a∈N,a.length=k:=λ a ha=>(aB.mp (h.mem a ha)).1;have e0:=fW (m:=[]) h0;have l0:aZ .len [tupI N[0]] []=.ok (.int k) []:=by
  have:=bK (m:=[]) (w:=tupI N[0]) (xs:=N[0].map .int) rfl;rw[Qi,lk _ (QI h0)] at this;exact this
 have hI:∀Z:D.Loc,Z[0]?=some @(aU N)->cC (Cn pg n) @0 Z []=.ok (.tup (N.map tupI)) []:=fun Z hρ=>by rw[cu,aN,hρ];rfl
 have hall:=sU (C:=Cn pg n) (i:=2) (e:=.cmp .Eq (.blt .len %[|@2]) @1) (it:=.var 0) (Z:=[@(aU N),@(.int k),none,none]) (m:=[]) (xs:=N.map tupI) (js:=[2]) Cm.nil (hI _ rfl) (λ j=>rfl) rfl (by have:=h.len;simp[lim];omega) (λ x hx=>by
  let⟨a,ha,rfl⟩:=Qf.mp hx;have:=bK (m:=[]) (w:=tupI a) (xs:=a.map .int) rfl;rw[Qi,lk a ha] at this;erw[br,EWs,this,aD,AR];simp)
 have hk1:(1:Int)<=k:=by have:=h.k1;omega
 have Oq:(k:Int)<=4:=by have:=h.k4;omega
 have hT:bx (Cn pg n) (.or (.not (.chain .LtE .LtE @(1) @1 @(4))) (.not (.blt .all %[|.frz (.comp (.gen @2 [2] @0 .nil (.elt (.cmp .Eq (.blt .len %[|@2]) @1))))]))) [@(aU N),@(.int k),none,none] []=.ok false []:=by
  have h1:bx (Cn pg n) (.chain .LtE .LtE @(1) @1 @(4)) [@(aU N),@(.int k),none,none] []=.ok true []:=by simp[aN,ck,dO,dP,dD,gZ,cV,bg,dQ,cD,dF,cF,dR,dH,bC,ef,bD,bV,cW,nk,bS,fZ,bW,aY,aH,j7,j8,aP,fD,fE,fF,fG,fH,fJ,fK,fL,bR,dS,fM,cG,cH,cJ,fN,fO,fP,cK,fQ,cL,cX,gx,cM,bH,bE,eV,aD,hk1,Oq,R.bind,D.truthy]
  have h2:=jb (dS _ _) hall;rw[gx,cM,h1];erw[aP,Bool.not_true,Qv,QK];rw[cM,h2];rfl
 have hnest:=wC (C:=Cn pg n) (i1:=2) (i2:=3) (js:=[2,3]) (By:=.var 0) (DK:=.var 2) (ifs:=.nil) (e:=.cmp .In @3 (.tup %[@(0),|@(1)])) (Z:=[@(aU N),@(.int k),none,none]) (m:=[]) (xs:=N.map tupI) (ys:=λ x=>match x with | .tup ws=>ws | _=>[]) (s2:=λ x=>match x with | .tup ws=>.tup ws | _=>.tup []) (p:=λ _ _=>true) (g:=λ _ _=>.bl true) Cm.nil (hI _ rfl) (λ j=>rfl) rfl (λ x hx ρ' hρ=>by
   let⟨a,ha,rfl⟩:=Qf.mp hx;have:ρ'[2]?=some @(tupI a):=by
    have:=RM (λ l=>l[2]?) (hρ none);simpa[br] using this
   rw[cu,aN,this];rfl) (λ x hx j=>by
   let⟨a,ha,rfl⟩:=Qf.mp hx;rfl) (λ x hx=>by
   let⟨a,ha,rfl⟩:=Qf.mp hx;rfl) (λ x hx y hy=>by erw[bZ]) (λ x hx y hy _=>by
   let⟨a,ha,rfl⟩:=Qf.mp hx;let⟨b,hb,rfl⟩:=Qf.mp hy;have NV:=(aB.mp (h.mem a ha)).2 b hb;have hm:=s8 (m:=[]) (a:=b) (ns:=[0,1]);erw[QM,map_nil] at hm;erw[br,EWs,QB,RS,show (0+1+1<=lim)=True from by simp[lim],QL,aP,aD,pZ,aM,getL,hm];rcases NV with rfl | rfl<;>rfl) (λ _ _ _ _ _=>rfl) 'd' (by have:=h.len;simp;omega) (λ x hx=>by
   let⟨a,ha,rfl⟩:=Qf.mp hx;have:=lk a ha;have:=h.k4;simp;omega)
 have iV:ao (Cn pg n) (.cmp .Eq (.fus .pV @0) (.blt .len %[|@0])) [@(aU N),@(.int k),none,none] []=.ok (.bl true) []:=by
  have hc:N.length<=4/\N.all D.eY=true/\N.Nodup:=⟨h.len,Qx.mpr λ a ha=>by
   have:=aB.mp (h.mem a ha);have:=h.k4;erw[D.eY,Qn,Q7,all_eq_true,Bool.or_eq_true,Ro];exact⟨by omega,λ i hi=>by have:=(aB.mp (h.mem a ha)).2 i hi;omega⟩,h.nd⟩
  have hl:=bK (m:=[]) (w:=aU N) (xs:=N.map tupI) rfl;rw[Qi] at hl;erw[EWs,oO,xF,getL,yg,uy];rw[Qs hc];erw[aP,hl,aD,AR];simp
 rw[b3,ai (Z1:=[@(aU N),@(.int k),none,none]) (m1:=[]) (aF (w:=.int k) (by erw[EWs];rw[show ((0:Nat):Int)=0 from rfl] at e0;erw[e0,aP,l0]) rfl),ai (by rw[gR hT,ay]),aQ (aR (w:=.bl true) (m1:=[]) ?_)];rw[dD,bC,aH,hnest];erw[aP,aY];rw[yh (λ w hw=>by
  let⟨x,_,hw⟩:=QZ.mp hw;let⟨y,_,rfl⟩:=Qf.mp hw;rfl)]
 erw[aP,QL,iV]
theorem H9{f g:α->List J}:∀{l:List α},(∀a∈l,f a=g a)->l.flatMap f=l.flatMap g:=by
 intro l
 induction l with
 | nil=>intro _;rfl
 | cons a r ih=>intro h;rw[RY,RY,h a Qu,ih λ x hx=>h x (Qj _ hx)]
section
variable{n:Nat}{m:Mem}{ks ss ls:List Str}{R L:List (List Int)}
theorem kG:ji pg.cs (tab ks ss ls R L) "states" m=some 8:=rfl
theorem tE:ji pg.cs (tab ks ss ls R L) "letters" m=some 10:=rfl
theorem A1:ji pg.cs (tab ks ss ls R L) "goes" m=some 11:=rfl
theorem states:aC (D.runN pg (n+1) 8) [tab ks ss ls R L] m=.ok (fC ss) m:=by
 refine aG (m1:=[]) (by rw[aj,cy];rfl) ?_ (by simp[av,dU]);refine aT (d:=⟨1,1,b8⟩) rfl rfl ?_;show aL _ b8 [@(tab ks ss ls R L)] []=_;rw[b8,aQ (aR (fV (w:=fC ss) (by erw[EWs,yd]) rfl Cm.nil (dU _)))]
theorem nB{m':Mem}:aZ .len [fC ss] m'=.ok (.int ss.length) m':=by
 have:=bK (m:=m') (w:=fC ss) (xs:=ss.map .str) rfl;rw[Qi] at this;exact this
theorem kT{k:Nat}{N:List (List Int)}(h:aA k N)(h0:0 < N.length)(hl:N.length=ss.length):aC (D.runN pg (n+1+1) 2) [tab ks ss ls R L,aU N] m=.ok .non m:=by
 refine aG (m1:=[]) (by rw[aj,cy,aj,aj];simp[av,cP]) ?_ rfl;refine kB (d:=⟨2,2,b2⟩) (Z:=[@(tab ks ss ls R L),@(aU N)]) rfl rfl ?_;show aL _ b2 [@(tab ks ss ls R L),@(aU N)] []=_;have hN:=bK (m:=[]) (w:=aU N) (xs:=N.map tupI) rfl;rw[Qi] at hN;have hT:bx (Cn pg (n+1)) (.or (.cmp .NotEq (.blt .len %[|@1]) (.blt .len %[|.mth @0 "states" .nil])) (.not (.call 3 %[|@1]))) [@(tab ks ss ls R L),@(aU N)] []=.ok false []:=by
  have h1:bx (Cn pg (n+1)) (.cmp .NotEq (.blt .len %[|@1]) (.blt .len %[|.mth @0 "states" .nil])) [@(tab ks ss ls R L),@(aU N)] []=.ok false []:=by
   erw[bH,bC,aH,aY,fZ,aN,dX,dY,dZ,d7,aP,kG,states,nB,hN,aD,AR,hl];simp
  have h2:bx (Cn pg (n+1)) (.call 3 %[|@1]) [@(tab ks ss ls R L),@(aU N)] []=.ok true []:=jb (bR _ _) (by erw[EWs,yi h h0]);rw[gx,h1];erw[aP,Qv,QK];rw[cM,h2];rfl
 rw[b2,ai (by rw[gR hT,ay]),ay]
def bP(R:List (List Int))(s x:Nat):Nat:=((R.getD s []).getD x 0).toNat
theorem kU(o:TabOk ks ss ls R L){x:Nat}(hs:s < ss.length)(hx:x < 2^ks.length):∃(h1:s < R.length) (h2:x < R[s].length),R[s][x]=(bP R s x:Int)/\bP R s x < ss.length:=by
 have h1:s < R.length:=by rw[o.rl];exact hs
 let⟨q1,q2⟩:=o.re R[s] (QI h1);have h2:x < R[s].length:=by rw[q1];exact hx
 let⟨z1,z2⟩:=q2 R[s][x] (QI h2);have:bP R s x=R[s][x].toNat:=by simp[bP,List.getD,h1,h2]
 refine⟨h1,h2,by rw[this];omega,by rw[this];omega⟩
def lK(R:List (List Int))(k x:Nat):List (Nat×Nat):=(List.range k).map λ s=>(s,bP R s x)
abbrev qW(p:Nat×Nat):W:=pW p.1 p.2
theorem yj(o:TabOk ks ss ls R L){x:Nat}(hx:x < 2^ks.length):aC (D.runN pg (n+1+1) 14) [tab ks ss ls R L,.int x] m=.ok (.fz ((lK R ss.length x).map qW)) m:=by
 refine aG (m1:=[]) (by rw[aj,cy];rfl) ?_ (by erw[av];exact kR (λ _=>rfl) _);refine aT (d:=⟨2,3,L0⟩) rfl rfl ?_;show aL _ L0 [@(tab ks ss ls R L),@(.int x),none] []=_;have h4:=o.s4;have hI:cC (Cn pg (n+1)) (.rng (.blt .len %[|.mth @0 "states" .nil])) [some (tab ks ss ls R L),some (.int x),none] []=.ok (.rng 0 ss.length) []:=jQ (by erw[bC,aH,aY,fZ,aN,dX,dY,dZ,d7,aP,kG,states,nB]) 'o';have:=f6 (C:=Cn pg (n+1)) (i:=2) (js:=[2]) (it:=.rng (.blt .len %[|.mth @0 "states" .nil])) (e:=.tup %[@2,|.mth @0 "goes" %[@2,|@1]]) (Z:=[@(tab ks ss ls R L),@(.int x),none]) (m:=[]) (xs:=(List.range ss.length).map λ t=>W.int (t:Nat)) (g:=λ w=>match w with | .int t=>pW t.toNat (bP R t.toNat x) | _=>.non) Cm.nil hI (iC _ _) (by simp[Src.len]) (λ w hw=>by
   let⟨t,ht,rfl⟩:=Qf.mp hw;let⟨h1,h2,h3,_⟩:=kU o (Qo.mp ht) hx;have hg:=goes (n:=n) (m:=[]) (ks:=ks) (ss:=ss) (ls:=ls) (L:=L) h1 h2;erw[br,cD,aH,aY,fZ,aN,dX,dY,dZ,d7,aP,A1,hg,h3];rfl) (λ w hw=>by
   let⟨t,ht,rfl⟩:=Qf.mp hw;rfl) 'l'
 rw[L0,aQ (aR this),Q8,lK,Q8];rfl
def oj(R:List (List Int))(k x:Nat):List ((Nat×Nat)×(Nat×Nat)):=(lK R k x).flatMap λ a=>((lK R k x).filter λ b=>decide (a.1 < b.1)&&decide (a.2≠b.2)).map λ b=>(a,b)
abbrev rW(p:(Nat×Nat)×(Nat×Nat)):W:=.tup [qW p.1,qW p.2]
theorem om(o:TabOk ks ss ls R L){x:Nat}(hx:x < 2^ks.length):aC (D.runN pg (n+1+1+1) 15) [tab ks ss ls R L,.int x] m=.ok (.fz ((oj R ss.length x).map rW)) m:=by
 refine aG (m1:=[]) (by rw[aj,cy];rfl) ?_ (by erw[av];exact kR (λ _=>rfl) _);refine aT (d:=⟨2,5,L1⟩) rfl rfl ?_;show aL _ L1 [@(tab ks ss ls R L),@(.int x),none,none,none] []=_;have h4:=o.s4;have IW:(lK R ss.length x).length=ss.length:=by simp[lK]
 have a0:∀p:Nat×Nat,aX (qW p) (.int 0) []=.ok (.int p.1) []:=λ p=>by simp[aX,aM,L2.kZ,L2.nP]
 have a1:∀p:Nat×Nat,aX (qW p) (.int 1) []=.ok (.int p.2) []:=λ p=>by simp[aX,aM,L2.kZ,L2.nP]
 have hnest:=wC (C:=Cn pg (n+1+1)) (i1:=3) (i2:=4) (js:=[3,4]) (By:=.var 2) (DK:=.var 2) (ifs:=.cons (.and (.cmp .Lt (.idx @3 @(0)) (.idx @4 @(0))) (.cmp .NotEq (.idx @3 @(1)) (.idx @4 @(1)))) .nil) (e:=.tup %[@3,|@4]) (Z:=[@(tab ks ss ls R L),@(.int x),@(.fz ((lK R ss.length x).map qW)),none,none]) (m:=[]) (xs:=(lK R ss.length x).map qW) (ys:=λ _=>(lK R ss.length x).map qW) (s:=.tup ((lK R ss.length x).map qW)) (s2:=λ _=>.tup ((lK R ss.length x).map qW))
  (p:=λ v w=>match v,w with | .tup [.int a,.int b],.tup [.int c,.int d]=>decide (a < c)&&decide (b≠d) | _,_=>false) (g:=λ v w=>.tup [v,w]) Cm.nil (by rw[cu,aN];rfl) (λ j=>rfl) rfl (λ v hv ρ' hρ=>by
   have:ρ'[2]?=some @(.fz ((lK R ss.length x).map qW)):=by
    have:=RM (λ l=>l[2]?) (hρ none);simpa[br] using this
   rw[cu,aN,this];rfl) (λ v hv j=>rfl) (λ v hv=>rfl) (λ v hv w hw=>by
   let⟨a,ha,rfl⟩:=Qf.mp hv;let⟨b,hb,rfl⟩:=Qf.mp hw;have hc:∀(i j:Int) (m:Mem),aD .Lt (.int i) (.int j) m=.ok (decide (i < j)) m:=λ _ _ _=>rfl;erw[br,bZ,EVs,fD,fE,fF,fG,fH,fJ,fK,fL,bR,dS,fM,cG,cH,cJ,fN,fO,fP,cK,fQ,cL,cX,gx,cM,bH,bE,eV,dX,dY,dZ,d7,a0,a1,hc,aD,AR]
   by_cases q1:(a.1:Int) < b.1<;>by_cases q2:(a.2:Int)=b.2<;>simp[q1,q2,D.R.bind]) (λ v hv w hw _=>by
   let⟨a,ha,rfl⟩:=Qf.mp hv;let⟨b,hb,rfl⟩:=Qf.mp hw;erw[br,EWs];rfl) (λ v hv w hw _=>by
   let⟨a,ha,rfl⟩:=Qf.mp hv;let⟨b,hb,rfl⟩:=Qf.mp hw;rfl) 'd' (by simp[IW];omega) (λ v hv=>by simp[IW];omega)
 rw[L1,ai (Z1:=[@(tab ks ss ls R L),@(.int x),@(.fz ((lK R ss.length x).map qW)),none,none]) (m1:=[]) (aF (by erw[EWs,yj o hx]) rfl),aQ (aR hnest)];have:(((lK R ss.length x).map qW).flatMap λ v=>(((lK R ss.length x).map qW).filter ((λ v w=>match v,w with | .tup [.int a,.int b],.tup [.int c,.int d]=>decide (a < c)&&decide (b≠d) | _,_=>false) v)).map λ w=>W.tup [v,w])=(oj R ss.length x).map rW:=by
  rw[oj,map_flatMap,flatMap_map];refine H9 λ a _=>?_;rw[filter_map,Q8,Q8];have:((λ w=>match qW a,w with | .tup [.int a,.int b],.tup [.int c,.int d]=>decide (a < c)&&decide (b≠d) | _,_=>false)∘qW)=λ b:Nat×Nat=>decide (a.1 < b.1)&&decide (a.2≠b.2):=by
   funext b;show (decide ((a.1:Int) < b.1)&&decide ((a.2:Int)≠b.2))=_;congr 1
   .exact decide_eq_decide.mpr 'o'
   .exact decide_eq_decide.mpr 'o'
  rw[this];rfl
 rw[this]
end
abbrev Race:=Nat×Nat×Nat×List Int
abbrev tW(r:Race):W:=.tup [.int r.1,.int r.2.1,.int r.2.2.1,tupI r.2.2.2]
def wD(N:List (List Int))(x:Nat)(p:(Nat×Nat)×(Nat×Nat)):List Race:=((cm (N.getD p.1.1 []) (N.getD p.1.2 []) (N.getD p.2.1 []) (N.getD p.2.2 [])).take 1).map λ nm=>(x,p.1.1,p.2.1,nm)
def rcs(R N:List (List Int))(k l:Nat):List Race:=(List.range l).flatMap λ x=>(oj R k x).flatMap (wD N x)
section
variable{n:Nat}{m:Mem}{ks ss ls:List Str}{R L N:List (List Int)}{k:Nat}
theorem Ia(o:TabOk ks ss ls R L){x:Nat}(hx:x < 2^ks.length){p:(Nat×Nat)×(Nat×Nat)}(hp:p∈oj R ss.length x):p.1.1 < ss.length/\p.1.2 < ss.length/\p.2.1 < ss.length/\p.2.2 < ss.length:=by
 let⟨a,ha,hp⟩:=QZ.mp hp;let⟨b,hb,rfl⟩:=Qf.mp hp;have hb:=(RB.mp hb).1;have g:∀q∈lK R ss.length x,q.1 < ss.length/\q.2 < ss.length:=λ q hq=>by
  let⟨s,hs,rfl⟩:=Qf.mp hq;have hs:=Qo.mp hs;let⟨_,_,_,h⟩:=kU o hs hx;exact⟨hs,h⟩
 exact⟨(g a ha).1,(g a ha).2,(g b hb).1,(g b hb).2⟩
theorem qI(x:Nat)(hk:k<=4):(oj R k x).length<=16:=by
 rw[oj,length_flatMap];have h:∀l:List (Nat×Nat),(l.map λ a=>(((lK R k x).filter λ b=>decide (a.1 < b.1)&&decide (a.2≠b.2)).map λ b=>(a,b)).length).sum<=4*l.length:=λ l=>by
  induction l with
  | nil=>simp
  | cons a r ih=>
   have h1:=RX (λ b=>decide (a.1 < b.1)&&decide (a.2≠b.2)) (lK R k x);have h2:(lK R k x).length=k:=by simp[lK]
   erw[QM,sum_cons,Qi,QB] at ih ⊢;omega
 have h2:(lK R k x).length=k:=by simp[lK]
 have:=h (lK R k x);omega
theorem qJ(x:Nat)(p:(Nat×Nat)×(Nat×Nat)):(wD N x p).length<=1:=by
 rw[wD,Qi,Ri];omega
theorem nE{f:α->List Race}(h:∀a,(f a).length<=1)(l:List α):(l.flatMap f).length<=l.length:=by
 induction l with
 | nil=>simp
 | cons a r ih=>rw[RY,Q5,QB];have:=h a;omega
theorem gD(h:i < N.length):N.getD i []=N[i]:=by simp[List.getD,h]
theorem yk(o:TabOk ks ss ls R L)(h:aA k N)(hl:N.length=ss.length){x:Nat}(hx:x < 2^ks.length){p:(Nat×Nat)×(Nat×Nat)}(hp:p∈oj R ss.length x){T:List Race}(hT:T.length<=1000) :
  ∃o6',aL (Cn pg (n+1+1+1)) vW [@(tab ks ss ls R L),@(aU N),@(.ref 0),@(.int x),@(qW p.1),@(qW p.2),o6] [.lst (T.map tW)]=.ok (.nx [@(tab ks ss ls R L),@(aU N),@(.ref 0),@(.int x),@(qW p.1),@(qW p.2),o6']) [.lst ((T++wD N x p).map tW)]:=by
 let⟨h1,h2,h3,h4⟩:=Ia o hx hp;have hlb:=oi (n:=n) (m:=[.lst (T.map tW)]) h (by omega:p.1.1 < N.length) (by omega:p.1.2 < N.length) (by omega:p.2.1 < N.length) (by omega:p.2.2 < N.length);have Pq:wD N x p=((cm N[p.1.1] N[p.1.2] N[p.2.1] N[p.2.2]).take 1).map λ nm=>(x,p.1.1,p.2.1,nm):=by
  unfold wD;rw[gD 'o',gD 'o',gD 'o',gD 'o']
 have a0:∀(p:Nat×Nat) (M:Mem),aX (qW p) (.int 0) M=.ok (.int p.1) M:=λ p M=>by simp[aX,aM,L2.kZ,L2.nP]
 refine⟨some (oh (cm N[p.1.1] N[p.1.2] N[p.2.1] N[p.2.2]).head?),?_⟩;rw[Pq,vW,ai (aF (w:=oh (cm N[p.1.1] N[p.1.2] N[p.2.1] N[p.2.2]).head?) (m1:=[.lst (T.map tW)]) (by erw[EWs,hlb]) rfl)];erw[dX,dY,dZ,d7];cases cm N[p.1.1] N[p.1.2] N[p.2.1] N[p.2.2] with
 | nil=>
  have hT:bx (Cn pg (n+1+1+1)) (.cmp .IsNot @6 (.cst .non)) [@(tab ks ss ls R L),@(aU N),@(.ref 0),@(.int x),@(qW p.1),@(qW p.2),some .non] [.lst (T.map tW)]=.ok false [.lst (T.map tW)]:=by erw[EVs,fD,fE,fF,fG,fH,fJ,fK,fL,bR,dS,fM,cG,cH,cJ,fN,fO,fP,cK,fQ,cL,cX,gx,cM,bH,bE,eV,dX,dY,dZ,d7];rfl
  rw[ai (by erw[head?_nil,oh];rw[gR hT,ay]),ay];simp[oh]
 | cons nm r=>
  have hT:bx (Cn pg (n+1+1+1)) (.cmp .IsNot @6 (.cst .non)) [@(tab ks ss ls R L),@(aU N),@(.ref 0),@(.int x),@(qW p.1),@(qW p.2),@(tupI nm)] [.lst (T.map tW)]=.ok true [.lst (T.map tW)]:=by erw[EVs,fD,fE,fF,fG,fH,fJ,fK,fL,bR,dS,fM,cG,cH,cJ,fN,fO,fP,cK,fQ,cL,cX,gx,cM,bH,bE,eV,dX,dY,dZ,d7];rfl
  have hap:bJ (.ref 0) "append" [tW (x,p.1.1,p.2.1,nm)] [.lst (T.map tW)]=.ok .non [.lst ((T++[(x,p.1.1,p.2.1,nm)]).map tW)]:=by
   have hlt:(T.map tW).length < lim:=by simp[lim];omega
   erw[bJ,getElem?_cons_zero,iM,iL];erw[hlt,QL,Rv,QM,map_nil,set_cons_zero]
  have hk:kdOf [.lst (T.map tW)] (.ref 0)=p8 "append":=rfl;have IX:[W.int x,.int p.1.1,.int p.2.1,tupI nm].length<=lim:=by simp[lim]
  rw[ai (Z1:=[@(tab ks ss ls R L),@(aU N),@(.ref 0),@(.int x),@(qW p.1),@(qW p.2),@(tupI nm)]) (m1:=[.lst ((T++[(x,p.1.1,p.2.1,nm)]).map tW)]) (by
   erw[head?_cons,oh];rw[sQ hT,ai (cQ (w:=.non) (m1:=[.lst ((T++[(x,p.1.1,p.2.1,nm)]).map tW)]) (by
    erw[EWs,hk,QL,a0,IX,hap])),ay]),ay]
  simp[oh]
theorem A2(o:TabOk ks ss ls R L)(h:aA k N)(hl:N.length=ss.length){x:Nat}(hx:x < 2^ks.length){T:List Race}(hT:T.length<=100) :
  ∃o4' o5' o6',aL (Cn pg (n+1+1+1)) vX [@(tab ks ss ls R L),@(aU N),@(.ref 0),@(.int x),o4,o5,o6] [.lst (T.map tW)]=.ok (.nx [@(tab ks ss ls R L),@(aU N),@(.ref 0),@(.int x),o4',o5',o6']) [.lst ((T++(oj R ss.length x).flatMap (wD N x)).map tW)]:=by
 have hI:cC (Cn pg (n+1+1+1)) (.call 15 %[@0,|@3]) [@(tab ks ss ls R L),@(aU N),@(.ref 0),@(.int x),o4,o5,o6] [.lst (T.map tW)]=.ok (.tup ((oj R ss.length x).map rW)) [.lst (T.map tW)]:=by
  rw[jv];erw[EWs,om o hx];rfl
 let⟨ρ',m',hf,o4',o5',o6',rfl,rfl⟩:=cR (C:=Cn pg (n+1+1+1)) (t:=.tup %[@4,|@5]) (b:=vW) hI (n:=(oj R ss.length x).length) (by simp[Src.len])
  (λ i Z M=>∃o4' o5' o6',Z=[@(tab ks ss ls R L),@(aU N),@(.ref 0),@(.int x),o4',o5',o6']/\M=[.lst ((T++((oj R ss.length x).take i).flatMap (wD N x)).map tW)])
  ⟨o4,o5,o6,rfl,by simp⟩ (λ i Z M hi=>by
   rintro⟨o4',o5',o6',rfl,rfl⟩;have hp:=QI hi;have hlen:(T++((oj R ss.length x).take i).flatMap (wD N x)).length<=1000:=by
    have:=nE (qJ (N:=N) x) ((oj R ss.length x).take i);have:=qI (R:=R) (k:=ss.length) x o.s4;rw[Ri] at *;rw[Q5];omega
   let⟨o6'',e⟩:=yk (n:=n) o h hl hx hp hlen (o6:=o6');refine⟨rW (oj R ss.length x)[i],_,_,_,?_,?_,.inl e,_,_,_,rfl,?_⟩
   .rw[aO (by simpa using hi)];simp
   .simp[aE,dJ]
   .rw[take_add_one,QG hi,flatMap_append,<-append_assoc];simp)
  (fun Z M _=>aK 's')
 refine⟨o4',o5',o6',?_⟩;rw[vX,ai hf,ay,take_length]
theorem La(o:TabOk ks ss ls R L)(h:aA k N)(hl:N.length=ss.length) :
  aC (D.runN pg (n+1+1+1+1) 20) [tab ks ss ls R L,aU N] m=.ok (.ref m.length) (m++[.lst ((rcs R N ss.length (2^ks.length)).map tW)]):=by
 have hk2:=o.k2;have qS:2^ks.length<=4:=iB hk2;have h0:0 < N.length:=by have:=o.s2;omega
 have hr:D.runN pg (n+1+1+1+1) 20 [tab ks ss ls R L,aU N] []=.ok (.ref 0) [.lst ((rcs R N ss.length (2^ks.length)).map tW)]:=by
  refine aT (d:=⟨2,7,L7⟩) rfl rfl ?_;show aL _ L7 [@(tab ks ss ls R L),@(aU N),none,none,none,none,none] []=_;have hI:cC (Cn pg (n+1+1+1)) (.rng (.mth @0 "letters" .nil)) [@(tab ks ss ls R L),@(aU N),@(.ref 0),none,none,none,none] [.lst []]=.ok (.rng 0 (2^ks.length)) [.lst []]:=jQ (by erw[fZ,aN,dX,dY,dZ,d7,aP,tE,aY,bh hk2]) (by generalize 2^ks.length=l at qS ⊢;omega);let⟨ρ',m',hf,o3',o4',o5',o6',rfl,rfl⟩:=cR (C:=Cn pg (n+1+1+1)) (t:=.var 3) (b:=vX) hI (n:=2^ks.length) rfl
   (λ i Z M=>∃o3' o4' o5' o6',Z=[@(tab ks ss ls R L),@(aU N),@(.ref 0),o3',o4',o5',o6']/\M=[.lst ((rcs R N ss.length i).map tW)])
   ⟨none,none,none,none,rfl,rfl⟩ (λ i Z M hi=>by
    rintro⟨o3',o4',o5',o6',rfl,rfl⟩;have hlen:(rcs R N ss.length i).length<=100:=by
     have:∀l:List Nat,(l.flatMap λ x=>(oj R ss.length x).flatMap (wD N x)).length<=16*l.length:=λ l=>by
      induction l with
      | nil=>simp
      | cons a r ih=>
       have h1:=nE (qJ (N:=N) a) (oj R ss.length a);have h2:=qI (R:=R) (k:=ss.length) a o.s4;rw[RY,Q5,QB];omega
     have:=this (List.range i);rw[Ry] at this;unfold rcs;omega
    let⟨p4,p5,p6,e⟩:=A2 (n:=n) o h hl hi hlen (o4:=o4') (o5:=o5') (o6:=o6');refine⟨.int (0+i),[@(tab ks ss ls R L),@(aU N),@(.ref 0),@(.int i),o4',o5',o6'],_,_,cg hi,by simp[aE],.inl e,_,_,_,_,rfl,?_⟩;rw[rcs,rcs,range_succ,flatMap_append];simp)
   (fun Z M _=>bO 'o')
  rw[L7,ai (cQ (w:=.non) (m1:=[]) (by erw[EWs,kT h h0 hl])),ai (Z1:=[@(tab ks ss ls R L),@(aU N),@(.ref 0),none,none,none,none]) (m1:=[.lst []]) (aF (w:=.ref 0) (by erw[EVs,new,RS];rw[Qs (RC _)];rfl) rfl),ai hf,aQ (aR (w:=.ref 0) (m1:=[.lst ((rcs R N ss.length (2^ks.length)).map tW)]) (by erw[EWs]))]
 rw[dW (by rw[aj,cy,aj,aj];simp[av,cP]) hr rfl,QM,BE,g8 _ (kR (λ r=>by simp[av,aj,bI]) _)];rfl
end
theorem yl{f:α->List J}{c:α->Bool}(l:List α):(l.filter c).flatMap f=l.flatMap λ a=>if c a=true then f a else []:=by
 induction l with
 | nil=>rfl
 | cons a r ih=>
  rw[RY,<-ih]
  by_cases h:c a=true
  .rw[filter_cons_of_pos h,RY,Qs h]
  .rw[filter_cons_of_neg h,Qz h];rfl
def rF(R N:List (List Int))(x s u:Nat):List Race:=if bP R s x=bP R u x then [] else ((cm (N.getD s []) (N.getD (bP R s x) []) (N.getD u []) (N.getD (bP R u x) [])).take 1).map λ nm=>(x,s,u,nm)
def lD(R N:List (List Int))(k x s:Nat):List Race:=(List.range (k - (s+1))).flatMap λ j=>rF R N x s (s+1+j)
def qK(R N:List (List Int))(k x:Nat):List Race:=(List.range k).flatMap (lD R N k x)
theorem Ib{R N:List (List Int)}{k x:Nat}:(oj R k x).flatMap (wD N x)=qK R N k x:=by
 rw[oj,flatMap_assoc,lK,flatMap_map,qK];refine H9 λ s hs=>?_;have hs:=Qo.mp hs;rw[flatMap_map,yl,flatMap_map,lD];obtain⟨d,rfl⟩:∃d,k=s+1+d:=⟨k - (s+1),by omega⟩;rw[range_add,flatMap_append,show s+1+d - (s+1)=d by omega,flatMap_map];have h1:((List.range (s+1)).flatMap λ u=>if (decide ((s,bP R s x).1 < (u,bP R u x).1)&&decide ((s,bP R s x).2≠(u,bP R u x).2))=true then wD N x ((s,bP R s x),(u,bP R u x)) else [])=[]:=List.flatMap_eq_nil_iff.mpr λ u hu=>by
  have hu:=Qo.mp hu;rw[Qz];simp;omega
 rw[h1,nil_append];refine H9 λ j _=>?_;unfold rF wD
 by_cases e:bP R s x=bP R (s+1+j) x
 .rw[Qs e,Qz];simp[e]
 .rw[Qz e,Qs];simp[e];omega
theorem jD{R N:List (List Int)}{k l:Nat}:rcs R N k l=(List.range l).flatMap (qK R N k):=H9 λ x _=>Ib
theorem jE{R N:List (List Int)}{x:Nat}{r:Race}(h:r∈rF R N x s u):r.1=x/\r.2.1=s/\r.2.2.1=u:=by
 unfold rF at h;split at h
 .cases h
 .let⟨nm,_,rfl⟩:=Qf.mp h;exact⟨rfl,rfl,rfl⟩
theorem Ic{a:List Int}:qP m (tupI a) (tupI b)=.ok (decide (a=b)) m:=by
 have h1:toD 60 m (tupI a)=some (.tuple (a.map .int)):=gB;have h2:toD 60 m (tupI b)=some (.tuple (b.map .int)):=gB;erw[qP,h1,h2,lJ]
theorem A3:∀(a b:List (List Int)),PyData.eqvAll (a.map λ l=>.tuple (l.map .int)) (b.map λ l=>.tuple (l.map .int))=decide (a=b):=by
 intro a
 induction a with
 | nil=>intro b;cases b<;>simp[PyData.eqvAll]
 | cons x r ih=>
  intro b;cases b with
  | nil=>simp[PyData.eqvAll]
  | cons y s=>
   erw[QM,PyData.eqvAll,ih,lJ]
   by_cases h:x=y<;>by_cases h':r=s<;>simp[h,h']
theorem E2{l:List (List Int)}(h:getL m w=@(l.map tupI)):toD 60 m w=some (.list (l.map λ a=>.tuple (a.map .int))):=by
 rw[AH (n:=59) h,fU (h:=λ a:List Int=>PyData.tuple (a.map .int)) λ a _=>gB];rfl
theorem NW{v:W}{a b:List (List Int)}(h1:getL m v=@(a.map tupI))(h2:getL m w=@(b.map tupI)):qP m v w=.ok (decide (a=b)) m:=by
 erw[qP,E2 h1,E2 h2];rw[PyData.eqv.eq_def];erw[A3]
abbrev aV(T:List Race):W:=.fz (T.map tW)
theorem eH(T:List Race):aj (T.map tW)=true:=kR (λ r=>by simp[av,aj,bI]) _
section
variable{n:Nat}{m:Mem}{ks ss ls:List Str}{R L N:List (List Int)}{k:Nat}
theorem lM(hk:ss.length<=4)(l:Nat)(hl:l<=4):(rcs R N ss.length l).length<=100:=by
 have:∀l:List Nat,(l.flatMap λ x=>(oj R ss.length x).flatMap (wD N x)).length<=16*l.length:=λ l=>by
  induction l with
  | nil=>simp
  | cons a r ih=>
   have h1:=nE (qJ (N:=N) a) (oj R ss.length a);have h2:=qI (R:=R) (k:=ss.length) a hk;rw[RY,Q5,QB];omega
 have:=this (List.range l);rw[Ry] at this;unfold rcs;omega
end
def Ie(b:Bool):R W->Bool
 | .ok (.bl c) _=>b==c
 | _=>false
theorem DL{b:Bool}{r:R W}(h:Ie b r=true):∃M,r=.ok (.bl b) M:=by
 unfold Ie at h;split at h
 .exact⟨_,by rw[eq_of_beq h]⟩
 .cases h
def E3(n:Nat)(l:List (List Int))(k:Nat):Bool:=l.all λ a=>(af k).all λ b=>(af k).all λ x=>Ie (gW a b x) (D.runN pg (n+1) 33 [tupI x,tupI a,tupI b] [])
theorem b_1:E3 n (af 1) 1=true:=by kernel_rfl
theorem b_2:E3 n (af 2) 2=true:=by kernel_rfl
theorem Pr:E3 n (af 3) 3=true:=by kernel_rfl
theorem Pu:E3 n ((af 4).take 4) 4=true:=by kernel_rfl
theorem Pw:E3 n (((af 4).drop 4).take 4) 4=true:=by kernel_rfl
theorem Px:E3 n (((af 4).drop 8).take 4) 4=true:=by kernel_rfl
theorem Py:E3 n ((af 4).drop 12) 4=true:=by kernel_rfl
theorem four{P:List Int->Prop}(h1:∀a∈(af 4).take 4,P a)(h2:∀a∈((af 4).drop 4).take 4,P a)(h3:∀a∈((af 4).drop 8).take 4,P a)(h4:∀a∈(af 4).drop 12,P a):∀a∈af 4,P a:=by
 intro a ha;rw[show af 4=(af 4).take 4++(((af 4).drop 4).take 4++(((af 4).drop 8).take 4++(af 4).drop 12)) from by decide +kernel,mem_append,mem_append,mem_append] at ha;rcases ha with ha | ha | ha | ha
 .exact h1 a ha
 .exact h2 a ha
 .exact h3 a ha
 .exact h4 a ha
theorem nF{k:Nat}{a x:List Int}(h1:1<=k)(h4:k<=4)(ha:a∈af k)(hb:b∈af k)(hx:x∈af k):aC (D.runN pg (n+1) 33) [tupI x,tupI a,tupI b] m=.ok (.bl (gW a b x)) m:=by
 have g:∀l:List (List Int),E3 n l k=true->∀a∈l,aC (D.runN pg (n+1) 33) [tupI x,tupI a,tupI b] m=.ok (.bl (gW a b x)) m:=λ l h a ha=>by
  let⟨M,hM⟩:=DL (Qx.mp (Qx.mp (Qx.mp h a ha) b hb) x hx);exact aG (by simp[aj,av,bI]) hM rfl
 rcases (by omega:k=1\/k=2\/k=3\/k=4) with rfl | rfl | rfl | rfl
 .exact g _ b_1 a ha
 .exact g _ b_2 a ha
 .exact g _ Pr a ha
 .exact four (P:=λ a=>aC (D.runN pg (n+1) 33) [tupI x,tupI a,tupI b] m=.ok (.bl (gW a b x)) m) (g _ Pu) (g _ Pw) (g _ Px) (g _ Py) a ha
theorem tF(h:xs.length < lim):bJ (.ref m.length) "append" [w] (m++[.lst xs])=.ok .non (m++[.lst (xs++[w])]):=by
 have e:(m++[O.lst xs])[m.length]?=some (.lst xs):=by simp
 erw[bJ,e,iM,iL];simp[h]
theorem wF(h:xs.length < lim):bJ (.ref 0) "append" [w] [.lst xs]=.ok .non [.lst (xs++[w])]:=tF (m:=[]) h
theorem A4:kdOf [.lst xs] (.ref 0)=p8 "append":=rfl
theorem NX{k:Nat}(hm:Cm m)(h1:1<=k)(h4:k<=4)(he:ao (Cn pg (n+1)) e Z m=.ok (.int k) m):ao (Cn pg (n+1)) (.frz (.call 31 %[|e])) Z m=.ok (aU (af k)) m:=by
 let⟨M,hM,hMl,hMq,hMp⟩:=wA (n:=n) h1 h4;refine lG (m0:=m) (l:=M) (j:=m.length+(k+1)) ?_ rfl hm 'o' (by rw[QH 'o',Nat.add_sub_cancel_left];exact hMq) (cP _);erw[dH,aH,aY,he,aP];rw[dW rfl hM rfl,s9 _ hMp];rfl
theorem E4{k:Nat}{a c d:List Int}(ha:a.length=k)(hc:c.length=k):cm a b c d=(af k).filter λ x=>gW a b x&&gW c d x:=by
 show ((af a.length).filter (gW a b)).filter _=_;rw[filter_filter,ha];refine filter_congr λ x hx=>?_;have:decide (x∈sp c d)=gW c d x:=by
  rw[Bool.eq_iff_iff,decide_eq_true_iff,sp,mem_filter,hc];exact⟨λ h=>h.2,λ h=>⟨hx,h⟩⟩
 rw[this,Bool.and_comm]
theorem OA:aX (pW s t) (.int 0) m=.ok (.int s) m:=by simp[aX,aM,L2.kZ,L2.nP]
theorem OB:aX (pW s t) (.int 1) m=.ok (.int t) m:=by simp[aX,aM,L2.kZ,L2.nP]
theorem Ig{N:List (List Int)}:aZ .len [aU N] M=.ok (.int N.length) M:=by
 have:=bK (m:=M) (w:=aU N) (xs:=N.map tupI) rfl;rw[Qi] at this;exact this
theorem lN{a:List Int}:aZ .len [tupI a] M=.ok (.int a.length) M:=by
 have:=bK (m:=M) (w:=tupI a) (xs:=a.map .int) rfl;rw[Qi] at this;exact this
theorem NY(hm:Cm m):ao C (.frz (.lst .nil)) Z m=.ok (aU []) m:=by
 refine bG (m0:=m) ?_ rfl hm rfl;erw[EVs,new,RS];rw[Qs (RC _)];rfl
theorem Lb{a b:List (List Int)}:aD .NotEq (aU a) (aU b) m=.ok (!decide (a=b)) m:=by
 erw[aD];rw[NW (a:=a) (b:=b) rfl rfl];rfl
theorem DM{T:List (List Int)}:Cm [.lst (T.map tupI)]:=Cm.nil.push (cB _ (cP _))
theorem DN{k:Nat}{N:List (List Int)}(h:aA k N)(hs:s < N.length)(ht:t < N.length)(hu:u < N.length)(hv:v < N.length) :
  D.runN pg (n+1+1) 34 [aU N,pW s t,pW u v] []=.ok (.ref 0) [.lst ((cm N[s] N[t] N[u] N[v]).map tupI)]:=by
 have h0:0 < N.length:=by omega
 have lk:∀{i:Nat} (hi:i < N.length),N[i].length=k:=λ hi=>(aB.mp (h.at_ hi)).1;have e0:=fW (m:=[.lst []]) h0;rw[show ((0:Nat):Int)=0 from rfl] at e0;have l0:aZ .len [tupI N[0]] [.lst []]=.ok (.int k) [.lst []]:=by rw[lN,lk]
 have hI:∀o4,cC (Cn pg (n+1)) (.frz (.call 31 %[|.blt .len %[|.idx @0 @(0)]])) [some (aU N),some (pW s t),some (pW u v),some (.ref 0),o4] [.lst []]=.ok (.tup ((af k).map tupI)) [.lst []]:=λ o4=>by
  rw[oU,NX (m:=[.lst []]) (DM (T:=[])) h.k1 h.k4 (by erw[EWs,e0,l0])];rfl
 have Pz:(af k).length<=16:=by rw[ny];exact pow2 h.k4
 let⟨ρ',m',hf,o4,rfl,rfl⟩:=cR (C:=Cn pg (n+1)) (t:=.var 4) (b:=vZ) (hI none) (n:=(af k).length) (by simp[Src.len])
  (λ i Z M=>∃o4,Z=[@(aU N),@(pW s t),@(pW u v),@(.ref 0),o4]/\M=[.lst ((((af k).take i).filter λ x=>gW N[s] N[t] x&&gW N[u] N[v] x).map tupI)])
  ⟨none,rfl,by simp⟩ (λ i Z M hi=>by
   rintro⟨o4,rfl,rfl⟩;have hx:=QI hi;have htk:(af k).take (i+1)=(af k).take i++[(af k)[i]]:=by rw[take_add_one,QG hi];rfl
   have hlen:(((af k).take i).filter λ x=>gW N[s] N[t] x&&gW N[u] N[v] x).length<=16:=QC (RX ..) (by rw[Ri];omega);generalize hX:((af k).take i).filter (λ x=>gW N[s] N[t] x&&gW N[u] N[v] x)=X at hlen ⊢;have b1:∀M,aC (D.runN pg (n+1) 33) [tupI (af k)[i],tupI N[s],tupI N[t]] M=.ok (.bl (gW N[s] N[t] (af k)[i])) M:=λ M=>nF h.k1 h.k4 (h.at_ hs) (h.at_ ht) hx;have b2:∀M,aC (D.runN pg (n+1) 33) [tupI (af k)[i],tupI N[u],tupI N[v]] M=.ok (.bl (gW N[u] N[v] (af k)[i])) M:=λ M=>nF h.k1 h.k4 (h.at_ hu) (h.at_ hv) hx;have hT:bx (Cn pg (n+1)) (.and (.call 33 %[@4,.idx @0 (.idx @1 @(0)),|.idx @0 (.idx @1 @(1))]) (.call 33 %[@4,.idx @0 (.idx @2 @(0)),|.idx @0 (.idx @2 @(1))])) [@(aU N),@(pW s t),@(pW u v),@(.ref 0),@(tupI (af k)[i])] [.lst (X.map tupI)]=.ok (gW N[s] N[t] (af k)[i]&&gW N[u] N[v] (af k)[i]) [.lst (X.map tupI)]:=by
    have t1:bx (Cn pg (n+1)) (.call 33 %[@4,.idx @0 (.idx @1 @(0)),|.idx @0 (.idx @1 @(1))]) [@(aU N),@(pW s t),@(pW u v),@(.ref 0),@(tupI (af k)[i])] [.lst (X.map tupI)]=.ok (gW N[s] N[t] (af k)[i]) [.lst (X.map tupI)]:=jb (bR _ _) (by erw[EWs,OA,OB,fW hs,fW ht,b1]);have t2:bx (Cn pg (n+1)) (.call 33 %[@4,.idx @0 (.idx @2 @(0)),|.idx @0 (.idx @2 @(1))]) [@(aU N),@(pW s t),@(pW u v),@(.ref 0),@(tupI (af k)[i])] [.lst (X.map tupI)]=.ok (gW N[u] N[v] (af k)[i]) [.lst (X.map tupI)]:=jb (bR _ _) (by erw[EWs,OA,OB,fW hu,fW hv,b2]);rw[cX,t1];erw[aP];cases gW N[s] N[t] (af k)[i]
    .rfl
    .rw[Qs rfl,t2];rfl
   refine⟨tupI (af k)[i],[@(aU N),@(pW s t),@(pW u v),@(.ref 0),@(tupI (af k)[i])],[@(aU N),@(pW s t),@(pW u v),@(.ref 0),@(tupI (af k)[i])],[.lst ((((af k).take (i+1)).filter λ x=>gW N[s] N[t] x&&gW N[u] N[v] x).map tupI)],?_,by simp[aE],.inl ?_,_,rfl,rfl⟩
   .rw[aO (by simpa using hi),QD]
   rw[htk,filter_append,hX];cases hq:(gW N[s] N[t] (af k)[i]&&gW N[u] N[v] (af k)[i]) with
   | false=>
    rw[hq] at hT;rw[vZ,ai (by rw[gR hT,ay]),ay,filter_cons_of_neg (by simp[hq]),filter_nil,append_nil]
   | true=>
    rw[hq] at hT;have hap:=wF (xs:=X.map tupI) (w:=tupI (af k)[i]) (by rw[Qi];erw[lim];omega);rw[filter_cons_of_pos (by simp[hq]),filter_nil,Rv,vZ,ai (Z1:=[@(aU N),@(pW s t),@(pW u v),@(.ref 0),@(tupI (af k)[i])]) (m1:=[.lst (X.map tupI++[tupI (af k)[i]])]) (by
     rw[sQ hT,ai (cQ (w:=.non) (m1:=[.lst (X.map tupI++[tupI (af k)[i]])]) (by
      erw[EWs];rw[Qs A4,hap])),ay]),ay]
    rfl)
  (fun Z M _=>aK 's')
 refine aT (d:=⟨3,5,Mh⟩) rfl rfl ?_;show aL _ Mh [@(aU N),@(pW s t),@(pW u v),none,none] []=_;rw[Mh,ai (Z1:=[@(aU N),@(pW s t),@(pW u v),@(.ref 0),none]) (m1:=[.lst []]) (aF (w:=.ref 0) (by erw[EVs,new,RS];rw[Qs (RC _)];rfl) rfl),ai hf,take_length,<-E4 (lk hs) (lk hu),aQ (aR (w:=.ref 0) (m1:=[.lst ((cm N[s] N[t] N[u] N[v]).map tupI)]) (by erw[EWs]))]
theorem DO{k:Nat}{N:List (List Int)}{es:Es}(hm:Cm m)(h:aA k N)(hs:s < N.length)(ht:t < N.length)(hu:u < N.length)(hv:v < N.length)(he:bQ (Cn pg (n+1+1)) es Z m=.ok [aU N,pW s t,pW u v] m) :
  ao (Cn pg (n+1+1)) (.frz (.call 34 es)) Z m=.ok (aU (cm N[s] N[t] N[u] N[v])) m:=by
 refine bG (m0:=m) ?_ rfl hm (cP _);rw[dH,he];erw[aP];rw[dW (by simp[aj,av,bI,cP]) (DN h hs ht hu hv) rfl,QM,BE,g8 _ (cP _)];rfl
theorem Lc{a b:E}{j:Nat}(ha:ao C a Z m=.ok (.int i) m)(hb:ao C b Z m=.ok (.int j) m)(hi:i < 1000)(hj:j < 1000):cC C (.rng2 a b) Z m=.ok (.rng i (j - i)) m:=by
 erw[cu,mK,jv,oU,rV,rX,rY,oV,rZ,r8,r9,mL,j9,oW,mO,aN,ck,dO,gG,dP,dD,gZ,cV,bg,dQ,cD,dF,cF,dR,dg,bC,ef,bD,bV,cW,gv,bS,gw,bW,dj,fR,ha,hb,D.R.bind];rw[Qs 'o'];congr 2;omega
theorem uW{lo:Nat}(h:i < n):Src.get (.rng lo n) m i=.it (.int (lo+i:Nat)):=by rw[cg h];simp
section
variable{n:Nat}{m:Mem}{ks ss ls:List Str}{R L N:List (List Int)}{k:Nat}
theorem wG:aZ .len [.fz (R.map bL)] M=.ok (.int R.length) M:=by
 have:=bK (m:=M) (w:=.fz (R.map bL)) (xs:=R.map bL) rfl;rw[Qi] at this;exact this
theorem uX(h:s < R.length):aX (.fz (R.map bL)) (.int s) M=.ok (bL R[s]) M:=by
 have:=fm (m:=M) (w:=.fz (R.map bL)) (xs:=R.map bL) (i:=s) rfl (by simpa using h);rw[QD] at this;exact this
theorem DP{r:List Int}{x:Nat}(h:x < r.length):aX (bL r) (.int x) M=.ok (.int r[x]) M:=by
 have:=fm (m:=M) (w:=bL r) (xs:=r.map .int) (i:=x) rfl (by simpa using h);rw[QD] at this;exact this
theorem A5(o:TabOk ks ss ls R L){x:Nat}(hs:s < ss.length)(hx:x < 2^ks.length):∃(h1:s < R.length),∀M,aX (.fz (R.map bL)) (.int s) M=.ok (bL R[s]) M/\aX (bL R[s]) (.int x) M=.ok (.int (bP R s x)) M:=by
 let⟨a1,a2,a3,a4⟩:=kU o hs hx;exact⟨a1,λ M=>⟨uX a1,by rw[DP a2,a3]⟩⟩
theorem A6(T:List Race):Cm [.lst (T.map tW)]:=Cm.nil.push (cB _ (eH T))
abbrev gC(R N:List (List Int))(x:Nat)(o4 o5 o6:Option W):D.Loc:=[@(.fz (R.map bL)),@(aU N),@(.ref 0),@(.int x),o4,o5,o6]
theorem PC(o:TabOk ks ss ls R L)(h:aA k N)(hl:N.length=ss.length){x:Nat}(hx:x < 2^ks.length)(hs:s < ss.length)(hu:u < ss.length){T:List Race}(hT:T.length<=1000) :
  ∃o6',aL (Cn pg (n+1+1)) v7 (gC R N x @(.int s) @(.int u) o6) [.lst (T.map tW)]=.ok (.nx (gC R N x @(.int s) @(.int u) o6')) [.lst ((T++rF R N x s u).map tW)]:=by
 let⟨r1,g1⟩:=A5 o hs hx;let⟨r2,g2⟩:=A5 o hu hx;let⟨_,_,_,q1⟩:=kU o hs hx;let⟨_,_,_,q2⟩:=kU o hu hx;have e6:=DO (n:=n) (Z:=gC R N x @(.int s) @(.int u) o6) (m:=[.lst (T.map tW)]) (es:=.cons @1 %[.tup %[@4,|.idx (.idx @0 @4) @3],|.tup %[@5,|.idx (.idx @0 @5) @3]]) (A6 T) h (by omega:s < N.length) (by omega:bP R s x < N.length) (by omega:u < N.length) (by omega:bP R u x < N.length) (by
  erw[aH,aY,cD,cF,aN,dX,dY,dZ,d7,aP,(g1 _).1,(g1 _).2,(g2 _).1,(g2 _).2];rfl)
 rw[<-gD (by omega:s < N.length),<-gD (by omega:bP R s x < N.length),<-gD (by omega:u < N.length),<-gD (by omega:bP R u x < N.length)] at e6;refine⟨some (aU (cm (N.getD s []) (N.getD (bP R s x) []) (N.getD u []) (N.getD (bP R u x) []))),?_⟩;unfold rF;generalize cm (N.getD s []) (N.getD (bP R s x) []) (N.getD u []) (N.getD (bP R u x) [])=c at e6 ⊢;rw[v7,ai (aF e6 rfl)];erw[dX,dY,dZ,d7];have hT1:bx (Cn pg (n+1+1)) (.and (.cmp .NotEq (.idx (.idx @0 @4) @3) (.idx (.idx @0 @5) @3)) (.cmp .NotEq @6 (.frz (.lst .nil)))) (gC R N x @(.int s) @(.int u) @(aU c)) [.lst (T.map tW)]=.ok (!decide (bP R s x=bP R u x)&&!decide (c=[])) [.lst (T.map tW)]:=by
  rw[cX,bH];erw[cF,aN,dX,dY,dZ,d7,aP,(g1 _).1,(g1 _).2,(g2 _).1,(g2 _).2,aD,AR]
  by_cases e:bP R s x=bP R u x
  .simp[e]
  .rw[QE e,QE (by omega:¬(bP R s x:Int)=bP R u x)];erw[Bool.not_false,QL,Bool.true_and];rw[bH];erw[aN,dX,dY,dZ,d7,aP];rw[NY (A6 T)];erw[aP];rw[Lb]
 by_cases e:bP R s x=bP R u x
 .rw[Q2 e] at hT1;rw[Qs e,append_nil,ai (by rw[gR hT1,ay]),ay]
 .rw[QE e] at hT1;rw[Qz e];cases c with
  | nil=>rw[ai (by rw[gR hT1,ay]),ay];simp
  | cons nm r=>
   have h0:aX (aU (nm::r)) (.int 0) [.lst (T.map tW)]=.ok (tupI nm) [.lst (T.map tW)]:=fW (N:=nm::r) (s:=0) (Nat.succ_pos _);have hap:=wF (xs:=T.map tW) (w:=tW (x,s,u,nm)) (by rw[Qi];erw[lim];omega);have IX:[W.int x,.int s,.int u,tupI nm].length<=lim:=by simp[lim]
   rw[ai (Z1:=gC R N x @(.int s) @(.int u) @(aU (nm::r))) (m1:=[.lst (T.map tW++[tW (x,s,u,nm)])]) (by
    rw[sQ hT1,ai (cQ (w:=.non) (m1:=[.lst (T.map tW++[tW (x,s,u,nm)])]) (by
     erw[EWs];rw[Qs A4];erw[h0,aP,IX,QL];rw[hap])),ay]),ay]
   simp
theorem A7(x s u:Nat):(rF R N x s u).length<=1:=by
 unfold rF;split
 .simp
 .rw[Qi,Ri];omega
theorem PD(o:TabOk ks ss ls R L)(h:aA k N)(hl:N.length=ss.length){x:Nat}(hx:x < 2^ks.length)(hs:s < ss.length){T:List Race}(hT:T.length<=900) :
  ∃o5' o6',aL (Cn pg (n+1+1)) v8 (gC R N x @(.int s) o5 o6) [.lst (T.map tW)]=.ok (.nx (gC R N x @(.int s) o5' o6')) [.lst ((T++lD R N ss.length x s).map tW)]:=by
 have h4:=o.s4;have hI:cC (Cn pg (n+1+1)) (.rng2 (.bin .Add @4 @(1)) (.blt .len %[|@0])) (gC R N x @(.int s) o5 o6) [.lst (T.map tW)]=.ok (.rng (s+1:Nat) (ss.length - (s+1))) [.lst (T.map tW)]:=Lc (by erw[EWs,binop];rfl) (by erw[EWs,wG,o.rl]) 'o' 'o';let⟨ρ',m',hf,o5',o6',rfl,rfl⟩:=cR (C:=Cn pg (n+1+1)) (t:=.var 5) (b:=v7) hI (n:=ss.length - (s+1)) rfl
  (λ i Z M=>∃o5' o6',Z=gC R N x @(.int s) o5' o6'/\M=[.lst ((T++(List.range i).flatMap λ j=>rF R N x s (s+1+j)).map tW)])
  ⟨o5,o6,rfl,by simp⟩ (λ i Z M hi=>by
   rintro⟨o5',o6',rfl,rfl⟩;have hb:=nE (f:=λ j=>rF R N x s (s+1+j)) (λ j=>A7 x s (s+1+j)) (List.range i);rw[Ry] at hb;let⟨p6,e⟩:=PC (n:=n) o h hl (T:=T++(List.range i).flatMap λ j=>rF R N x s (s+1+j)) hx hs (by omega:s+1+i < ss.length) (by rw[Q5];omega) (o6:=o6');refine⟨.int (s+1+i:Nat),_,_,_,uW hi,rfl,.inl e,@(.int (s+1+i:Nat)),p6,rfl,?_⟩;rw[range_succ,flatMap_append,flatMap_singleton,append_assoc])
  (fun Z M _=>bO 'o')
 refine⟨o5',o6',?_⟩;rw[v8,ai hf,ay];rfl
theorem A8{x:Nat}(hk:ss.length<=4):(lD R N ss.length x s).length<=4:=by
 have:=nE (f:=λ j=>rF R N x s (s+1+j)) (λ j=>A7 x s (s+1+j)) (List.range (ss.length - (s+1)));rw[Ry] at this;unfold lD;omega
theorem PF(o:TabOk ks ss ls R L)(h:aA k N)(hl:N.length=ss.length){x:Nat}(hx:x < 2^ks.length){T:List Race}(hT:T.length<=800) :
  ∃o4' o5' o6',aL (Cn pg (n+1+1)) v9 (gC R N x o4 o5 o6) [.lst (T.map tW)]=.ok (.nx (gC R N x o4' o5' o6')) [.lst ((T++qK R N ss.length x).map tW)]:=by
 have h4:=o.s4;have hI:cC (Cn pg (n+1+1)) (.rng (.blt .len %[|@0])) (gC R N x o4 o5 o6) [.lst (T.map tW)]=.ok (.rng 0 ss.length) [.lst (T.map tW)]:=jQ (by erw[EWs,wG,o.rl]) 'o';let⟨ρ',m',hf,o4',o5',o6',rfl,rfl⟩:=cR (C:=Cn pg (n+1+1)) (t:=.var 4) (b:=v8) hI (n:=ss.length) rfl
  (λ i Z M=>∃o4' o5' o6',Z=gC R N x o4' o5' o6'/\M=[.lst ((T++(List.range i).flatMap (lD R N ss.length x)).map tW)])
  ⟨o4,o5,o6,rfl,by simp⟩ (λ i Z M hi=>by
   rintro⟨o4',o5',o6',rfl,rfl⟩;have hb:∀l:List Nat,(l.flatMap (lD R N ss.length x)).length<=4*l.length:=λ l=>by
    induction l with
    | nil=>simp
    | cons a r ih=>have:=A8 (R:=R) (N:=N) (ss:=ss) (x:=x) (s:=a) h4;rw[RY,Q5,QB];omega
   have hb:=hb (List.range i);rw[Ry] at hb;let⟨p5,p6,e⟩:=PD (n:=n) o h hl (T:=T++(List.range i).flatMap (lD R N ss.length x)) hx hi (by rw[Q5];omega) (o5:=o5') (o6:=o6');refine⟨.int (0+i),gC R N x @(.int i) o5' o6',_,_,cg hi,by simp[aE],.inl e,@(.int i),p5,p6,rfl,?_⟩;rw[range_succ,flatMap_append,flatMap_singleton,append_assoc])
  (fun Z M _=>bO 'o')
 refine⟨o4',o5',o6',?_⟩;rw[v9,ai hf,ay];rfl
theorem ym(o:TabOk ks ss ls R L)(h:aA k N)(hl:N.length=ss.length):aC (D.runN pg (n+1+1+1) 35) [.fz (R.map bL),aU N] m=.ok (.ref m.length) (m++[.lst ((rcs R N ss.length (2^ks.length)).map tW)]):=by
 have qS:2^ks.length<=4:=iB o.k2;have h0:0 < R.length:=by have:=o.s2;have:=o.rl;omega
 have NZ:aZ .len [bL R[0]] [.lst []]=.ok (.int (2^ks.length:Nat)) [.lst []]:=by
  have:=bK (m:=[.lst []]) (w:=bL R[0]) (xs:=R[0].map .int) rfl;rw[Qi,(o.re R[0] (QI h0)).1] at this;exact this
 have hr0:=uX (M:=[.lst []]) h0;rw[show ((0:Nat):Int)=0 from rfl] at hr0;have hr:D.runN pg (n+1+1+1) 35 [.fz (R.map bL),aU N] []=.ok (.ref 0) [.lst ((rcs R N ss.length (2^ks.length)).map tW)]:=by
  refine aT (d:=⟨2,7,Mi⟩) rfl rfl ?_;show aL _ Mi [@(.fz (R.map bL)),@(aU N),none,none,none,none,none] []=_;have hI:cC (Cn pg (n+1+1)) (.rng (.blt .len %[|.idx @0 @(0)])) [@(.fz (R.map bL)),@(aU N),@(.ref 0),none,none,none,none] [.lst []]=.ok (.rng 0 (2^ks.length)) [.lst []]:=jQ (by erw[EWs,hr0,NZ]) (by generalize 2^ks.length=l at qS ⊢;omega);let⟨ρ',m',hf,o3',o4',o5',o6',rfl,rfl⟩:=cR (C:=Cn pg (n+1+1)) (t:=.var 3) (b:=v9) hI (n:=2^ks.length) rfl
   (λ i Z M=>∃o3' o4' o5' o6',Z=[@(.fz (R.map bL)),@(aU N),@(.ref 0),o3',o4',o5',o6']/\M=[.lst ((rcs R N ss.length i).map tW)])
   ⟨none,none,none,none,rfl,rfl⟩ (λ i Z M hi=>by
    rintro⟨o3',o4',o5',o6',rfl,rfl⟩;have hlen:=lM (R:=R) (N:=N) (ss:=ss) o.s4 i 'o';let⟨p4,p5,p6,e⟩:=PF (n:=n) o h hl hi (T:=rcs R N ss.length i) 'o' (o4:=o4') (o5:=o5') (o6:=o6');refine⟨.int (0+i),gC R N i o4' o5' o6',_,_,cg hi,by simp[aE],.inl e,@(.int i),p4,p5,p6,rfl,?_⟩;rw[jD,jD,range_succ,flatMap_append,flatMap_singleton])
   (fun Z M _=>bO 'o')
  rw[Mi,ai (Z1:=[@(.fz (R.map bL)),@(aU N),@(.ref 0),none,none,none,none]) (m1:=[.lst []]) (aF (w:=.ref 0) (by erw[EVs,new,RS];rw[Qs (RC _)];rfl) rfl),ai hf,aQ (aR (w:=.ref 0) (m1:=[.lst ((rcs R N ss.length (2^ks.length)).map tW)]) (by erw[EWs]))]
 rw[dW (by simp[aj,av,cP,EY]) hr rfl,QM,BE,g8 _ (eH _)];rfl
end
def stp(a b:List Int):List (List Int):=a::(List.range a.length).filterMap λ i=>if a.getD i 0=b.getD i 0 then none else some (b.take (i+1)++a.drop (i+1))
def A9(l:List (List Int)):R W->Bool
 | .ok (.ref 0) [.lst xs]=>EZ xs l
 | _=>false
theorem Ba{l:List (List Int)}{r:R W}(h:A9 l r=true):r=.ok (.ref 0) [.lst (l.map tupI)]:=by
 unfold A9 at h;split at h
 .rw[uV h]
 .cases h
theorem DQ:([1,2,3,4].all λ k=>(af k).all λ a=>(af k).all λ b=>A9 (stp a b) (D.runN pg (n+1) 23 [tupI a,tupI b] []))=true:=by kernel_rfl
theorem jn{k:Nat}{a:List Int}(h1:1<=k)(h4:k<=4)(ha:a∈af k)(hb:b∈af k):aC (D.runN pg (n+1) 23) [tupI a,tupI b] m=.ok (.ref m.length) (m++[.lst ((stp a b).map tupI)]):=by
 have h:=Qx.mp (Qx.mp (Qx.mp (DQ (n:=n)) k (k4 h1 h4)) a ha) b hb;rw[dW (by simp[aj,av,bI]) (Ba h) rfl,QM,BE,g8 _ (cP _)];rfl
section
variable{n:Nat}{m:Mem}{ks ss ls:List Str}{R L N:List (List Int)}{k:Nat}
theorem steps(h:aA k N)(hl:N.length=ss.length){x:Nat}{c:List Int}(hs:s < N.length)(hu:u < N.length)(hc:c∈af k) :
  aC (D.runN pg (n+1+1+1) 22) [tab ks ss ls R L,aU N,tW (x,s,u,c)] []=.ok (.tup [.ref 0,.ref 1]) [.lst ((stp N[s] c).map tupI),.lst ((stp N[u] c).map tupI)]:=by
 have h0:0 < N.length:=by omega
 have hr:D.runN pg (n+1+1+1) 22 [tab ks ss ls R L,aU N,tW (x,s,u,c)] []=.ok (.tup [.ref 0,.ref 1]) [.lst ((stp N[s] c).map tupI),.lst ((stp N[u] c).map tupI)]:=by
  refine aT (d:=⟨3,7,Ma⟩) rfl rfl ?_;show aL _ Ma [@(tab ks ss ls R L),@(aU N),@(tW (x,s,u,c)),none,none,none,none] []=_;have g1:=jn (n:=n+1) (m:=[]) h.k1 h.k4 (h.at_ hs) hc;have g2:=jn (n:=n+1) (m:=[.lst ((stp N[s] c).map tupI)]) h.k1 h.k4 (h.at_ hu) hc;rw[Ma,ai (cQ (w:=.non) (m1:=[]) (by erw[EWs,kT h h0 hl])),ai (Z1:=[@(tab ks ss ls R L),@(aU N),@(tW (x,s,u,c)),@(.int x),@(.int s),@(.int u),@(tupI c)]) (m1:=[]) (by simp[fS,jL,gy,iP,gM,iD,gz,eB,gO,jk,gP,fB,iQ,aN,ck,dO,gG,dP,dD,gZ,cV,bg,dQ,cD,dF,cF,dR,dg,bC,ef,bD,bV,cW,gv,bS,gw,bW,dj,fR,gU,eO,aE,D.R.bind,aM]),aQ (aR (w:=.tup [.ref 0,.ref 1]) (m1:=[.lst ((stp N[s] c).map tupI),.lst ((stp N[u] c).map tupI)]) ?_)];erw[EWs,fW hs,fW hu,g1,nil_append,RS,g2,QB];exact Qs 'm'
 rw[dW (by rw[aj,cy];simp[aj,av,cP,bI]) hr rfl];erw[QM,map_nil,BE,g8 _ (cP _)];rfl
theorem Ih(h:aA k N)(hl:N.length=ss.length){x:Nat}{c:List Int}(hs:s < N.length)(hu:u < N.length)(hc:c∈af k){e0 e1 e2:E}(he:bQ (Cn pg (n+1+1+1)) %[e0,e1,|e2] Z []=.ok [tab ks ss ls R L,aU N,tW (x,s,u,c)] []) :
  ao (Cn pg (n+1+1+1)) (.frz (.call 22 %[e0,e1,|e2])) Z []=.ok (.tup [aU (stp N[s] c),aU (stp N[u] c)]) []:=by
 refine qC (m0:=[]) (w:=.tup [.ref 0,.ref 1]) (l:=[.lst ((stp N[s] c).map tupI),.lst ((stp N[u] c).map tupI)]) ?_ rfl Cm.nil ?_
 .rw[dH,he];erw[aP,steps h hl hs hu hc];rfl
 .erw[mH,ir,BA,nil_append,dX,dY,dZ,d7,fj _ (cP _),Option.map_some];rfl
end
end My
end
section
namespace My
open PySem PySem.W D List
variable{i m n:Nat}{p:Array Nat}
structure Ord(n:Nat)(lt:Nat->Nat->Bool):Prop where
 tr:∀{i j k},i < n->j < n->k < n->lt i j=true->lt j k=true->lt i k=true
 ft:∀{i j},i < n->j < n->i≠j->lt i j=false->lt j i=true
theorem gp{α J:Type}{lt:Nat->Nat->Bool}{f:α->KasT J}:∀(t:KasT α),eZ n lt (t.bind f)=(eZ n lt t).bind λ a=>eZ n lt (f a)
 | .ret a=>rfl
 | .ask i j k=>by
  show (if i < n/\j < n/\i≠j then eZ n lt ((k (lt i j)).bind f) else none)=(if i < n/\j < n/\i≠j then eZ n lt (k (lt i j)) else none).bind _;split
  .exact gp (k (lt i j))
  .rfl
theorem iY{α:Type}{lt:Nat->Nat->Bool}{j:Nat}{k:Bool->KasT α}(h:i < n/\j < n/\i≠j):eZ n lt (.ask i j k)=eZ n lt (k (lt i j)):=Qs h
def Pm(n:Nat)(p:Array Nat):Prop:=p.toList.Perm (List.range n)
theorem Pm.size(h:Pm n p):p.size=n:=by have:=h.length_eq;simpa using this
theorem Pm.lt(h:Pm n p)(hi:i < n):p.getD i 0 < n:=by
 have hs:=h.size;rw[QO,Rn 'o'];exact Qo.mp (h.mem_iff.mp 's')
theorem Pm.ne(h:Pm n p){j:Nat}(hi:i < n)(hj:j < n)(hij:i≠j):p.getD i 0≠p.getD j 0:=by
 have hs:=h.size;have hn:p.toList.Nodup:=h.nodup_iff.mpr nodup_range;rw[QO,QO,Rn 'o',Rn 'o'];intro e;erw[Rm] at e;have hp:=List.pairwise_iff_getElem.mp (Rj.mp hn);rcases Nat.lt_or_gt_of_ne hij with hl | hl
 .exact hp i j (by simpa[hs] using hi) (by simpa[hs] using hj) hl (by simpa using e)
 .exact hp j i (by simpa[hs] using hj) (by simpa[hs] using hi) hl (by simpa using e.symm)
theorem Pm.of{q:Array Nat}(h:Pm n p)(e:q.Perm p):Pm n q:=(Array.perm_iff_toList_perm.mp e).trans h
def Up(lt:Nat->Nat->Bool)(p:Array Nat)(m:Nat):Prop:=∀i j,i < j->j < m->lt (p.getD i 0) (p.getD j 0)=true
def Dn(lt:Nat->Nat->Bool)(p:Array Nat)(m:Nat):Prop:=∀i j,i < j->j < m->lt (p.getD j 0) (p.getD i 0)=true
section
variable{n:Nat}{lt:Nat->Nat->Bool}
theorem Up.more(o:Ord n lt)(h:Pm n p)(u:Up lt p m)(hm:1<=m)(hn:m < n)(e:lt (p.getD (m - 1) 0) (p.getD m 0)=true):Up lt p (m+1):=λ i j hij hj=>by
 by_cases hjm:j < m
 .exact u i j hij hjm
 .obtain rfl:j=m:=by omega
  by_cases hi:i=j - 1
  .subst hi;exact e
  .exact o.tr (h.lt 'o') (h.lt 'o') (h.lt 'o') (u i (j - 1) 'o' 'o') e
theorem Dn.more(o:Ord n lt)(h:Pm n p)(u:Dn lt p m)(hm:1<=m)(hn:m < n)(e:lt (p.getD m 0) (p.getD (m - 1) 0)=true):Dn lt p (m+1):=λ i j hij hj=>by
 by_cases hjm:j < m
 .exact u i j hij hjm
 .obtain rfl:j=m:=by omega
  by_cases hi:i=j - 1
  .subst hi;exact e
  .exact o.tr (h.lt 'o') (h.lt 'o') (h.lt 'o') e (u i (j - 1) 'o' 'o')
theorem Bb(o:Ord n lt)(h:Pm n p):∀(f m:Nat),m+f=n->1<=m->Up lt p m->∃m',eZ n lt (kas_asc p f m)=some m'/\m<=m'/\m'<=n/\Up lt p m'/\(m' < n->lt (p.getD m' 0) (p.getD (m' - 1) 0)=true):=by
 intro f
 induction f with
 | zero=>intro m hm h1 u;exact⟨m,rfl,by omega,by omega,u,λ z=>by omega⟩
 | succ f ih=>
  intro m hm h1 u;rw[kas_asc.eq_def];simp only;rw[iY ⟨h.lt 'o',h.lt 'o',h.ne 'o' 'o' 'o'⟩];cases e:lt (p.getD m 0) (p.getD (m - 1) 0) with
  | true=>exact⟨m,rfl,by omega,by omega,u,λ _=>e⟩
  | false=>
   have e2:=o.ft (h.lt 'o') (h.lt 'o') (h.ne 'o' 'o' 'o') e;let⟨m',a,b,c,d⟩:=ih (m+1) 'o' 'o' (u.more o h h1 'o' e2);exact⟨m',by simpa using a,by omega,c,d⟩
theorem DR(o:Ord n lt)(h:Pm n p):∀(f m:Nat),m+f=n->1<=m->Dn lt p m->∃m',eZ n lt (kas_desc f p m 0)=some (p,m',0)/\m<=m'/\m'<=n/\Dn lt p m':=by
 intro f
 induction f with
 | zero=>intro m hm h1 u;exact⟨m,rfl,by omega,by omega,u⟩
 | succ f ih=>
  intro m hm h1 u;rw[kas_desc.eq_def];simp only;rw[iY ⟨h.lt 'o',h.lt 'o',h.ne 'o' 'o' 'o'⟩];cases e:lt (p.getD m 0) (p.getD (m - 1) 0) with
  | true=>
   let⟨m',a,b,c,d⟩:=ih (m+1) 'o' 'o' (u.more o h h1 'o' e);exact⟨m',by simpa using a,by omega,c,d⟩
  | false=>
   have e2:=o.ft (h.lt 'o') (h.lt 'o') (h.ne 'o' 'o' 'o') e;erw[Qv,QK];rw[iY ⟨h.lt 'o',h.lt 'o',h.ne 'o' 'o' 'o'⟩,e2];exact⟨m,rfl,by omega,by omega,u⟩
theorem Bc(hm:m<=p.size)(k:Nat)(hk:k < m):(kas_rev p 0 m).getD k 0=p.getD (m - 1 - k) 0:=by
 have:=PyProof.Rows.getElem?_mirror_all (xs:=p) (i:=0) hm k;rw[Qs ⟨by omega,hk⟩] at this;rw[kas_rev.eq_1,QO,QO,this];congr 2;omega
theorem DS(o:Ord n lt)(h:Pm n p)(h1:1<=m)(hm:m<=n)(d:Dn lt p m):∃m' q,eZ n lt (kas_tail3 m n p)=some (m',q)/\Pm n q/\1<=m'/\m'<=n/\Up lt q m':=by
 have hq:Pm n (kas_rev p 0 m):=h.of (PyProof.Rows.mirror_perm _ _ _ _);have hs:=h.size;have u:Up lt (kas_rev p 0 m) m:=λ i j hij hj=>by
  rw[Bc 'o' i 'o',Bc 'o' j 'o'];exact d _ _ 'o' 'o'
 let⟨m',a,b,c,u',_⟩:=Bb o hq (n - m) m 'o' h1 u;refine⟨m',kas_rev p 0 m,?_,hq,by omega,c,u'⟩;rw[kas_tail3.eq_1,gp,a];rfl
theorem Bd(o:Ord n lt)(h:Pm n p)(h2:2<=n):∃m q,eZ n lt (kas_count n p)=some (m,q)/\Pm n q/\1<=m/\m<=n/\Up lt q m:=by
 let⟨m,a,b,c,u,e⟩:=Bb o h (n - 1) 1 'o' 'o' (λ i j _ _=>by omega);rw[kas_count.eq_1,gp,a];show ∃m_1 q,eZ n lt (if (m==n)=true then KasT.ret (m,p) else if m>1 then .ask (p.getD 0 0) (p.getD (m - 1) 0) λ c=>if c=true then KasT.ret (m,p) else kas_descPart m n (kas_rev p 0 m) else kas_descPart m n p)=_/\_
 by_cases hmn:m=n
 .rw[Qs (by simpa using hmn)];exact⟨m,p,rfl,h,by omega,c,u⟩
 .rw[Qz (by simpa using hmn)]
  by_cases h1:m>1
  .rw[Qs h1,iY ⟨h.lt 'o',h.lt 'o',h.ne 'o' 'o' 'o'⟩,u 0 (m - 1) 'o' 'o'];exact⟨m,p,rfl,h,by omega,c,u⟩
  .obtain rfl:m=1:=by omega
   rw[Qz h1,kas_descPart.eq_1,gp];have d2:Dn lt p 2:=λ i j hij hj=>by
    obtain rfl:i=0:=by omega
    obtain rfl:j=1:=by omega
    exact e 'o'
   let⟨m',a,b,c,d⟩:=DR o h (n - (1+1)) (1+1) 'o' 'o' d2;rw[a];have:=DS o h (m:=m') 'o' c d;exact this
theorem Be(o:Ord n lt)(h:Pm n p){k:Nat}(hk:k < n)(u:Up lt p k):∀(f l r:Nat),r - l<=f->l<=r->r<=k->(∀i < l,lt (p.getD i 0) (p.getD k 0)=true)->(∀i,r<=i->i < k->lt (p.getD k 0) (p.getD i 0)=true)->
  ∃l',eZ n lt (kas_place p k f l r)=some l'/\l'<=k/\(∀i < l',lt (p.getD i 0) (p.getD k 0)=true)/\∀i,l'<=i->i < k->lt (p.getD k 0) (p.getD i 0)=true:=by
 intro f
 induction f with
 | zero=>
  intro l r hf hlr hrk a b;obtain rfl:l=r:=by omega
  exact⟨l,rfl,hrk,a,b⟩
 | succ f ih=>
  intro l r hf hlr hrk a b;rw[kas_place.eq_def];simp only
  by_cases hge:l≥r
  .obtain rfl:l=r:=by omega
   rw[Qs hge];exact⟨l,rfl,hrk,a,b⟩
  .rw[Qz hge,iY ⟨h.lt hk,h.lt 'o',h.ne 'o' 'o' 'o'⟩];cases e:lt (p.getD k 0) (p.getD ((l+r) / 2) 0) with
   | true=>
    erw[QL];refine ih l ((l+r) / 2) 'o' 'o' 'o' a λ i h1 h2=>?_
    by_cases hi:i=(l+r) / 2
    .rw[hi];exact e
    .exact o.tr (h.lt hk) (h.lt 'o') (h.lt 'o') e (u _ i 'o' h2)
   | false=>
    erw[Qv,QK];have e2:=o.ft (h.lt hk) (h.lt 'o') (h.ne 'o' 'o' 'o') e;refine ih ((l+r) / 2+1) r 'o' 'o' hrk (λ i hi=>?_) b
    by_cases hj:i=(l+r) / 2
    .rw[hj];exact e2
    .exact o.tr (h.lt 'o') (h.lt 'o') (h.lt hk) (u i _ 'o' 'o') e2
theorem Bf{k d:Nat}(hk:k < p.size)(hd:d<=k)(i:Nat):(PyProof.Rows.bubble p k d).getD i 0=if i=k - d then p.getD k 0 else if k - d < i/\i<=k then p.getD (i - 1) 0 else p.getD i 0:=by
 erw[QO,PyProof.Rows.getElem?_bubble hk d hd i];split
 .rfl
 .split<;>rfl
theorem Ii(o:Ord n lt):∀(f:Nat) (p:Array Nat) (k:Nat),Pm n p->k+f=n->Up lt p k->∃q,eZ n lt (kas_bin f p k)=some q/\Pm n q/\Up lt q n:=by
 intro f
 induction f with
 | zero=>
  intro p k h hk u;obtain rfl:k=n:=by omega
  exact⟨p,rfl,h,u⟩
 | succ f ih=>
  intro p k h hk u;let⟨l,a,b,c,d⟩:=Be o h (by omega:k < n) u k 0 k 'o' 'o' 'o' (λ i hi=>by omega) (λ i h1 h2=>by omega);rw[kas_bin.eq_2,gp,a];have hs:=h.size;refine ih (PyProof.Rows.bubble p k (k - l)) (k+1) (h.of (PyProof.Rows.bubble_perm _ _ _)) 'o' λ i j hij hj=>?_;rw[Bf 'o' 'o',Bf 'o' 'o',show k - (k - l)=l by omega]
  by_cases hi:i=l
  .rw[Qs hi,Qz 'o',Qs 'o'];exact d _ 'o' 'o'
  .rw[Qz hi]
   by_cases hil:l < i/\i<=k
   .rw[Qs hil,Qz 'o',Qs 'o'];exact u _ _ 'o' 'o'
   .rw[Qz hil]
    by_cases hj2:j=l
    .rw[Qs hj2];exact c i 'o'
    .rw[Qz hj2]
     by_cases hjl:l < j/\j<=k
     .rw[Qs hjl];exact u _ _ 'o' 'o'
     .rw[Qz hjl];exact u _ _ hij 'o'
theorem wH(o:Ord n lt)(h2:2<=n):∃q,eZ n lt (kas_sort n)=some q/\Pm n q/\Up lt q n:=by
 let⟨m,q,a,b,c,d,u⟩:=Bd o (p:=(List.range n).toArray) (show Pm n _ from .refl _) h2;rw[kas_sort.eq_1,gp,a];show ∃q_1,eZ n lt (if m < n then kas_bin (n - max m 1) q (max m 1) else KasT.ret q)=_/\_;rw[show max m 1=m by omega]
 by_cases hm:m < n
 .rw[Qs hm];exact Ii o (n - m) q m b 'o' u
 .rw[Qz hm];obtain rfl:m=n:=by omega
  exact⟨q,rfl,b,u⟩
end
end My
end
section
namespace My
open PySem D List
variable{C:D.Cx}{P:List Nat}{T0:W}{b c d:List Int}{g i j n p s u:Nat}{m:Mem}{r:Race}{α:Type}{Z:D.Loc}
def lo1(a b c d:Int):Int:=if a=b then a else if c=d then c else 0
def lo:List Int->List Int->List Int->List Int->List Int
 | a::as,b::bs,c::cs,d::ds=>lo1 a b c d::lo as bs cs ds
 | _,_,_,_=>[]
theorem bM{k:Nat}{a:List Int}(h:a∈af (k+1)):∃x r,a=x::r/\(x=0\/x=1)/\r∈af k:=by
 let⟨h1,h2⟩:=aB.mp h
 match a,h1,h2 with
 | x::r,h1,h2=>exact⟨x,r,rfl,h2 x Qu,aB.mpr ⟨by simpa using h1,λ i hi=>h2 i (Qj _ hi)⟩⟩
theorem Bg{k:Nat}:∀{a b c d:List Int},a∈af k->b∈af k->c∈af k->d∈af k->((af k).filter λ x=>gW a b x&&gW c d x).head?=if qT a b c d=true then none else some (lo a b c d):=by
 induction k with
 | zero=>
  intro a b c d ha hb hc hd;erw[af,QY] at ha hb hc hd;subst ha hb hc hd;rfl
 | succ k ih=>
  intro a b c d ha hb hc hd;let⟨a,as,rfl,a0,ha⟩:=bM ha;let⟨b,bs,rfl,b0,hb⟩:=bM hb;let⟨c,cs,rfl,c0,hc⟩:=bM hc;let⟨d,ds,rfl,d0,hd⟩:=bM hd;have i:=ih ha hb hc hd;have h0:∀v:Int,(((af k).map (v::·)).filter λ x=>gW (a::as) (b::bs) x&&gW (c::cs) (d::ds) x).head?=if ((a != b||v==a)&&(c != d||v==c))=true then (((af k).filter λ x=>gW as bs x&&gW cs ds x).head?).map (v::·) else none:=λ v=>by
   rw[filter_map,head?_map];have:((λ x=>gW (a::as) (b::bs) x&&gW (c::cs) (d::ds) x)∘(v::·))=λ x=>((a != b||v==a)&&(c != d||v==c))&&(gW as bs x&&gW cs ds x):=by
    funext x;erw[Function.comp,gW];cases (a != b||v==a)<;>cases (c != d||v==c)<;>cases gW as bs x<;>cases gW cs ds x<;>rfl
   rw[this];cases ((a != b||v==a)&&(c != d||v==c)) with
   | true=>erw[Bool.true_and,QL]
   | false=>erw[Bool.false_and,Qv,QK];rw[List.filter_eq_nil_iff.mpr (λ _ _ z=>by cases z)];rfl
  rw[af,filter_append,head?_append,h0 0,h0 1,i];erw[qT,lo]
  by_cases hq:qT as bs cs ds=true
  .simp[hq]
  .erw[hq,Bool.or_false,Option.map_some,Qv,QK];rcases a0 with rfl | rfl<;>rcases b0 with rfl | rfl<;>rcases c0 with rfl | rfl<;>rcases d0 with rfl | rfl<;>rfl
theorem DT{k:Nat}{a:List Int}(ha:a∈af k)(hb:b∈af k)(hc:c∈af k)(hd:d∈af k):(cm a b c d).take 1=if qT a b c d=true then [] else [lo a b c d]:=by
 rw[E4 (aB.mp ha).1 (aB.mp hc).1,take_one,Bg ha hb hc hd];split<;>rfl
theorem Ij{k:Nat}:∀{a b c d:List Int},a∈af k->b∈af k->c∈af k->d∈af k->lo a b c d∈af k:=by
 induction k with
 | zero=>
  intro a b c d ha hb hc hd;erw[af,QY] at ha hb hc hd ⊢;subst ha hb hc hd;rfl
 | succ k ih=>
  intro a b c d ha hb hc hd;let⟨a,as,rfl,a0,ha⟩:=bM ha;let⟨b,bs,rfl,b0,hb⟩:=bM hb;let⟨c,cs,rfl,c0,hc⟩:=bM hc;let⟨d,ds,rfl,d0,hd⟩:=bM hd;have i:=aB.mp (ih ha hb hc hd);have:lo1 a b c d=0\/lo1 a b c d=1:=by
   unfold lo1;split
   .exact a0
   .split
    .exact c0
    .exact .inl rfl
  exact aB.mpr ⟨by simp[lo,i.1],λ x hx=>(Qp.mp hx).elim (λ e=>e▸this) (i.2 x)⟩
theorem Bh{k:Nat}:∀{a b c d:List Int},a∈af k->b∈af k->c∈af k->d∈af k->qT c d a b=qT a b c d/\(qT a b c d=false->lo c d a b=lo a b c d):=by
 induction k with
 | zero=>
  intro a b c d ha hb hc hd;erw[af,QY] at ha hb hc hd;subst ha hb hc hd;exact⟨rfl,λ _=>rfl⟩
 | succ k ih=>
  intro a b c d ha hb hc hd;let⟨a,as,rfl,a0,ha⟩:=bM ha;let⟨b,bs,rfl,b0,hb⟩:=bM hb;let⟨c,cs,rfl,c0,hc⟩:=bM hc;let⟨d,ds,rfl,d0,hd⟩:=bM hd;let⟨i,j⟩:=ih ha hb hc hd;erw[qT,lo,i];constructor
  .congr 1;rcases a0 with rfl | rfl<;>rcases b0 with rfl | rfl<;>rcases c0 with rfl | rfl<;>rcases d0 with rfl | rfl<;>rfl
  .intro h;let⟨h1,h2⟩:=Bool.or_eq_false_iff.mp h;rw[j h2];congr 1;revert h1;rcases a0 with rfl | rfl<;>rcases b0 with rfl | rfl<;>rcases c0 with rfl | rfl<;>rcases d0 with rfl | rfl<;>decide
def jW(a b c d:List Int)(j:Nat):Bool:=a.getD j 0==b.getD j 0&&(c.getD j 0==d.getD j 0&&a.getD j 0 != c.getD j 0)
theorem lO:∀{k:Nat} {a b c d:List Int},a.length=k->b.length=k->c.length=k->d.length=k->(List.range k).any (jW a b c d)=qT a b c d:=by
 intro k
 induction k with
 | zero=>intro a b c d ha hb hc hd;match a,b,c,d,ha,hb,hc,hd with | [],[],[],[],_,_,_,_=>rfl
 | succ k ih=>
  intro a b c d ha hb hc hd
  match a,b,c,d,ha,hb,hc,hd with
  | a::as,b::bs,c::cs,d::ds,ha,hb,hc,hd=>
   rw[range_succ_eq_map,any_cons,any_map];have:=ih (a:=as) (b:=bs) (c:=cs) (d:=ds) (by simpa using ha) (by simpa using hb) (by simpa using hc) (by simpa using hd);rw[qT,<-this];congr 1
   .simp[jW,Bool.and_assoc]
theorem Ld:∀{k:Nat} {a b c d:List Int},a.length=k->b.length=k->c.length=k->d.length=k->∀j < k,(lo a b c d).getD j 0=lo1 (a.getD j 0) (b.getD j 0) (c.getD j 0) (d.getD j 0):=by
 intro k
 induction k with
 | zero=>intro a b c d _ _ _ _ j hj;omega
 | succ k ih=>
  intro a b c d ha hb hc hd j hj
  match a,b,c,d,ha,hb,hc,hd with
  | a::as,b::bs,c::cs,d::ds,ha,hb,hc,hd=>
   cases j with
   | zero=>rfl
   | succ j=>exact ih (a:=as) (b:=bs) (c:=cs) (d:=ds) (by simpa using ha) (by simpa using hb) (by simpa using hc) (by simpa using hd) j 'o'
theorem Ik:∀{k:Nat} {a b c d:List Int} {x y z w:Int},a.length=k->b.length=k->c.length=k->d.length=k->lo (a++[x]) (b++[y]) (c++[z]) (d++[w])=lo a b c d++[lo1 x y z w]:=by
 intro k
 induction k with
 | zero=>intro a b c d x y z w ha hb hc hd;match a,b,c,d,ha,hb,hc,hd with | [],[],[],[],_,_,_,_=>rfl
 | succ k ih=>
  intro a b c d x y z w ha hb hc hd
  match a,b,c,d,ha,hb,hc,hd with
  | a::as,b::bs,c::cs,d::ds,ha,hb,hc,hd=>
   show lo1 a b c d::lo (as++[x]) (bs++[y]) (cs++[z]) (ds++[w])=_;rw[ih (by simpa using ha) (by simpa using hb) (by simpa using hc) (by simpa using hd)];rfl
def pr(N:List (List Int))(s t u v:Nat):Bool:=qT (N.getD s []) (N.getD t []) (N.getD u []) (N.getD v [])
def lw(N:List (List Int))(s t u v:Nat):List Int:=lo (N.getD s []) (N.getD t []) (N.getD u []) (N.getD v [])
theorem aA.gd{k:Nat}{N:List (List Int)}(h:aA k N)(hs:s < N.length):N.getD s []∈af k:=by rw[gD hs];exact h.at_ hs
theorem pC{k:Nat}{R N:List (List Int)}(h:aA k N){x:Nat}(hs:s < N.length)(hu:u < N.length)(ht:bP R s x < N.length)(hv:bP R u x < N.length) :
  rF R N x s u=if bP R s x=bP R u x\/pr N s (bP R s x) u (bP R u x)=true then [] else [(x,s,u,lw N s (bP R s x) u (bP R u x))]:=by
 unfold rF;rw[DT (h.gd hs) (h.gd ht) (h.gd hu) (h.gd hv)]
 by_cases e:bP R s x=bP R u x
 .rw[Qs e,Qs (.inl e)]
 .rw[Qz e]
  by_cases q:pr N s (bP R s x) u (bP R u x)=true
  .rw[Qs (show qT _ _ _ _=true from q),Qs (.inr q)];rfl
  .rw[Qz (show ¬qT _ _ _ _=true from q),Qz (λ z=>z.elim e q)];rfl
theorem uY{k:Nat}{a:List Int}(h:a∈af k)(hj:j < k):a.getD j 0=0\/a.getD j 0=1:=by
 let⟨h1,h2⟩:=aB.mp h;rw[RD,QG 'o'];exact h2 _ (QI _)
theorem bu{l:List α}{d:α}(h:j < l.length):l.getD j d=l[j]:=by
 rw[RD,QG h];rfl
theorem Bj{k:Nat}{a:List Int}(ha:a.length=k)(hb:b.length=k)(h:∀j < k,a.getD j 0=b.getD j 0):a=b:=by
 refine ext_getElem 'o' λ j h1 h2=>?_;have:=h j 'o'
 rwa [bu h1,bu h2] at this
def mv(P:List Nat)(t:List Int)(a:List Int):List Int:=P.map λ p=>(a.getD p 0+t.getD p 0)%2
section
variable{k:Nat}{P:List Nat}{t:List Int}
theorem E5{a:List Int}(hj:j < P.length):(mv P t a).getD j 0=(a.getD P[j] 0+t.getD P[j] 0)%2:=by
 rw[bu (by simpa[mv] using hj)];erw[mv,QD]
theorem DU(hP:P.Perm (List.range k))(hj:j < P.length):P[j] < k:=Qo.mp (hP.mem_iff.mp (QI hj))
theorem d9(hP:P.Perm (List.range k)):P.length=k:=by have:=hP.length_eq;simpa using this
theorem E6(hP:P.Perm (List.range k))(hp:p < k):∃(j:Nat) (h:j < P.length),P[j]=p:=Rz (hP.mem_iff.mpr (Qo.mpr hp))
theorem kH(hP:P.Perm (List.range k)){a:List Int}:mv P t a∈af k:=by
 refine aB.mpr ⟨by rw[mv,Qi,d9 hP],λ i hi=>?_⟩;let⟨p,_,rfl⟩:=Qf.mp hi;omega
theorem tG(hP:P.Perm (List.range k)){a:List Int}(ha:a∈af k)(hb:b∈af k)(hj:j < P.length):(mv P t a).getD j 0=(mv P t b).getD j 0↔a.getD P[j] 0=b.getD P[j] 0:=by
 rw[E5 hj,E5 hj];have h1:=uY ha (DU hP hj);have h2:=uY hb (DU hP hj);omega
theorem Il(hP:P.Perm (List.range k)){a:List Int}(ha:a∈af k)(hb:b∈af k)(e:mv P t a=mv P t b):a=b:=by
 refine Bj (aB.mp ha).1 (aB.mp hb).1 λ p hp=>?_;let⟨j,hj,rfl⟩:=E6 hP hp;exact(tG (t:=t) hP ha hb hj).mp (by rw[e])
theorem Im(hP:P.Perm (List.range k)){a:List Int}(ha:a∈af k)(hb:b∈af k)(hc:c∈af k)(hd:d∈af k):qT (mv P t a) (mv P t b) (mv P t c) (mv P t d)=qT a b c d:=by
 have l:∀{a:List Int},a∈af k->a.length=k:=λ h=>(aB.mp h).1;rw[<-lO (l (kH hP)) (l (kH hP)) (l (kH hP)) (l (kH hP)),<-lO (l ha) (l hb) (l hc) (l hd),Bool.eq_iff_iff,any_eq_true,any_eq_true];have hL:=d9 hP;have key:∀(j:Nat) (hj:j < P.length),jW (mv P t a) (mv P t b) (mv P t c) (mv P t d) j=jW a b c d P[j]:=λ j hj=>by
  have e1:=tG (t:=t) hP ha hb hj;have e2:=tG (t:=t) hP hc hd hj;have e3:=tG (t:=t) hP ha hc hj;rw[Bool.eq_iff_iff];erw[jW,Qn,Ro,bne_iff_ne,ne_eq,e1,e2,e3]
 constructor
 .rintro⟨j,hj,q⟩;have hj:=Qo.mp hj;exact⟨P[j],Qo.mpr (DU hP 'o'),by rw[<-key j 'o'];exact q⟩
 .rintro⟨p,hp,q⟩;let⟨j,hj,rfl⟩:=E6 hP (Qo.mp hp);exact⟨j,Qo.mpr 'o',by rw[key j hj];exact q⟩
theorem Le:P=(List.range P.length).map λ j=>P.getD j 0:=by
 refine ext_getElem 's' λ j h1 h2=>?_;rw[QD,getElem_range,bu h1]
theorem wI{a:List Int}:(stp a b).length=1+(List.range a.length).countP λ j=>decide (a.getD j 0≠b.getD j 0):=by
 rw[stp,QB,Nat.add_comm];congr 1;generalize List.range a.length=l
 induction l with
 | nil=>rfl
 | cons i r ih=>
  by_cases e:a.getD i 0=b.getD i 0
  .rw[filterMap_cons_none (by rw[Qs e]),ih,countP_cons_of_neg (by simpa using e)]
  .rw[filterMap_cons_some (b:=b.take (i+1)++a.drop (i+1)) (by rw[Qz e]),QB,ih,countP_cons_of_pos (by simpa using e)]
theorem Bk(hP:P.Perm (List.range k)){a:List Int}(ha:a∈af k)(hb:b∈af k):(stp (mv P t a) (mv P t b)).length=(stp a b).length:=by
 rw[wI,wI,(aB.mp (kH (t:=t) (a:=a) hP)).1,(aB.mp ha).1,<-hP.countP_eq (λ j=>decide (a.getD j 0≠b.getD j 0))];congr 1
 conv=>rhs;rw[Le (P:=P)]
 rw[countP_map,d9 hP];refine countP_congr λ j hj=>?_;have hj:j < P.length:=by rw[d9 hP];exact Qo.mp hj
 have e:=tG (t:=t) hP ha hb hj;erw[Function.comp,Q7,ne_eq,e,bu hj]
end
def tw(at_:Nat)(a:List Int):List Int:=a++[a.getD at_ 0]
section
variable{k at_:Nat}(hat:at_ < k)
include hat
theorem nG{a:List Int}(ha:a∈af k):tw at_ a∈af (k+1):=by
 let⟨h1,h2⟩:=aB.mp ha;refine aB.mpr ⟨by simp[tw,h1],λ i hi=>?_⟩;rcases QW.mp hi with hi | hi
 .exact h2 i hi
 .rw[QY] at hi;rw[hi];exact uY ha hat
theorem Io{a:List Int}(ha:a∈af k)(hb:b∈af k)(hc:c∈af k)(hd:d∈af k):qT (tw at_ a) (tw at_ b) (tw at_ c) (tw at_ d)=qT a b c d:=by
 have l:∀{k:Nat} {a:List Int},a∈af k->a.length=k:=λ h=>(aB.mp h).1;rw[<-lO (l (nG hat ha)) (l (nG hat hb)) (l (nG hat hc)) (l (nG hat hd)),<-lO (l ha) (l hb) (l hc) (l hd),range_succ,any_append];have g:∀{a:List Int},a∈af k->∀j < k,(tw at_ a).getD j 0=a.getD j 0:=λ {a} ha j hj=>by
  have:=l ha;rw[tw,RD,Qw 'o',<-RD]
 have gk:∀{a:List Int},a∈af k->(tw at_ a).getD k 0=a.getD at_ 0:=λ {a} ha=>by
  have:=l ha;rw[tw,RD,QH 'o',this,Nat.sub_self];rfl
 have e1:(List.range k).any (jW (tw at_ a) (tw at_ b) (tw at_ c) (tw at_ d))=(List.range k).any (jW a b c d):=by
  rw[Bool.eq_iff_iff,any_eq_true,any_eq_true];have:∀j < k,jW (tw at_ a) (tw at_ b) (tw at_ c) (tw at_ d) j=jW a b c d j:=λ j hj=>by
   erw[jW,g ha j hj,g hb j hj,g hc j hj,g hd j hj]
  exact⟨λ ⟨j,hj,q⟩=>⟨j,hj,by rw[<-this j (Qo.mp hj)];exact q⟩,λ ⟨j,hj,q⟩=>⟨j,hj,by rw[this j (Qo.mp hj)];exact q⟩⟩
 have e2:[k].any (jW (tw at_ a) (tw at_ b) (tw at_ c) (tw at_ d))=jW a b c d at_:=by
  erw[any_cons,any_nil,Bool.or_false,jW,gk ha,gk hb,gk hc,gk hd]
 rw[e1,e2];cases h:(List.range k).any (jW a b c d) with
 | true=>rfl
 | false=>
  have:=List.any_eq_false.mp h at_ (Qo.mpr hat);simpa using this
theorem Lf{a:List Int}(ha:a∈af k)(hb:b∈af k)(hc:c∈af k)(hd:d∈af k):lo (tw at_ a) (tw at_ b) (tw at_ c) (tw at_ d)=tw at_ (lo a b c d):=by
 have l:∀{k:Nat} {a:List Int},a∈af k->a.length=k:=λ h=>(aB.mp h).1;rw[tw,tw,tw,tw,Ik (l ha) (l hb) (l hc) (l hd),tw,Ld (l ha) (l hb) (l hc) (l hd) at_ hat]
end
theorem f9{N:List (List Int)}{f:List Int->List Int}(hs:s < N.length):(N.map f).getD s []=f (N.getD s []):=by
 rw[bu (by simpa using hs),bu hs,QD]
theorem aA.map{k k':Nat}{N:List (List Int)}(h:aA k N){f:List Int->List Int}(h1:1<=k')(h4:k'<=4)(hf:∀a∈af k,f a∈af k')(hi:∀a∈af k,∀b∈af k,f a=f b->a=b):aA k' (N.map f):=by
 refine⟨h1,h4,λ a ha=>?_,?_,by rw[Qi];exact h.len⟩
 .let⟨b,hb,rfl⟩:=Qf.mp ha;exact hf b (h.mem b hb)
 .rw[nodup_iff_pairwise_ne,pairwise_map];refine List.Pairwise.imp_of_mem (λ {a b} ha hb hab e=>hab (hi a (h.mem a ha) b (h.mem b hb) e)) (Rj.mp h.nd)
def kl(a b:Race):Prop:=a.1 < b.1\/a.1=b.1/\(a.2.1 < b.2.1\/a.2.1=b.2.1/\a.2.2.1 < b.2.2.1)
theorem E7{a b c:Race}(h1:kl a b)(h2:kl b c):kl a c:=by
 rcases h1 with h1 | ⟨e1,h1⟩
 .rcases h2 with h2 | ⟨e2,_⟩
  .exact .inl (Nat.lt_trans h1 h2)
  .exact .inl (e2▸h1)
 .rcases h2 with h2 | ⟨e2,h2⟩
  .exact .inl (e1▸h2)
  .refine .inr ⟨e1.trans e2,?_⟩;rcases h1 with h1 | ⟨e3,h1⟩
   .rcases h2 with h2 | ⟨e4,_⟩
    .exact .inl (Nat.lt_trans h1 h2)
    .exact .inl (e4▸h1)
   .rcases h2 with h2 | ⟨e4,h2⟩
    .exact .inl (e3▸h2)
    .exact .inr ⟨e3.trans e4,Nat.lt_trans h1 h2⟩
theorem Bl{a:Race}(h:kl a a):False:=by unfold kl at h;omega
def kI(r:Race):List Int:=[(r.1:Int),r.2.1,r.2.2.1]
theorem qL{a b:Race}:HT.lexLt (kI a) (kI b)=true↔kl a b:=by
 have h:∀(x y:Nat) (r s:List Int),HT.lexLt ((x:Int)::r) ((y:Int)::s)=true↔x < y\/x=y/\HT.lexLt r s=true:=λ x y r s=>by
  rw[HT.gq]
  by_cases e:(x:Int)=y
  .rw[Qs e];have:x=y:=by omega
   constructor
   .exact λ h=>.inr ⟨this,h⟩
   .rintro (h | h)
    .omega
    .exact h.2
  .rw[Qz e];have:¬x=y:=by omega
   erw[Q7];constructor
   .exact λ h=>.inl 'o'
   .rintro (h | h)
    .omega
    .exact absurd h.1 this
 unfold kI kl;rw[h,h,h];have:HT.lexLt ([]:List Int) []=false:=rfl;rw[this];simp
theorem uniq:∀{a b:List Race},a.Pairwise kl->b.Pairwise kl->(∀x,x∈a↔x∈b)->a=b:=by
 intro a
 induction a with
 | nil=>
  intro b _ _ h;cases b with
  | nil=>rfl
  | cons y s=>exact absurd ((h y).mpr Qu) 's'
 | cons x r ih=>
  intro b ha hb h;cases b with
  | nil=>exact absurd ((h x).mp Qu) 's'
  | cons y s=>
   let⟨a1,a2⟩:=List.pairwise_cons.mp ha;let⟨b1,b2⟩:=List.pairwise_cons.mp hb;have e:x=y:=by
    rcases Qp.mp ((h x).mp Qu) with e | e
    .exact e
    .rcases Qp.mp ((h y).mpr Qu) with e2 | e2
     .exact e2.symm
     .exact(Bl (E7 (b1 x e) (a1 y e2))).elim
   subst e;rw[ih a2 b2 λ z=>⟨λ hz=>?_,λ hz=>?_⟩]
   .rcases Qp.mp ((h z).mp (Qj _ hz)) with e | e
    .exact(Bl (e▸a1 z hz)).elim
    .exact e
   .rcases Qp.mp ((h z).mpr (Qj _ hz)) with e | e
    .exact(Bl (e▸b1 z hz)).elim
    .exact e
theorem gI{R N:List (List Int)}{k l:Nat}:r∈rcs R N k l↔r.1 < l/\r.2.1 < r.2.2.1/\r.2.2.1 < k/\r∈rF R N r.1 r.2.1 r.2.2.1:=by
 rw[jD,mem_flatMap];constructor
 .rintro⟨x,hx,h⟩;let⟨s,hs,h⟩:=QZ.mp h;let⟨j,hj,h⟩:=QZ.mp h;have hx:=Qo.mp hx;have hs:=Qo.mp hs;have hj:=Qo.mp hj;let⟨e1,e2,e3⟩:=jE h;exact⟨by omega,by omega,by omega,by rw[e1,e2,e3];exact h⟩
 .rintro⟨h1,h2,h3,h⟩;refine⟨r.1,Qo.mpr h1,QZ.mpr ⟨r.2.1,Qo.mpr 'o',QZ.mpr ⟨r.2.2.1 - (r.2.1+1),Qo.mpr 'o',?_⟩⟩⟩;rw[show r.2.1+1+(r.2.2.1 - (r.2.1+1))=r.2.2.1 by omega];exact h
theorem Bm{R N:List (List Int)}{x:Nat}:(rF R N x s u).length<=1:=by
 unfold rF;split
 .simp
 .rw[Qi,Ri];omega
theorem nH{k:Nat}:(List.range k).Pairwise (· < ·):=by
 induction k with
 | zero=>exact .nil
 | succ k ih=>
  rw[range_succ,pairwise_append];exact⟨ih,pairwise_singleton _ _,λ a ha b hb=>by have:=Qo.mp ha;rw[QY] at hb;omega⟩
theorem Bo{R N:List (List Int)}{k l:Nat}:(rcs R N k l).Pairwise kl:=by
 rw[jD,pairwise_flatMap];refine⟨λ x _=>?_,nH.imp λ {x y} hxy a ha b hb=>?_⟩
 .rw[qK,pairwise_flatMap];refine⟨λ s _=>?_,nH.imp λ {s t} hst a ha b hb=>?_⟩
  .rw[lD,pairwise_flatMap];refine⟨λ j _=>?_,nH.imp λ {i j} hij a ha b hb=>?_⟩
   .have:=Bm (R:=R) (N:=N) (x:=x) (s:=s) (u:=s+1+j)
    match rF R N x s (s+1+j),this with
    | [],_=>exact .nil
    | [_],_=>exact pairwise_singleton _ _
   .have h1:=jE ha;have h2:=jE hb;unfold kl;omega
  .let⟨i,_,ha⟩:=QZ.mp ha;let⟨j,_,hb⟩:=QZ.mp hb;have h1:=jE ha;have h2:=jE hb;unfold kl;omega
 .let⟨s,_,ha⟩:=QZ.mp ha;let⟨t,_,hb⟩:=QZ.mp hb;let⟨i,_,ha⟩:=QZ.mp ha;let⟨j,_,hb⟩:=QZ.mp hb;have h1:=jE ha;have h2:=jE hb;unfold kl;omega
theorem DV(r:Race):zC (tW r)=some (kI r):=rfl
theorem Bp{T:List Race}(h2:2<=T.length)(h64:T.length < 64)(hn:(T.map kI).Nodup):∃P7:List Race,rU (T.map tW) (T.map kI)=some (P7.map tW)/\P7.Pairwise kl/\∀r,r∈P7↔r∈T:=by
 have gk:∀i < T.length,∀d,(T.map kI).getD i d=kI (T.getD i (0,0,0,[])):=λ i hi d=>by
  rw[bu (by simpa using hi),bu hi,QD]
 have hp:=List.pairwise_iff_getElem.mp (Rj.mp hn);have hne:∀{i j:Nat},i < T.length->j < T.length->i≠j->kI (T.getD i (0,0,0,[]))≠kI (T.getD j (0,0,0,[])):=λ {i j} hi hj hij=>by
  rw[bu hi,bu hj];rcases Nat.lt_or_gt_of_ne hij with h | h
  .have:=hp i j (by simpa using hi) (by simpa using hj) h;simpa using this
  .have:=hp j i (by simpa using hj) (by simpa using hi) h;intro e;exact this (by simpa using e.symm)
 have o:Ord T.length λ i j=>HT.lexLt ((T.map kI).getD i []) ((T.map kI).getD j []):=by
  refine⟨λ {i j k} hi hj hk h1 h2=>?_,λ {i j} hi hj hij h=>?_⟩
  .erw[gk i hi,gk j hj,gk k hk,qL] at *;exact E7 h1 h2
  .erw[gk i hi,gk j hj] at *;have h':¬kl (T.getD i (0,0,0,[])) (T.getD j (0,0,0,[])):=λ z=>by rw[qL.mpr z] at h;cases h
   refine qL.mpr ?_;have:=hne hi hj hij;generalize T.getD i (0,0,0,[])=a at *;generalize T.getD j (0,0,0,[])=b at *;rcases Nat.lt_trichotomy a.1 b.1 with q | q | q
   .exact absurd (.inl q) h'
   .rcases Nat.lt_trichotomy a.2.1 b.2.1 with r | r | r
    .exact absurd (.inr ⟨q,.inl r⟩) h'
    .rcases Nat.lt_trichotomy a.2.2.1 b.2.2.1 with t | t | t
     .exact absurd (.inr ⟨q,.inr ⟨r,t⟩⟩) h'
     .exact absurd (by erw[kI,q,r,t]) this
     .exact .inr ⟨q.symm,.inr ⟨r.symm,t⟩⟩
    .exact .inr ⟨q.symm,.inl r⟩
   .exact .inl q
 let⟨q,e,pq,uq⟩:=wH o h2;have hs:=pq.size;refine⟨q.toList.map λ i=>T.getD i (0,0,0,[]),?_,?_,λ r=>?_⟩
 .unfold rU;rw[Qz (by rw[Qi];omega),Qs ⟨hn,by rw[Qi];exact h2,by rw[Qi];exact h64⟩,Qi,e];show (if q.size<=64 then _ else _)=_;rw[Qs 'o',Q8];congr 1;refine map_congr_left λ i hi=>?_;have hi:=Qo.mp (pq.mem_iff.mp hi);show (T.map tW).getD i .non=tW (T.getD i (0,0,0,[]));rw[bu (by simpa using hi),bu hi,QD]
 .rw[pairwise_map,pairwise_iff_getElem];intro i j hi hj hij;have hi':i < q.size:=by simpa using hi
  have hj':j < q.size:=by simpa using hj
  have:=uq i j hij 'o';have l1:=pq.lt (i:=i) 'o';have l2:=pq.lt (i:=j) 'o';erw[gk _ l1,gk _ l2,qL] at this;rw[QO,QO,Rn hi',Rn hj'] at this;simpa using this
 .rw[mem_map];constructor
  .rintro⟨i,hi,rfl⟩;have hi:=Qo.mp (pq.mem_iff.mp hi);rw[bu hi];exact QI hi
  .intro hr;let⟨i,hi,rfl⟩:=Rz hr;exact⟨i,pq.mem_iff.mpr (Qo.mpr hi),bu hi⟩
theorem Bq{T:List Race}(h64:T.length < 64)(hn:(T.map kI).Nodup):∃P7:List Race,kP (T.map tW)=some (P7.map tW)/\P7.Pairwise kl/\∀r,r∈P7↔r∈T:=by
 match T,h64,hn with
 | [],_,_=>exact⟨[],rfl,.nil,λ _=>.rfl⟩
 | [a],_,_=>exact⟨[a],rfl,pairwise_singleton _ _,λ _=>.rfl⟩
 | a::b::r,h64,hn=>
  have e3:dw zC ((a::b::r).map tW)=some ((a::b::r).map kI):=fU λ c _=>DV c;have:kP ((a::b::r).map tW)=rU ((a::b::r).map tW) ((a::b::r).map kI):=by
   unfold kP;have e1:cU ((a::b::r).map tW)=none:=rfl;have e2:dw gK ((a::b::r).map tW)=none:=rfl;rw[e1];simp only;rw[e2];simp only;rw[e3]
  rw[this];exact Bp 's' h64 hn
theorem Br{J:Type}{f:α->List J}{c:Nat}:∀{l:List α},(∀a∈l,(f a).length<=c)->(l.flatMap f).length<=c*l.length:=by
 intro l
 induction l with
 | nil=>intro _;simp
 | cons a r ih=>
  intro h;have h1:=h a Qu;have h2:=ih λ x hx=>h x (Qj _ hx);rw[RY,Q5,QB,Nat.mul_add,Nat.mul_one];omega
theorem Ip{R N:List (List Int)}{k l:Nat}(hk:k<=4)(hl:l<=4):(rcs R N k l).length < 64:=by
 have h1:∀x,(qK R N k x).length<=12:=λ x=>by
  have:=Br (f:=lD R N k x) (c:=3) (l:=List.range k) λ s hs=>by
   have hs:=Qo.mp hs;have:=Br (f:=λ j=>rF R N x s (s+1+j)) (c:=1) (l:=List.range (k - (s+1))) λ j _=>Bm;rw[Ry] at this;show ((List.range (k - (s+1))).flatMap _).length<=3;omega
  rw[Ry] at this;show ((List.range k).flatMap _).length<=12;omega
 have:=Br (f:=qK R N k) (c:=12) (l:=List.range l) λ x _=>h1 x;rw[Ry] at this;rw[jD];omega
def ix(O:List Nat)(g:Nat):Nat:=O.idxOf g
section
variable{n:Nat}{O:List Nat}(hO:O.Perm (List.range n))
include hO
theorem jq(hg:g < n):ix O g < n:=by
 have:=idxOf_lt_length_of_mem (hO.mem_iff.mpr (Qo.mpr hg));rw[d9 hO] at this;exact this
theorem jX(hg:g < n):O.getD (ix O g) 0=g:=by
 have h:=idxOf_lt_length_of_mem (hO.mem_iff.mpr (Qo.mpr hg));show O.getD (O.idxOf g) 0=g;rw[bu h];exact getElem_idxOf h
theorem gh(hi:i < n):O.getD i 0 < n:=by
 have hl:=d9 hO;rw[bu 'o'];exact DU hO 'o'
theorem E8(hi:i < n)(hj:j < n)(hij:i≠j):O.getD i 0≠O.getD j 0:=by
 have hl:=d9 hO;have hp:=List.pairwise_iff_getElem.mp (Rj.mp (hO.nodup_iff.mpr nodup_range));rw[bu 'o',bu 'o'];rcases Nat.lt_or_gt_of_ne hij with h | h
 .exact hp i j 'o' 'o' h
 .exact(hp j i 'o' 'o' h).symm
theorem pD(hi:i < n):ix O (O.getD i 0)=i:=by
 by_cases e:ix O (O.getD i 0)=i
 .exact e
 .exact absurd (jX hO (gh hO hi)) (E8 hO (jq hO (gh hO hi)) hi e)
theorem kW{h:Nat}(hg:g < n)(hh:h < n)(e:ix O g=ix O h):g=h:=by rw[<-jX hO hg,<-jX hO hh,e]
end
def mR(R:List (List Int))(O Lt:List Nat):List (List Int):=O.map λ s=>Lt.map λ x=>(ix O (bP R s x):Int)
def mN(N:List (List Int))(O:List Nat):List (List Int):=O.map λ s=>N.getD s []
section
variable{n l:Nat}{R N:List (List Int)}{O Lt:List Nat}(hO:O.Perm (List.range n))(hL:Lt.Perm (List.range l))(hg:∀s < n,∀x < l,bP R s x < n)
include hO hL
theorem Iq{x:Nat}(hi:i < n)(hx:x < l):bP (mR R O Lt) i x=ix O (bP R (O.getD i 0) (Lt.getD x 0)):=by
 have h1:=d9 hO;have h2:=d9 hL;unfold bP mR;rw[bu (l:=O.map _) (by rw[Qi];omega),QD,bu (l:=Lt.map _) (by rw[Qi];omega),QD,bu (l:=O) 'o',bu (l:=Lt) 'o'];rfl
omit hL in
theorem wJ(hi:i < n):(mN N O).getD i []=N.getD (O.getD i 0) []:=by
 have h1:=d9 hO;unfold mN;rw[bu (l:=O.map _) (by rw[Qi];omega),QD,bu (l:=O) 'o']
def Cc(R N:List (List Int))(x s u:Nat)(nm:List Int):Prop:=bP R s x≠bP R u x/\pr N s (bP R s x) u (bP R u x)=false/\nm=lw N s (bP R s x) u (bP R u x)
omit hO hL in
theorem kJ{k:Nat}(h:aA k N)(yx:N.length=n)(hg:∀s < n,∀x < l,bP R s x < n){x:Nat}{nm:List Int}(hs:s < n)(hu:u < n)(hx:x < l):(x,s,u,nm)∈rF R N x s u↔Cc R N x s u nm:=by
 rw[pC h 'o' 'o' (by rw[yx];exact hg s hs x hx) (by rw[yx];exact hg u hu x hx)];unfold Cc
 by_cases e:bP R s x=bP R u x
 .rw[Qs (.inl e)];simp[e]
 .by_cases q:pr N s (bP R s x) u (bP R u x)=true
  .rw[Qs (.inr q)];simp[q]
  .rw[Qz (λ z=>z.elim e q)];simp[e,q]
omit hO hL in
theorem wK{k:Nat}(h:aA k N)(yx:N.length=n)(hg:∀s < n,∀x < l,bP R s x < n){x:Nat}{nm:List Int}(hs:s < n)(hu:u < n)(hx:x < l)(c:Cc R N x s u nm):Cc R N x u s nm:=by
 let⟨c1,c2,c3⟩:=c;let⟨q1,q2⟩:=Bh (h.gd (by omega:s < N.length)) (h.gd (by rw[yx];exact hg s hs x hx:bP R s x < N.length)) (h.gd (by omega:u < N.length)) (h.gd (by rw[yx];exact hg u hu x hx:bP R u x < N.length));exact⟨λ z=>c1 z.symm,by unfold pr at c2 ⊢;rw[q1];exact c2,by rw[c3];unfold lw;exact(q2 c2).symm⟩
include hg in
theorem Lh{x:Nat}{nm:List Int}(hi:i < n)(hj:j < n)(hx:x < l):Cc (mR R O Lt) (mN N O) x i j nm↔Cc R N (Lt.getD x 0) (O.getD i 0) (O.getD j 0) nm:=by
 have g1:=hg _ (gh hO hi) _ (gh hL hx);have g2:=hg _ (gh hO hj) _ (gh hL hx);unfold Cc pr lw;rw[Iq hO hL hi hx,Iq hO hL hj hx,wJ hO hi,wJ hO hj,wJ hO (jq hO g1),wJ hO (jq hO g2),jX hO g1,jX hO g2];constructor
 .rintro⟨a,b⟩;exact⟨λ z=>a (by rw[z]),b⟩
 .rintro⟨a,b⟩;exact⟨λ z=>a (kW hO g1 g2 z),b⟩
def lP(O Lt:List Nat)(r:Race):Race:=(ix Lt r.1,min (ix O r.2.1) (ix O r.2.2.1),max (ix O r.2.1) (ix O r.2.2.1),r.2.2.2)
theorem DW{r':Race}(a1:r.1 < l)(a2:r.2.1 < r.2.2.1)(a3:r.2.2.1 < n)(b1:r'.1 < l)(b2:r'.2.1 < r'.2.2.1)(b3:r'.2.2.1 < n)(e:kI (lP O Lt r)=kI (lP O Lt r')):kI r=kI r':=by
 erw[kI,lP,List.cons.injEq,and_true] at e ⊢;let⟨e1,e2,e3⟩:=e;have q1:r.1=r'.1:=kW hL a1 b1 'o';have e2:min (ix O r.2.1) (ix O r.2.2.1)=min (ix O r'.2.1) (ix O r'.2.2.1):=Int.ofNat.inj e2;have e3:max (ix O r.2.1) (ix O r.2.2.1)=max (ix O r'.2.1) (ix O r'.2.2.1):=Int.ofNat.inj e3;have l1:=Nat.lt_trans a2 a3;have l2:=Nat.lt_trans b2 b3;have fin:ix O r.2.1=ix O r'.2.1->ix O r.2.2.1=ix O r'.2.2.1->r.2.1=r'.2.1/\r.2.2.1=r'.2.2.1:=λ x y=>⟨kW hO l1 l2 x,kW hO a3 b3 y⟩;have bad:ix O r.2.1=ix O r'.2.2.1->ix O r.2.2.1=ix O r'.2.1->r.2.1=r'.2.1/\r.2.2.1=r'.2.2.1:=λ x y=>by
  have x:=kW hO l1 b3 x;have y:=kW hO a3 l2 y;rw[x,y] at a2;exact absurd a2 (Nat.lt_asymm b2)
 have z:r.2.1=r'.2.1/\r.2.2.1=r'.2.2.1:=by
  rcases Nat.le_total (ix O r.2.1) (ix O r.2.2.1) with h | h<;>rcases Nat.le_total (ix O r'.2.1) (ix O r'.2.2.1) with h' | h'
  .rw[Nat.min_eq_left h,Nat.min_eq_left h'] at e2;rw[Nat.max_eq_right h,Nat.max_eq_right h'] at e3;exact fin e2 e3
  .rw[Nat.min_eq_left h,Nat.min_eq_right h'] at e2;rw[Nat.max_eq_right h,Nat.max_eq_left h'] at e3;exact bad e2 e3
  .rw[Nat.min_eq_right h,Nat.min_eq_left h'] at e2;rw[Nat.max_eq_left h,Nat.max_eq_right h'] at e3;exact bad e3 e2
  .rw[Nat.min_eq_right h,Nat.min_eq_right h'] at e2;rw[Nat.max_eq_left h,Nat.max_eq_left h'] at e3;exact fin e3 e2
 rw[q1,z.1,z.2];exact⟨rfl,rfl,rfl⟩
theorem Ir:(((rcs R N n l).map (lP O Lt)).map kI).Nodup:=by
 rw[Q8,nodup_iff_pairwise_ne,pairwise_map];refine List.Pairwise.imp_of_mem (λ {a b} ha hb hab e=>?_) (Bo (R:=R) (N:=N) (k:=n) (l:=l));let⟨a1,a2,a3,_⟩:=gI.mp ha;let⟨b1,b2,b3,_⟩:=gI.mp hb;have:=DW hO hL a1 a2 a3 b1 b2 b3 e;erw[kI,List.cons.injEq,and_true] at this;unfold kl at hab;omega
include hg in
theorem DX{k:Nat}(h:aA k N)(yx:N.length=n)(h':aA k (mN N O))(r:Race):r∈rcs (mR R O Lt) (mN N O) n l↔r∈(rcs R N n l).map (lP O Lt):=by
 have PJ:=d9 hO;have hl':(mN N O).length=n:=by rw[mN,Qi,PJ]
 have hg':∀s < n,∀x < l,bP (mR R O Lt) s x < n:=λ s hs x hx=>by rw[Iq hO hL hs hx];exact jq hO (hg _ (gh hO hs) _ (gh hL hx))
 let⟨x,i,j,nm⟩:=r;rw[gI,mem_map];constructor
 .rintro⟨h1,h2,h3,h4⟩;simp only at h1 h2 h3 h4;have c:=(Lh hO hL hg 'o' h3 h1).mp ((kJ h' hl' hg' 'o' h3 h1).mp h4);have li:=gh hO (by omega:i < n);have lj:=gh hO h3;have lx:=gh hL h1;have ne:=E8 hO (by omega:i < n) h3 'o'
  by_cases hlt:O.getD i 0 < O.getD j 0
  .refine⟨(Lt.getD x 0,O.getD i 0,O.getD j 0,nm),gI.mpr ⟨lx,hlt,lj,(kJ h yx hg li lj lx).mpr c⟩,?_⟩;erw[lP,pD hO (by omega:i < n),pD hO h3,pD hL h1];rw[show min i j=i by omega,show max i j=j by omega]
  .refine⟨(Lt.getD x 0,O.getD j 0,O.getD i 0,nm),gI.mpr ⟨lx,by simp only;omega,li,(kJ h yx hg lj li lx).mpr (wK h yx hg li lj lx c)⟩,?_⟩;erw[lP,pD hO (by omega:i < n),pD hO h3,pD hL h1];rw[show min j i=i by omega,show max j i=j by omega]
 .rintro⟨⟨y,s,u,nm'⟩,hr,e⟩;let⟨h1,h2,h3,h4⟩:=gI.mp hr;simp only at h1 h2 h3 h4;erw[lP,Prod.mk.injEq] at e;let⟨rfl,rfl,rfl,rfl⟩:=e;have hs:s < n:=by omega
  have c:=(kJ h yx hg hs h3 h1).mp h4;have ls:=jq hO hs;have lu:=jq hO h3;have ly:=jq hL h1;have ne:ix O s≠ix O u:=λ z=>by have:=kW hO hs h3 z;omega
  have c':Cc (mR R O Lt) (mN N O) (ix Lt y) (ix O s) (ix O u) nm':=(Lh hO hL hg ls lu ly).mpr (by rw[jX hO hs,jX hO h3,jX hL h1];exact c)
  by_cases hlt:ix O s < ix O u
  .rw[show min (ix O s) (ix O u)=ix O s by omega,show max (ix O s) (ix O u)=ix O u by omega];exact⟨ly,hlt,lu,(kJ h' hl' hg' ls lu ly).mpr c'⟩
  .rw[show min (ix O s) (ix O u)=ix O u by omega,show max (ix O s) (ix O u)=ix O s by omega];exact⟨ly,by simp only;omega,ls,(kJ h' hl' hg' lu ls ly).mpr (wK h' hl' hg' ls lu ly c')⟩
include hg in
theorem uZ{k:Nat}(h:aA k N)(yx:N.length=n)(h':aA k (mN N O))(hlen:(rcs R N n l).length < 64):kP (((rcs R N n l).map (lP O Lt)).map tW)=some ((rcs (mR R O Lt) (mN N O) n l).map tW):=by
 let⟨P7,e,z1,z2⟩:=Bq (T:=(rcs R N n l).map (lP O Lt)) (by rw[Qi];exact hlen) (Ir hO hL);rw[e,uniq z1 Bo λ r=>(z2 r).trans (DX hO hL hg h yx h' r).symm]
end
abbrev iN(x:Nat):W:=.int (x:Int)
abbrev dm(P:List Nat):W:=.fz (P.map iN)
theorem wL(P:List Nat):aj (P.map iN)=true:=kR (λ _=>rfl) P
structure Li(p q L k:Nat)(M:Mem)(ns rest:List Nat):Prop where
 gg:iH M p
 cm:Cm M
 len:M.length=L
 at_:M[q]?=@(.lst (rest.map iN))
 perm:(ns++rest).Perm (List.range k)
theorem Li.step{q L k:Nat}{M:Mem}{ns rest:List Nat}(h:Li p q L k M ns rest)(hpq:p≠q)(hr:0 < rest.length)(hl:rest.length<=16)(h0:Z[0]?=@(some (.ref p)))(h3:Z[2]?=@(some (.ref q))) :
  ∃a rest' M2,ao (Cn pg (n+1)) (.meth @2 "pop" %[|.call 26 %[@0,|.blt .len %[|@2]]]) Z M=.ok (iN a) M2/\Li p q L k M2 (ns++[a]) rest'/\rest'.length+1=rest.length:=by
 let⟨d,m1,hd,s,d1⟩:=draw (n:=n) (many:=rest.length) h.gg 'o' 'o';have hq1:m1[q]?=some (.lst (rest.map iN)):=(s.ne hpq).trans h.at_;have NU:q < m1.length:=(Qd.mp hq1).1;have hdl:d < rest.length:=by omega
 have hk:kdOf M (.ref q)=p8 "pop":=by erw[kdOf,h.at_];rfl
 have HY:bJ (.ref q) "pop" [.int d] m1=.ok (iN rest[d]) (m1.set q (.lst ((rest.eraseIdx d).map iN))):=by
  have hb:-(2^63)<=(d:Int)/\(d:Int) < 2^63:=by omega
  have hs:seqIndex? (d:Int) (rest.map iN).length=some d:=by
   unfold seqIndex?;erw[Qi];rw[Qz (by omega:¬(d:Int) < 0)];simp;omega
  have hg:(rest.map iN)[d]?=some (iN rest[d]):=by simp[hdl]
  have hop:oQ q (rest.map iN) [.int d] m1=.ok (iN rest[d]) (m1.set q (.lst ((rest.eraseIdx d).map iN))):=by
   erw[oQ];rw[Qs hb];erw[hs,hg,jV]
  erw[bJ,hq1,iM];rw[Qz 'd',Qz 'd',Qz 'd',Qs trivial];exact hop
 let⟨A,B,hA⟩:=s.gg h.gg;refine⟨rest[d],rest.eraseIdx d,m1.set q (.lst ((rest.eraseIdx d).map iN)),?_,⟨⟨A,B,?_⟩,(s.cm h.cm).set (cB _ (wL _)),by rw[length_set,s.len,h.len],QN NU,?_⟩,by rw[length_eraseIdx_of_lt hdl];omega⟩
 .erw[EVs,h0,h3,hk,QL,aZ,aM,getL,h.at_,Qi,hd,HY]
 .rw[QT hpq.symm];exact hA
 .refine List.Perm.trans ?_ h.perm;rw[append_assoc];refine List.Perm.append_left ns ?_;exact nA hdl
theorem sequence{k:Nat}(hp:iH m p)(hm:Cm m)(h4:k<=16) :
  ∃(P:List Nat) (m':Mem),aC (D.runN pg (n+1+1) 36) [.ref p,.int k] m=.ok (dm P) m'/\P.Perm (List.range k)/\iH m' p/\Cm m':=by
 have hpl:=hp.lt;have hq:(m++[O.lst ((List.range k).map iN)])[m.length]?=some (.lst ((List.range k).map iN)):=by simp
 have hpq:p≠m.length:=by omega
 have n0:Li p m.length (m.length+1) k (m++[O.lst ((List.range k).map iN)]) [] (List.range k):=⟨hp.app,hm.push (cB _ (wL _)),by simp,hq,List.Perm.refl _⟩;have hI:cC (Cn pg (n+1)) (.rng @1) [@(.ref p),@(.int k),@(.ref m.length),none] (m++[O.lst ((List.range k).map iN)])=.ok (.rng 0 k) (m++[O.lst ((List.range k).map iN)]):=jQ (by erw[EWs]) 'o';let⟨ws,m2,e,⟨ns,rest,rfl,hr,hN⟩,hlen⟩:=qH (C:=Cn pg (n+1)) (i:=3) (js:=[3]) (it:=.rng @1) (e:=.meth @2 "pop" %[|.call 26 %[@0,|.blt .len %[|@2]]]) (Z:=[@(.ref p),@(.int k),@(.ref m.length),none]) (m:=m++[O.lst ((List.range k).map iN)]) (xs:=(List.range k).map λ t=>W.int (t:Nat))
  (λ j M' acc=>∃ns rest,acc=ns.map iN/\rest.length+j=k/\Li p m.length (m.length+1) k M' ns rest) hI (λ M j _=>iC k M j) (by simp[Src.len]) 'l' ⟨[],_,rfl,by simp,n0⟩ (λ j hj M' acc ⟨ns,rest,ha,hr,hN⟩ hac=>by
   have hj:j < k:=by simpa using hj
   let⟨a,rest',M2,e,hN2,hl⟩:=hN.step (n:=n) hpq 'o' 'o' (Z:=(br [3] [@(.ref p),@(.int k),@(.ref m.length),none]).set 3 (some ((List.range k).map λ t=>W.int (t:Nat))[j])) (by erw[br,dX,dY,dZ,d7]) (by erw[br,dX,dY,dZ,d7]);exact⟨iN a,M2,e,rfl,ns++[a],rest',by simp[ha],by omega,hN2⟩) (λ M' acc ⟨ns,rest,_,_,hN⟩=>⟨by rw[hN.len];simp,hN.cm⟩)
 have hr0:rest=[]:=by
  rw[Qi,Ry] at hr;exact List.length_eq_zero_iff.mp 'o'
 subst hr0;refine⟨ns,m2,?_,by simpa using hN.perm,hN.gg,hN.cm⟩;rw[bz rfl];refine aT (d:=⟨2,4,Mj⟩) rfl rfl ?_;show aL _ Mj [@(.ref p),@(.int k),none,none] m=_;have hc:(0:Int)<=k/\(k:Int)<=1000000:=by omega
 rw[Mj,ai (Z1:=[@(.ref p),@(.int k),@(.ref m.length),none]) (m1:=m++[O.lst ((List.range k).map iN)]) (aF (w:=.ref m.length) ?_ rfl),aQ (aR e)];erw[EWs];rw[Qs hc];rfl
section
variable{n k:Nat}{m:Mem}{P:List Nat}{t:List Int}
theorem DY:aZ .len [dm P] m=.ok (iN P.length) m:=by
 have:=bK (m:=m) (w:=dm P) (xs:=P.map iN) rfl;rw[Qi] at this;exact this
theorem u0{a:List Int}(h:j < a.length):aX (tupI a) (.int j) m=.ok (.int (a.getD j 0)) m:=by
 have:=fm (m:=m) (w:=tupI a) (xs:=a.map .int) (i:=j) rfl (by simpa using h);rw[QD] at this;rw[bu h];exact this
theorem Iu{a:List Int}(h:j < a.length):aX (bL a) (.int j) m=.ok (.int (a.getD j 0)) m:=by
 have:=fm (m:=m) (w:=bL a) (xs:=a.map .int) (i:=j) rfl (by simpa using h);rw[QD] at this;rw[bu h];exact this
theorem moved(hP:P.Perm (List.range k))(hk:k<=16){a:List Int}(ha:a.length=k)(ht:t.length=k):aC (D.runN pg (n+1) 37) [tupI a,dm P,bL t] m=.ok (tupI (mv P t a)) m:=by
 refine aG (m1:=[]) (by simp[aj,av,bI,wL]) ?_ (by simp[av,bI]);refine aT (d:=⟨3,4,Ml⟩) rfl rfl ?_;show aL _ Ml [@(tupI a),@(dm P),@(bL t),none] []=_;have:=f6 (C:=Cn pg n) (i:=3) (js:=[3]) (it:=.var 1) (e:=.bin .Mod (.bin .Add (.idx @0 @3) (.idx @2 @3)) @(2)) (Z:=[@(tupI a),@(dm P),@(bL t),none]) (m:=[]) (xs:=P.map iN) (s:=.tup (P.map iN))
  (g:=λ x=>match x with | .int p=>.int ((a.getD p.toNat 0+t.getD p.toNat 0)%2) | _=>.non) Cm.nil (by rw[cu,aN];rfl) (λ j=>rfl) rfl (λ x hx=>by
   let⟨p,hp,rfl⟩:=Qf.mp hx;have hp:p < k:=Qo.mp (hP.mem_iff.mp hp);erw[br,EWs,u0 (a:=a) (m:=[]) (by omega:p < a.length),Iu (a:=t) (m:=[]) (by omega:p < t.length),binop];rfl) (λ x hx=>by
   let⟨p,hp,rfl⟩:=Qf.mp hx;rfl) (by rw[Qi,d9 hP];erw[lim];omega)
 rw[Ml,aQ (aR (w:=tupI (mv P t a)) (m1:=[]) ?_)];rw[bC,aH,this];erw[aP,aY,aZ,aM,getL,tupI,Q8,mv];rfl
theorem Lj:mF (tW r) none (some 3) m=.ok (tupI (kI r)) m:=by
 erw[mF];simp[ux,HT.cZ,kI]
theorem Bs{T:List Race}(hT:T.length<=1000):aC (D.runN pg (n+1) 38) [aV T] m=.ok (aU (T.map kI)) m:=by
 refine aG (m1:=[]) (by simp[aj,av,eH]) ?_ (by erw[av];exact cP _);refine aT (d:=⟨1,2,Mm⟩) rfl rfl ?_;show aL _ Mm [@(aV T),none] []=_;have:=f6 (C:=Cn pg n) (i:=1) (js:=[1]) (it:=.var 0) (e:=.slc @1 .none (.some @(3))) (Z:=[@(aV T),none]) (m:=[]) (xs:=T.map tW) (s:=.tup (T.map tW))
  (g:=λ x=>match x with | .tup (a::b::c::_)=>.tup [a,b,c] | _=>.non) Cm.nil (by rw[cu,aN];rfl) (λ j=>rfl) rfl (λ x hx=>by
   let⟨r,hr,rfl⟩:=Qf.mp hx;erw[br,EWs,Lj];rfl) (λ x hx=>by
   let⟨r,hr,rfl⟩:=Qf.mp hx;rfl) (by rw[Qi];erw[lim];omega)
 rw[Mm,aQ (aR this),Q8];show D.R.ok (F.rt (W.fz _)) []=D.R.ok (F.rt (W.fz ((T.map kI).map tupI))) [];rw[Q8];rfl
variable{ks ss ls:List Str}{R L N:List (List Int)}
theorem wM(h:aA k N)(hl:N.length=ss.length){x:Nat}(hs:s < N.length)(hu:u < N.length)(hc:c∈af k) :
  aC (D.runN pg (n+1+1+1+1) 39) [tab ks ss ls R L,aU N,tW (x,s,u,c)] m=.ok (bL [((stp N[s] c).length:Int),(stp N[u] c).length]) m:=by
 refine aG (m1:=[]) (by rw[aj,cy];simp[aj,av,cP,bI]) ?_ rfl;refine aT (d:=⟨3,5,Mn⟩) rfl rfl ?_;show aL _ Mn [@(tab ks ss ls R L),@(aU N),@(tW (x,s,u,c)),none,none] []=_;have e1:=Ih (n:=n) (ks:=ks) (ls:=ls) (R:=R) (L:=L) (x:=x) (e0:=.var 0) (e1:=.var 1) (e2:=.var 2) (Z:=[@(tab ks ss ls R L),@(aU N),@(tW (x,s,u,c)),none,none]) h hl hs hu hc (by erw[EWs]);rw[Mn,ai (Z1:=[@(tab ks ss ls R L),@(aU N),@(tW (x,s,u,c)),@(aU (stp N[s] c)),@(aU (stp N[u] c))]) (m1:=[]) (by
  rw[fS,e1];simp[gU,eO,aE,D.R.bind,aM]),aQ (aR (w:=bL [((stp N[s] c).length:Int),(stp N[u] c).length]) (m1:=[]) ?_)]
 refine bG (m0:=[]) ?_ rfl Cm.nil rfl;erw[EWs,Ig];rfl
end
theorem N1{a:List Int}:aD .NotEq (bL a) (bL b) m=.ok (!decide (a=b)) m:=by
 have h:∀a:List Int,toD 60 m (bL a)=some (.list (a.map .int)):=λ a=>by
  rw[uQ,jc];rfl
 erw[aD,qP,h];rw[PyData.eqv.eq_def];erw[tB];rfl
def rD(r:Race):PyData:=.tuple [.int r.1,.int r.2.1,.int r.2.2.1,.tuple (r.2.2.2.map .int)]
theorem Iv{T:List Race}:qP m (aV T) (aV T)=.ok true m:=by
 have h1:toD 60 m (aV T)=some (.list (T.map rD)):=by
  rw[uQ,fU (h:=rD) λ r _=>?_]
  .rfl
  .rw[vS];erw[dw,gB];rfl
 have h2:∀T:List Race,PyData.eqvAll (T.map rD) (T.map rD)=true:=λ T=>by
  induction T with
  | nil=>simp[PyData.eqvAll]
  | cons r T ih=>
   have hr:PyData.eqv (rD r) (rD r)=true:=by
    rw[rD,PyData.eqv.eq_def];erw[PyData.eqvAll,qG,lJ];simp
   erw[QM,PyData.eqvAll,hr,ih];rfl
 erw[qP,h1];rw[PyData.eqv.eq_def];erw[h2]
theorem ne_T{T:List Race}:aD .NotEq (aV T) (aV T) m=.ok false m:=by
 erw[aD,Iv];rfl
theorem Iw{s1 s2:Src}{w1 w2:W}(h1:s1.get m j=.it w1)(h2:s2.get m j=.it w2):Src.get (.zip [s1,s2]) m j=.it (.tup [w1,w2]):=by
 erw[Src.get,Src.lB,h1,h2]
theorem Iz{s1 s2:Src}(h1:s1.get m j=.fin)(h2:s2.get m j=.fin):Src.get (.zip [s1,s2]) m j=.fin:=by
 erw[Src.get,Src.lB,h1,h2]
theorem wN{R N N':List (List Int)}{l:Nat}{f g:Race->α}(H:∀x < l,∀s u,s < u->u < n->(rF R N' x s u).map f=(rF R N x s u).map g):(rcs R N' n l).map f=(rcs R N n l).map g:=by
 rw[jD,jD,map_flatMap,map_flatMap];refine H9 λ x hx=>?_;rw[qK,qK,map_flatMap,map_flatMap];refine H9 λ s hs=>?_;rw[lD,lD,map_flatMap,map_flatMap];refine H9 λ j hj=>?_;have hx:=Qo.mp hx;have hs:=Qo.mp hs;have hj:=Qo.mp hj;exact H x hx s (s+1+j) 'o' 'o'
section
variable{n p k:Nat}{m:Mem}{ks ss ls:List Str}{R L N:List (List Int)}
theorem DZ(o:TabOk ks ss ls R L):∀s < ss.length,∀x < 2^ks.length,bP R s x < ss.length:=λ s hs x hx=>by
 let⟨_,_,_,h⟩:=kU o hs hx;exact h
theorem qM(o:TabOk ks ss ls R L)(h:aA k N)(hl:N.length=ss.length)(hm:Cm m){a b:E}(ha:ao (Cn pg (n+1+1+1+1)) a Z m=.ok (tab ks ss ls R L) m)(hb:ao (Cn pg (n+1+1+1+1)) b Z m=.ok (aU N) m) :
  ao (Cn pg (n+1+1+1+1)) (.frz (.call 20 %[a,|b])) Z m=.ok (aV (rcs R N ss.length (2^ks.length))) m:=by
 refine bG (m0:=m) ?_ rfl hm (eH _);rw[dH,aH,ha,aP,aH,hb,aP];erw[aY,aP,La o h hl]
theorem D0(o:TabOk ks ss ls R L)(h:aA k N)(hl:N.length=ss.length)(hm:Cm m){a b:E}(ha:ao (Cn pg (n+1+1+1)) a Z m=.ok (.fz (R.map bL)) m)(hb:ao (Cn pg (n+1+1+1)) b Z m=.ok (aU N) m) :
  ao (Cn pg (n+1+1+1)) (.frz (.call 35 %[a,|b])) Z m=.ok (aV (rcs R N ss.length (2^ks.length))) m:=by
 refine bG (m0:=m) ?_ rfl hm (eH _);rw[dH,aH,ha,aP,aH,hb,aP];erw[aY,aP,ym o h hl]
theorem u5(o:TabOk ks ss ls R L)(h:aA k N)(hl:N.length=ss.length)(hr:r∈rcs R N ss.length (2^ks.length)):r.2.1 < N.length/\r.2.2.1 < N.length/\r.2.2.2∈af k:=by
 let⟨h1,h2,h3,h4⟩:=gI.mp hr;have g1:=DZ o r.2.1 'o' r.1 h1;have g2:=DZ o r.2.2.1 h3 r.1 h1;refine⟨by omega,by omega,?_⟩;rw[pC h 'o' 'o' 'o' 'o'] at h4;split at h4
 .cases h4
 .rw[QY] at h4;rw[h4];exact Ij (h.gd 'o') (h.gd 'o') (h.gd 'o') (h.gd 'o')
theorem IA(o:TabOk ks ss ls R L)(h:aA k N)(hl:N.length=ss.length){t:List Int}(hP:P.Perm (List.range k))(h':aA k (N.map (mv P t))):(rcs R (N.map (mv P t)) ss.length (2^ks.length)).map kI=(rcs R N ss.length (2^ks.length)).map kI:=by
 refine wN λ x hx s u hsu hu=>?_;have g1:=DZ o s 'o' x hx;have g2:=DZ o u hu x hx;have l':(N.map (mv P t)).length=N.length:=by simp
 rw[pC h 'o' 'o' 'o' 'o',pC h' 'o' 'o' 'o' 'o'];have:pr (N.map (mv P t)) s (bP R s x) u (bP R u x)=pr N s (bP R s x) u (bP R u x):=by
  unfold pr;rw[f9 'o',f9 'o',f9 'o',f9 'o'];exact Im hP (h.gd 'o') (h.gd 'o') (h.gd 'o') (h.gd 'o')
 rw[this];split<;>rfl
abbrev jY(p:Nat)(T0:W)(R N:List (List Int))(T:List Race)(P:List Nat)(t:List Int)(N':List (List Int))(T':List Race)(o9 yo:Option W):D.Loc:=[@(.ref p),some T0,@(.fz (R.map bL)),@(aU N),@(aV T),@(dm P),@(bL t),@(aU N'),@(aV T'),o9,yo,none,none]
theorem OC:aX (tW r) (.int 3) m=.ok (tupI r.2.2.2) m:=by simp[aX,aM,L2.kZ,L2.nP]
theorem tH(h:aA k N)(hl:N.length=ss.length){t:List Int}(hP:P.Perm (List.range k))(ht:t.length=k)(h':aA k (N.map (mv P t))){T T':List Race}{x:Nat}{c':List Int}(hs:s < N.length)(hu:u < N.length)(hc:c∈af k)(hc':c'∈af k) :
  aL (Cn pg (n+1+1+1+1)) wc (jY p (tab ks ss ls R L) R N T P t (N.map (mv P t)) T' @(tW (x,s,u,c)) @(tW (x,s,u,c'))) m=.ok (.nx (jY p (tab ks ss ls R L) R N T P t (N.map (mv P t)) T' @(tW (x,s,u,c)) @(tW (x,s,u,c')))) m:=by
 have hk:=h.k4;have e1:=moved (n:=n+1+1+1) (m:=m) hP 'o' (aB.mp hc).1 ht;have hT1:bx (Cn pg (n+1+1+1+1)) (.cmp .Eq (.call 37 %[.idx @9 @(3),@5,|@6]) (.idx @10 @(3))) (jY p (tab ks ss ls R L) R N T P t (N.map (mv P t)) T' @(tW (x,s,u,c)) @(tW (x,s,u,c'))) m=.ok (decide (mv P t c=c')) m:=by
  rw[bH];erw[EWs,OC,e1];exact Ic
 rw[wc]
 by_cases e:mv P t c=c'
 .rw[Q2 e] at hT1;have hs':s < (N.map (mv P t)).length:=by simpa using hs
  have IP:u < (N.map (mv P t)).length:=by simpa using hu
  have l1:=wM (n:=n) (m:=m) (ks:=ks) (ss:=ss) (ls:=ls) (R:=R) (L:=L) (x:=x) h hl hs hu hc;have l2:=wM (n:=n) (m:=m) (ks:=ks) (ss:=ss) (ls:=ls) (R:=R) (L:=L) (x:=x) h' (by simpa using hl) hs' IP hc';have q1:(stp (N.map (mv P t))[s] c').length=(stp N[s] c).length:=by rw[QD,<-e];exact Bk hP (h.at_ hs) hc
  have q2:(stp (N.map (mv P t))[u] c').length=(stp N[u] c).length:=by rw[QD,<-e];exact Bk hP (h.at_ hu) hc
  rw[q1,q2] at l2;have hT2:bx (Cn pg (n+1+1+1+1)) (.cmp .NotEq (.call 39 %[@1,@3,|@9]) (.call 39 %[@1,@7,|@10])) (jY p (tab ks ss ls R L) R N T P t (N.map (mv P t)) T' @(tW (x,s,u,c)) @(tW (x,s,u,c'))) m=.ok false m:=by
   rw[bH];erw[EWs,l1,l2];rw[N1];simp
  rw[ai (by rw[sQ hT1,ai (by rw[gR hT2,ay]),ay]),ay]
 .rw[QE e] at hT1;rw[ai (by rw[gR hT1,ay]),ay]
theorem qN(o:TabOk ks ss ls R L)(h:aA k N)(hl:N.length=ss.length)(hp:iH m p)(hm:Cm m) :
  ∃m',aC (D.runN pg (n+1+1+1+1+1) 40) [.ref p,tab ks ss ls R L,.fz (R.map bL),aU N,aV (rcs R N ss.length (2^ks.length))] m=.ok (.bl true) m'/\iH m' p/\Cm m':=by
 have hk:=h.k4;have h0:0 < N.length:=by have:=o.s2;omega
 have qS:2^ks.length<=4:=iB o.k2;have e0:∀M,aX (aU N) (.int 0) M=.ok (tupI N[0]) M:=λ M=>by
  have:=fW (m:=M) h0;rw[show ((0:Nat):Int)=0 from rfl] at this;exact this
 have lk:N[0].length=k:=(aB.mp (h.at_ h0)).1;let⟨P,m1,e5,hP,p1,c1⟩:=sequence (n:=n+1+1) (k:=k) hp hm 'o';have PL:=d9 hP;let⟨ws,m2,e6,s2,l2,r2⟩:=jd (C:=Cn pg (n+1+1+1+1)) (i:=11) (p:=p) (js:=[11]) (it:=.var 5) (e:=.call 26 %[@0,|@(2)]) (Z:=[@(.ref p),@(tab ks ss ls R L),@(.fz (R.map bL)),@(aU N),@(aV (rcs R N ss.length (2^ks.length))),@(dm P),none,none,none,none,none,none,none]) (m:=m1) (xs:=P.map iN) (Rr:=λ _ w=>∃d:Nat,w=.int d/\True) p1 c1 (by rw[cu];erw[EWs];rfl) (λ _ _=>rfl) rfl (by rw[Qi];erw[lim];omega) (λ x _ M1 s1=>by
   let⟨d,M2,hd,s2,d1⟩:=draw (n:=n+1+1+1) (many:=2) (s1.gg p1) 'd' 'd';exact⟨.int d,M2,by erw[br,EWs,hd],s2,rfl,d,rfl,trivial⟩)
 let⟨ds,rfl,_⟩:=lI (P:=λ _=>True) (ws:=ws) λ w hw=>by
  let⟨j,hj,rfl⟩:=Rz hw;exact r2 j 'o' hj
 obtain⟨t,ht⟩:∃t:List Int,t=ds.map λ d:Nat=>(d:Int):=⟨_,rfl⟩;have PM:(W.fz (ds.map λ d=>W.int (d:Nat)))=bL t:=by rw[ht,bL,Q8];rfl
 have OD:t.length=k:=by rw[ht];simpa[PL] using l2
 rw[PM] at e6;have c2:=s2.cm c1;have e7:ao (Cn pg (n+1+1+1+1)) (.frz (.comp (.gen @12 [12] @3 .nil (.elt (.call 37 %[@12,@5,|@6]))))) [@(.ref p),@(tab ks ss ls R L),@(.fz (R.map bL)),@(aU N),@(aV (rcs R N ss.length (2^ks.length))),@(dm P),@(bL t),none,none,none,none,none,none] m2=.ok (aU (N.map (mv P t))) m2:=by
  have:=f6 (C:=Cn pg (n+1+1+1+1)) (i:=12) (js:=[12]) (it:=.var 3) (e:=.call 37 %[@12,@5,|@6]) (Z:=[@(.ref p),@(tab ks ss ls R L),@(.fz (R.map bL)),@(aU N),@(aV (rcs R N ss.length (2^ks.length))),@(dm P),@(bL t),none,none,none,none,none,none]) (m:=m2) (xs:=N.map tupI) (s:=.tup (N.map tupI))
   (g:=λ x=>match x with | .tup ws=>tupI (mv P t ((cU ws).getD [])) | _=>.non) c2 (by rw[cu,aN];rfl) (λ j=>rfl) rfl (λ x hx=>by
    let⟨a,ha,rfl⟩:=Qf.mp hx;have:=moved (n:=n+1+1+1) (m:=m2) hP 'o' (aB.mp (h.mem a ha)).1 OD;erw[br,EWs,this,d8,Rm]) (λ x hx=>by
    let⟨a,ha,rfl⟩:=Qf.mp hx;simp[av,bI]) (by rw[Qi];have:=h.len;erw[lim];omega)
  rw[this,Q8,aU,Q8];congr 2;refine map_congr_left λ a _=>?_;erw[Function.comp,d8,Rm]
 have h':aA k (N.map (mv P t)):=h.map h.k1 h.k4 (λ a _=>kH hP) (λ a ha b hb e=>Il hP ha hb e);have hl':(N.map (mv P t)).length=ss.length:=by simpa using hl
 have PN:=lM (R:=R) (N:=N) (ss:=ss) o.s4 _ qS;have PR:=lM (R:=R) (N:=N.map (mv P t)) (ss:=ss) o.s4 _ qS;have N2:=IA o h hl hP h';have e8:=qM (n:=n) (m:=m2) (a:=.var 1) (b:=.var 7) (Z:=[@(.ref p),@(tab ks ss ls R L),@(.fz (R.map bL)),@(aU N),@(aV (rcs R N ss.length (2^ks.length))),@(dm P),@(bL t),@(aU (N.map (mv P t))),none,none,none,none,none]) o h' hl' c2 (by erw[EWs]) (by erw[EWs]);have hmem:∀r∈rcs R N ss.length (2^ks.length),r.2.1 < N.length/\r.2.2.1 < N.length/\r.2.2.2∈af k:=λ r hr=>u5 o h hl hr;have Lk:∀r∈rcs R (N.map (mv P t)) ss.length (2^ks.length),r.2.2.2∈af k:=λ r hr=>(u5 o h' hl' hr).2.2;have e9:=D0 (n:=n+1) (m:=m2) (a:=.var 2) (b:=.var 7) (Z:=jY p (tab ks ss ls R L) R N (rcs R N ss.length (2^ks.length)) P t (N.map (mv P t)) (rcs R (N.map (mv P t)) ss.length (2^ks.length)) none none) o h' hl' c2 (by erw[EWs]) (by erw[EWs]);generalize rcs R N ss.length (2^ks.length)=T at *;generalize rcs R (N.map (mv P t)) ss.length (2^ks.length)=T' at *;have hTT:T'.length=T.length:=by have:=RM List.length N2;simpa using this
 have t1:=Bs (n:=n+1+1+1) (m:=m2) (T:=T) 'o';have t2:=Bs (n:=n+1+1+1) (m:=m2) (T:=T') 'o';have PU:bx (Cn pg (n+1+1+1+1)) (.or (.cmp .NotEq (.call 38 %[|@8]) (.call 38 %[|@4])) (.cmp .NotEq @8 (.frz (.call 35 %[@2,|@7])))) (jY p (tab ks ss ls R L) R N T P t (N.map (mv P t)) T' none none) m2=.ok false m2:=by
  have a1:bx (Cn pg (n+1+1+1+1)) (.cmp .NotEq (.call 38 %[|@8]) (.call 38 %[|@4])) (jY p (tab ks ss ls R L) R N T P t (N.map (mv P t)) T' none none) m2=.ok false m2:=by
   rw[bH];erw[EWs,t1,t2];rw[Lb,N2];simp
  rw[gx,a1,aP];erw[Qv,QK];rw[bH,aN];erw[dX,dY,dZ,d7,aP];rw[e9];exact ne_T
 have hI:cC (Cn pg (n+1+1+1+1)) (.zip %[@4,|@8]) (jY p (tab ks ss ls R L) R N T P t (N.map (mv P t)) T' none none) m2=.ok (.zip [.tup (T.map tW),.tup (T'.map tW)]) m2:=by
  rw[mO];erw[EWs];rfl
 let⟨ρ',m',hf,o9,yo,rfl,rfl⟩:=cR (C:=Cn pg (n+1+1+1+1)) (t:=.tup %[@9,|@10]) (b:=wc) hI (n:=T.length) (by simp[Src.len,Src.lens,hTT])
  (λ i Z M=>∃o9 yo,Z=jY p (tab ks ss ls R L) R N T P t (N.map (mv P t)) T' o9 yo/\M=m2)
  ⟨none,none,rfl,rfl⟩ (λ i Z M hi=>by
   rintro⟨o9,yo,rfl,rfl⟩;have hi':i < T'.length:=by omega
   let⟨b1,b2,b3⟩:=hmem T[i] (QI hi);have b4:=Lk T'[i] (QI hi');have hk1:kI T'[i]=kI T[i]:=by
    have:=RM (λ l=>l[i]?) N2;simpa[hi,hi'] using this
   have hr':tW T'[i]=tW (T[i].1,T[i].2.1,T[i].2.2.1,T'[i].2.2.2):=by
    erw[kI,List.cons.injEq,and_true] at hk1;erw[tW,hk1.1,hk1.2.1,hk1.2.2]
   refine⟨.tup [tW T[i],tW T'[i]],_,_,_,Iw ?_ ?_,?_,.inl (tH (n:=n) (p:=p) (m:=M) (T:=T) (T':=T') (x:=T[i].1) h hl hP OD h' b1 b2 b3 b4),_,_,rfl,rfl⟩
   .rw[aO (by simpa using hi),QD]
   .rw[aO (by simpa using hi'),QD]
   .rw[hr'];simp[aE,dJ])
  (fun Z M _=>Iz (aK 's') (aK (by simp[hTT])))
 refine⟨m',?_,s2.gg p1,c2⟩;rw[bz rfl];refine aT (d:=⟨5,13,Mp⟩) rfl rfl ?_;show aL _ Mp [@(.ref p),@(tab ks ss ls R L),@(.fz (R.map bL)),@(aU N),@(aV T),none,none,none,none,none,none,none,none] m=_;rw[Mp,ai (Z1:=[@(.ref p),@(tab ks ss ls R L),@(.fz (R.map bL)),@(aU N),@(aV T),@(dm P),none,none,none,none,none,none,none]) (m1:=m1) (aF (w:=dm P) (by erw[EWs,e0,lN,lk,e5]) rfl),ai (aF e6 rfl)];erw[dX,dY,dZ,d7];rw[ai (aF e7 rfl)];erw[dX,dY,dZ,d7];rw[ai (aF e8 rfl)];erw[dX,dY,dZ,d7];rw[ai (by rw[gR PU,ay]),ai hf,aQ (aR (w:=.bl true) (m1:=m') (by erw[EVs]))]
end
def Ll(at_:Nat)(r:Race):Race:=(r.1,r.2.1,r.2.2.1,tw at_ r.2.2.2)
section
variable{n p k:Nat}{m:Mem}{ks ss ls:List Str}{R L N:List (List Int)}
theorem IB(o:TabOk ks ss ls R L)(h:aA k N)(hl:N.length=ss.length){at_:Nat}(hat:at_ < k)(h':aA (k+1) (N.map (tw at_))):rcs R (N.map (tw at_)) ss.length (2^ks.length)=(rcs R N ss.length (2^ks.length)).map (Ll at_):=by
 have:=wN (f:=id) (g:=Ll at_) (R:=R) (N:=N) (N':=N.map (tw at_)) (n:=ss.length) (l:=2^ks.length) λ x hx s u hsu hu=>by
  have g1:=DZ o s 'o' x hx;have g2:=DZ o u hu x hx;have l':(N.map (tw at_)).length=N.length:=by simp
  rw[pC h 'o' 'o' 'o' 'o',pC h' 'o' 'o' 'o' 'o'];have e1:pr (N.map (tw at_)) s (bP R s x) u (bP R u x)=pr N s (bP R s x) u (bP R u x):=by
   unfold pr;rw[f9 'o',f9 'o',f9 'o',f9 'o'];exact Io hat (h.gd 'o') (h.gd 'o') (h.gd 'o') (h.gd 'o')
  have e2:lw (N.map (tw at_)) s (bP R s x) u (bP R u x)=tw at_ (lw N s (bP R s x) u (bP R u x)):=by
   unfold lw;rw[f9 'o',f9 'o',f9 'o',f9 'o'];exact Lf hat (h.gd 'o') (h.gd 'o') (h.gd 'o') (h.gd 'o')
  rw[e1,e2];split<;>rfl
 rw[map_id] at this;exact this
theorem Bt{a:List Int}{at_:Nat}(ha:a.length<=100):binop .Add (tupI a) (.tup [.int (a.getD at_ 0)]) m=.ok (tupI (tw at_ a)) m:=by
 have e:(a.map W.int).length+[W.int (a.getD at_ 0)].length<=lim:=by simp[lim];omega
 erw[binop];rw[Qs e,tw,tupI,Rv];rfl
theorem tK(o:TabOk ks ss ls R L)(h:aA k N)(hl:N.length=ss.length)(hp:iH m p)(hm:Cm m) :
  ∃m',aC (D.runN pg (n+1+1+1+1+1) 41) [.ref p,tab ks ss ls R L,aU N,aV (rcs R N ss.length (2^ks.length))] m=.ok (.bl true) m'/\iH m' p/\Cm m':=by
 have hk:=h.k4;have hk1:=h.k1;have h0:0 < N.length:=by have:=o.s2;omega
 have qS:2^ks.length<=4:=iB o.k2;have e0:∀M,aX (aU N) (.int 0) M=.ok (tupI N[0]) M:=λ M=>by
  have:=fW (m:=M) h0;rw[show ((0:Nat):Int)=0 from rfl] at this;exact this
 have lk:N[0].length=k:=(aB.mp (h.at_ h0)).1;let⟨d,m1,hd,s1,d1⟩:=draw (n:=n+1+1+1) (many:=k) hp 'o' 'o';have c1:=s1.cm hm;refine⟨m1,?_,s1.gg hp,c1⟩;rw[bz rfl];refine aT (d:=⟨4,8,Mq⟩) rfl rfl ?_;show aL _ Mq [@(.ref p),@(tab ks ss ls R L),@(aU N),@(aV (rcs R N ss.length (2^ks.length))),none,none,none,none] m=_;rw[Mq,ai (Z1:=[@(.ref p),@(tab ks ss ls R L),@(aU N),@(aV (rcs R N ss.length (2^ks.length))),@(iN d),none,none,none]) (m1:=m1) (aF (w:=iN d) (by erw[EWs,e0,lN,lk,hd]) rfl)];have hT:bx (Cn pg (n+1+1+1+1)) (.cmp .Eq (.blt .len %[|.idx @2 @(0)]) @(4)) [@(.ref p),@(tab ks ss ls R L),@(aU N),@(aV (rcs R N ss.length (2^ks.length))),@(iN d),none,none,none] m1=.ok (decide ((k:Int)=4)) m1:=by
  rw[bH];erw[EWs,e0,lN,lk,aD,AR]
 by_cases e4:k=4
 .rw[Q2 'o'] at hT;rw[aQ (by rw[sQ hT,aQ (aR (w:=.bl true) (m1:=m1) (by erw[EVs]))])]
 .rw[QE 'o'] at hT;rw[ai (by rw[gR hT,ay])];have hat:d < k:=by omega
  have h':aA (k+1) (N.map (tw d)):=h.map 'o' 'o' (λ a ha=>nG hat ha) (λ a ha b hb e=>by
   have la:=(aB.mp ha).1;have lb:=(aB.mp hb).1;exact(append_inj e 'o').1)
  have hl':(N.map (tw d)).length=ss.length:=by simpa using hl
  have eN:ao (Cn pg (n+1+1+1+1)) (.frz (.comp (.gen @6 [6] @2 .nil (.elt (.bin .Add @6 (.tup %[|.idx @6 @4])))))) [@(.ref p),@(tab ks ss ls R L),@(aU N),@(aV (rcs R N ss.length (2^ks.length))),@(iN d),none,none,none] m1=.ok (aU (N.map (tw d))) m1:=by
   have:=f6 (C:=Cn pg (n+1+1+1+1)) (i:=6) (js:=[6]) (it:=.var 2) (e:=.bin .Add @6 (.tup %[|.idx @6 @4])) (Z:=[@(.ref p),@(tab ks ss ls R L),@(aU N),@(aV (rcs R N ss.length (2^ks.length))),@(iN d),none,none,none]) (m:=m1) (xs:=N.map tupI) (s:=.tup (N.map tupI))
    (g:=λ x=>match x with | .tup ws=>tupI (tw d ((cU ws).getD [])) | _=>.non) c1 (by rw[cu,aN];rfl) (λ j=>rfl) rfl (λ x hx=>by
     let⟨a,ha,rfl⟩:=Qf.mp hx;have la:=(aB.mp (h.mem a ha)).1;have e1:=u0 (a:=a) (m:=m1) (j:=d) 'o';have e2:=Bt (a:=a) (at_:=d) (m:=m1) 'o';have hl1:[W.int (a.getD d 0)].length<=lim:=by simp[lim]
     erw[br,EWs,e1,hl1,QL,e2,d8,Rm]) (λ x hx=>by
     let⟨a,ha,rfl⟩:=Qf.mp hx;simp[av,bI]) (by rw[Qi];have:=h.len;erw[lim];omega)
   rw[this,Q8,aU,Q8];congr 2;refine map_congr_left λ a _=>?_;erw[Function.comp,d8,Rm]
  have e5:=qM (n:=n) (m:=m1) (a:=.var 1) (Z:=[@(.ref p),@(tab ks ss ls R L),@(aU N),@(aV (rcs R N ss.length (2^ks.length))),@(iN d),none,none,none]) o h' hl' c1 (by erw[EWs]) eN;rw[IB o h hl hat h'] at e5;have hmem:∀r∈rcs R N ss.length (2^ks.length),r.2.2.2∈af k:=λ r hr=>(u5 o h hl hr).2.2;have PN:=lM (R:=R) (N:=N) (ss:=ss) o.s4 _ qS;generalize rcs R N ss.length (2^ks.length)=T at *;rw[ai (aF e5 rfl)];erw[dX,dY,dZ,d7];have e6:ao (Cn pg (n+1+1+1+1)) (.frz (.comp (.gen @7 [7] @3 .nil (.elt (.bin .Add (.slc @7 .none (.some @(3))) (.tup %[|.bin .Add (.idx @7 @(3)) (.tup %[|.idx (.idx @7 @(3)) @4])])))))) [@(.ref p),@(tab ks ss ls R L),@(aU N),@(aV T),@(iN d),@(aV (T.map (Ll d))),none,none] m1=.ok (aV (T.map (Ll d))) m1:=by
   have:=f6 (C:=Cn pg (n+1+1+1+1)) (i:=7) (js:=[7]) (it:=.var 3) (e:=.bin .Add (.slc @7 .none (.some @(3))) (.tup %[|.bin .Add (.idx @7 @(3)) (.tup %[|.idx (.idx @7 @(3)) @4])])) (Z:=[@(.ref p),@(tab ks ss ls R L),@(aU N),@(aV T),@(iN d),@(aV (T.map (Ll d))),none,none]) (m:=m1) (xs:=T.map tW) (s:=.tup (T.map tW))
    (g:=λ x=>match x with | .tup [a,b,c,.tup ws]=>.tup [a,b,c,tupI (tw d ((cU ws).getD []))] | _=>.non) c1 (by rw[cu,aN];rfl) (λ j=>rfl) rfl (λ x hx=>by
     let⟨r,hr,rfl⟩:=Qf.mp hx;have la:=(aB.mp (hmem r hr)).1;have e1:=u0 (a:=r.2.2.2) (m:=m1) (j:=d) 'o';have e2:=Bt (a:=r.2.2.2) (at_:=d) (m:=m1) 'o';have hl1:∀w:W,[w].length<=lim:=λ w=>by simp[lim]
     have e3:∀w:W,binop .Add (tupI (kI r)) (.tup [w]) m1=.ok (.tup [iN r.1,iN r.2.1,iN r.2.2.1,w]) m1:=λ w=>by
      have e:((kI r).map W.int).length+[w].length<=lim:=by simp[lim,kI]
      erw[binop];rw[Qs e];rfl
     erw[br,EWs,Lj,OC,e1,hl1,QL,e2,e3,d8,Rm]) (λ x hx=>by
     let⟨r,hr,rfl⟩:=Qf.mp hx;simp[av,aj,bI]) (by rw[Qi];erw[lim];omega)
   rw[this,Q8,aV,Q8];congr 2;refine map_congr_left λ r _=>?_;erw[Function.comp,d8,Rm];rfl
  rw[aQ (aR (w:=.bl true) (m1:=m1) ?_)];rw[cV,aN];erw[dX,dY,dZ,d7,aP];rw[e6];erw[aP,aD,Iv]
end
theorem nJ{l:List α}{d:α}{O:List Nat}(hO:O.Perm (List.range l.length)):(O.map λ s=>l.getD s d).Perm l:=by
 have h:=hO.map (λ s=>l.getD s d);have e:(List.range l.length).map (λ s=>l.getD s d)=l:=ext_getElem 's' λ j h1 h2=>by
  rw[QD,getElem_range,bu h2]
 rwa [e] at h
theorem Bu{O:List Nat}:(O.map λ x:Nat=>(x:Int)).idxOf (g:Int)=ix O g:=by
 unfold ix
 induction O with
 | nil=>rfl
 | cons x r ih=>
  rw[QM,idxOf_cons,idxOf_cons,ih]
  by_cases e:x=g
  .subst e;simp
  .have e':¬(x:Int)=g:=by omega
   rw[beq_false_of_ne e,beq_false_of_ne e']
theorem Lm(O:List Nat):cU (O.map iN)=some (O.map λ x:Nat=>(x:Int)):=by
 have:=d8 (O.map λ x:Nat=>(x:Int));rw[Q8] at this;exact this
section
variable{n:Nat}{m:Mem}{O:List Nat}
theorem D3(hO:O.Perm (List.range n))(h:n<=16)(hg:g < n):bJ (dm O) "lindex" [.int g] m=.ok (iN (ix O g)) m:=by
 have hl:=d9 hO;have h1:(O.map λ x:Nat=>(x:Int)).idxOf (g:Int) < (O.map λ x:Nat=>(x:Int)).length/\(O.map λ x:Nat=>(x:Int)).length<=1000000:=by
  rw[Bu,Qi,hl];exact⟨jq hO hg,by omega⟩
 erw[bJ,QL,jI,Lm];rw[Qs h1,Bu]
theorem lQ{v:Nat}{e:E}(hO:O.Perm (List.range n))(h:n<=16)(hg:g < n)(hv:Z[v]?=@(some (dm O)))(he:ao C e Z m=.ok (iN g) m):ao C (.meth (.var v) "lindex" %[|e]) Z m=.ok (iN (ix O g)) m:=by
 rw[bD,aN,hv];erw[aP];rw[Qs (show kdOf m (dm O)=p8 "lindex" from rfl),aH,he];erw[aP,aY,D3 hO h hg]
end
theorem Ln{a b:Nat}(h:a≠b):kP [iN a,iN b]=some [iN (min a b),iN (max a b)]:=by
 have e:kP [iN a,iN b]=sortI [iN a,iN b] [(a:Int),b]:=rfl;rw[e];have o:Ord 2 λ i j=>decide (([(a:Int),b]:List Int).getD i 0 < ([(a:Int),b]:List Int).getD j 0):=by
  refine⟨λ {i j k} hi hj hk h1 h2=>?_,λ {i j} hi hj hij h'=>?_⟩
  .erw[Q7] at *;omega
  .erw[Q7,decide_eq_false_iff_not] at *;rcases (by omega:i=0/\j=1\/i=1/\j=0) with⟨rfl,rfl⟩ | ⟨rfl,rfl⟩
   .simp at *;omega
   .simp at *;omega
 let⟨q,e1,pq,uq⟩:=wH o 'o';have hs:=pq.size;have u:=uq 0 1 'o' 'o';have n1:=pq.ne (i:=0) (j:=1) 'o' 'o' 'o';have l0:=pq.lt (i:=0) 'o';have l1:=pq.lt (i:=1) 'o';have hq:q.toList=[q.getD 0 0,q.getD 1 0]:=by
  refine ext_getElem (by simpa using hs) λ j h1 h2=>?_;have h2:j < 2:=h2;rcases (by omega:j=0\/j=1) with rfl | rfl<;>simp[QO,hs]
 unfold sortI;rw[Qz 's',Qs 's'];show (match eZ 2 (λ i j=>decide (([(a:Int),b]:List Int).getD i 0 < ([(a:Int),b]:List Int).getD j 0)) (PySem.W.kas_sort 2) with | some pm=>_ | none=>_)=_;rw[e1];show (if q.size<=64 then some (q.toList.map λ i=>[iN a,iN b].getD i .non) else none)=_;rw[Qs 'o',hq];generalize q.getD 0 0=i at *;generalize q.getD 1 0=j at *;erw[Q7] at u;rcases (by omega:i=0/\j=1\/i=1/\j=0) with⟨rfl,rfl⟩ | ⟨rfl,rfl⟩
 .have:a < b:=by simpa using u
  rw[show min a b=a by omega,show max a b=b by omega];rfl
 .have:b < a:=by simpa using u
  rw[show min a b=b by omega,show max a b=a by omega];rfl
theorem Bv{e1 e2:E}{a b:Nat}(hm:Cm m)(h1:ao C e1 Z m=.ok (iN a) m)(h2:ao C e2 Z m=.ok (iN b) m)(h:a≠b):ao C (.frz (.blt .sorted %[|.lst %[e1,|e2]])) Z m=.ok (dm [min a b,max a b]) m:=by
 refine lG (m0:=m) (l:=[.lst [iN a,iN b],.lst [iN (min a b),iN (max a b)]]) (j:=m.length+1) ?_ rfl hm 'o' 's' rfl;rw[bC,aH,dF,aH,h1];erw[aP];rw[aH,h2];erw[aP,aY,new];rw[Qs 'm'];erw[aP,aZ,getL];have:(m++[O.lst [iN a,iN b]])[m.length]?=some (.lst [iN a,iN b]):=by simp
 erw[this,Ln h,new];simp
section
variable{n k:Nat}{m:Mem}{ks ss ls:List Str}{R L N:List (List Int)}
theorem D4:ji pg.cs (tab ks ss ls R L) "key_words" m=some 7:=rfl
theorem Bw:ji pg.cs (tab ks ss ls R L) "lamps" m=some 9:=rfl
theorem yp:ji pg.cs (tab ks ss ls R L) "lights" m=some 12:=rfl
theorem yq:aC (D.runN pg (n+1) 7) [tab ks ss ls R L] m=.ok (fC ks) m:=by
 refine aG (m1:=[]) (by rw[aj,cy];rfl) ?_ (by simp[av,dU]);refine aT (d:=⟨1,1,b7⟩) rfl rfl ?_;show aL _ b7 [@(tab ks ss ls R L)] []=_;rw[b7,aQ (aR (fV (w:=fC ks) (by erw[EWs,wj]) rfl Cm.nil (dU _)))]
theorem Lo:aC (D.runN pg (n+1) 9) [tab ks ss ls R L] m=.ok (fC ls) m:=by
 refine aG (m1:=[]) (by rw[aj,cy];rfl) ?_ (by simp[av,dU]);refine aT (d:=⟨1,1,b9⟩) rfl rfl ?_;show aL _ b9 [@(tab ks ss ls R L)] []=_;rw[b9,aQ (aR (fV (w:=fC ls) (by erw[EWs,AU]) rfl Cm.nil (dU _)))]
theorem IC(h:s < L.length):aC (D.runN pg (n+1) 12) [tab ks ss ls R L,iN s] m=.ok (tupI (L.getD s [])) m:=by
 refine aG (m1:=[]) (by rw[aj,cy];rfl) ?_ (by simp[av,bI]);refine aT (d:=⟨2,2,LY⟩) rfl rfl ?_;show aL _ LY [@(tab ks ss ls R L),@(iN s)] []=_;have e1:=fW (m:=[]) h;rw[LY,aQ (aR (w:=tupI (L.getD s [])) (m1:=[]) ?_)];erw[EWs,yc];rw[bu h];exact e1
variable{O Lt:List Nat}
theorem Lp(h:aA k N)(hO:O.Perm (List.range N.length)):aA k (mN N O):=by
 have hp:(mN N O).Perm N:=nJ hO;exact⟨h.k1,h.k4,λ a ha=>h.mem a (hp.mem_iff.mp ha),hp.nodup_iff.mpr h.nd,by rw[hp.length_eq];exact h.len⟩
abbrev mS(ss:List Str)(O:List Nat):List Str:=O.map λ s=>ss.getD s ""
theorem Lq(o:TabOk ks ss ls R L)(hO:O.Perm (List.range ss.length))(hL:Lt.Perm (List.range (2^ks.length))):TabOk ks (mS ss O) ls (mR R O Lt) (mN L O):=by
 have BF:=d9 hO;have HW:=d9 hL;have pS:(mS ss O).Perm ss:=nJ hO;have pA:(ks++mS ss O++ls).Perm (ks++ss++ls):=(pS.append_left ks).append_right ls;have pL:(mN L O).Perm L:=nJ (by rw[o.tl];exact hO);have lS:(mS ss O).length=ss.length:=by simp[BF]
 have g:=DZ o;refine⟨λ z hz=>o.wd z (pA.mem_iff.mp hz),pA.nodup_iff.mpr o.nd,o.k2,by rw[lS];exact o.s2,by rw[lS];exact o.s4,o.l2,by simp[mR],by simp[mN],λ ns hns=>?_,λ ns hns=>o.te ns (pL.mem_iff.mp hns),λ i hi x hx=>?_⟩
 .let⟨s,hs,rfl⟩:=Qf.mp hns;refine⟨by rw[Qi,HW],λ y hy=>?_⟩;let⟨x,hx,rfl⟩:=Qf.mp hy;have:=jq hO (g s (Qo.mp (hO.mem_iff.mp hs)) x (Qo.mp (hL.mem_iff.mp hx)));rw[lS];omega
 .have hi':i < ss.length:=by simpa[mR,BF] using hi
  have hx':x < 2^ks.length:=by simpa[mR,HW] using hx
  have at_:∀(i x:Nat) (h1:i < (mR R O Lt).length) (h2:x < (mR R O Lt)[i].length),(mR R O Lt)[i][x]=(ix O (bP R (O.getD i 0) (Lt.getD x 0)):Int):=λ i x h1 h2=>by
   have PV:i < O.length:=by simpa[mR] using h1
   have h2':x < Lt.length:=by simpa[mR] using h2
   rw[bu PV,bu h2'];erw[mR,QD]
  have gi:=g _ (gh hO hi') _ (gh hL hx');have hk:=jq hO gi;refine⟨ix O (bP R (O.getD i 0) (Lt.getD x 0)),by simpa[mR,BF] using hk,by simpa[mR,HW] using hx',at_ i x hi hx,?_⟩;rw[at_,jX hO gi];have iV:bP R (bP R (O.getD i 0) (Lt.getD x 0)) (Lt.getD x 0)=bP R (O.getD i 0) (Lt.getD x 0):=by
   let⟨a1,a2,a3,a4⟩:=kU o (gh hO hi') (gh hL hx');let⟨b1,b2,b3,b4⟩:=kU o gi (gh hL hx');let⟨k',hk1,hk2,e1,e2⟩:=o.st _ a1 _ a2;have ek:k'=bP R (O.getD i 0) (Lt.getD x 0):=by rw[a3] at e1;omega
   subst ek;rw[b3] at e2;omega
  rw[iV]
end
theorem ID{ss:List Str}(h:j < ss.length):aX (fC ss) (.int j) m=.ok (.str (ss.getD j "")) m:=by
 have:=fm (m:=m) (w:=fC ss) (xs:=ss.map .str) (i:=j) rfl (by simpa using h);rw[QD] at this;rw[bu h];exact this
theorem swap_perm{l:Nat}(h:l=4):([0,2,1,3]:List Nat).Perm (List.range l):=by
 subst h;decide
section
variable{n p k:Nat}{m:Mem}{ks ss ls:List Str}{R L N:List (List Int)}{O Lt:List Nat}
abbrev bX(p:Nat)(T0:W)(R N:List (List Int))(T:List Race)(c:Nat)(o6 o7 o8 o9 yo E9 Fb PX IE IF yy yz:Option W):D.Loc:=[@(.ref p),some T0,@(.fz (R.map bL)),@(aU N),@(aV T),@(iN c),o6,o7,o8,o9,yo,E9,Fb,PX,IE,IF,yy,yz]
theorem u6{l:Nat}(hp:iH m p)(hm:Cm m)(hl:l<=4){T:List Race}{c:Nat}{o6:Option W} :
  ∃Lt m',fu (Cn pg (n+1)) (.ife (.and (.cmp .Eq (.blt .len %[|@7]) @(4)) (.cmp .Eq (.call 26 %[@0,|@(2)]) @(1))) %[|.asg (.pt @7) (.frz (.lst %[@(0),@(2),@(1),|@(3)]))] .nil) (bX p T0 R N T c o6 @(dm (List.range l)) none none none none none none none none none none) m=.ok (.nx (bX p T0 R N T c o6 @(dm Lt) none none none none none none none none none none)) m'/\Lt.Perm (List.range l)/\iH m' p/\Cm m':=by
 have t1:bx (Cn pg (n+1)) (.cmp .Eq (.blt .len %[|@7]) @(4)) (bX p T0 R N T c o6 @(dm (List.range l)) none none none none none none none none none none) m=.ok (decide ((l:Int)=4)) m:=by
  rw[bH];erw[EWs,DY,Ry,aD,AR]
 by_cases e:l=4
 .let⟨d,m1,hd,s1,d1⟩:=draw (n:=n) (many:=2) hp 'd' 'd';have hT:bx (Cn pg (n+1)) (.and (.cmp .Eq (.blt .len %[|@7]) @(4)) (.cmp .Eq (.call 26 %[@0,|@(2)]) @(1))) (bX p T0 R N T c o6 @(dm (List.range l)) none none none none none none none none none none) m=.ok (decide ((d:Int)=1)) m1:=by
   rw[cX,t1,Q2 'o',aP,Qs rfl,bH];erw[EWs,hd,aD,AR]
  by_cases e1:(d:Int)=1
  .rw[Q2 e1] at hT;refine⟨[0,2,1,3],m1,?_,swap_perm e,s1.gg hp,s1.cm hm⟩;rw[sQ hT,ai (Z1:=bX p T0 R N T c o6 @(dm [0,2,1,3]) none none none none none none none none none none) (m1:=m1) (aF (w:=dm [0,2,1,3]) (bG (m0:=m1) (xs:=[0,2,1,3].map iN) (by erw[EVs,new];rfl) rfl (s1.cm hm) rfl) rfl),ay]
  .rw[QE e1] at hT;exact⟨List.range l,m1,by rw[gR hT,ay],.refl _,s1.gg hp,s1.cm hm⟩
 .have hT:bx (Cn pg (n+1)) (.and (.cmp .Eq (.blt .len %[|@7]) @(4)) (.cmp .Eq (.call 26 %[@0,|@(2)]) @(1))) (bX p T0 R N T c o6 @(dm (List.range l)) none none none none none none none none none none) m=.ok false m:=by
   rw[cX,t1,QE 'o',aP];rfl
  exact⟨List.range l,m,by rw[gR hT,ay],.refl _,hp,hm⟩
theorem Lr(o:TabOk ks ss ls R L)(hO:O.Perm (List.range ss.length))(hL:Lt.Perm (List.range (2^ks.length)))(hm:Cm m){T:List Race}{c:Nat}{o9:Option W} :
  ao (Cn pg (n+1)) (.frz (.comp (.gen @8 [8] @6 .nil (.elt (.frz (.comp (.gen @10 [10] @7 .nil (.elt (.meth @6 "lindex" %[|.idx (.idx @2 @8) @10]))))))))) (bX p T0 R N T c @(dm O) @(dm Lt) none o9 none none none none none none none none) m=.ok (.fz ((mR R O Lt).map bL)) m:=by
 have BF:=d9 hO;have HW:=d9 hL;have h4:=o.s4;have qS:2^ks.length<=4:=iB o.k2;have:=f6 (C:=Cn pg (n+1)) (i:=8) (js:=[8]) (it:=.var 6) (e:=.frz (.comp (.gen @10 [10] @7 .nil (.elt (.meth @6 "lindex" %[|.idx (.idx @2 @8) @10]))))) (Z:=bX p T0 R N T c @(dm O) @(dm Lt) none o9 none none none none none none none none) (m:=m) (xs:=O.map iN) (s:=.tup (O.map iN))
  (g:=λ x=>match x with | .int s=>bL (Lt.map λ x=>(ix O (bP R s.toNat x):Int)) | _=>.non) hm (by rw[cu,aN];rfl) (λ j=>rfl) rfl (λ w hw=>by
   let⟨s,hs,rfl⟩:=Qf.mp hw;have hs:s < ss.length:=Qo.mp (hO.mem_iff.mp hs);have:=f6 (C:=Cn pg (n+1)) (i:=10) (js:=[10]) (it:=.var 7) (e:=.meth @6 "lindex" %[|.idx (.idx @2 @8) @10]) (Z:=bX p T0 R N T c @(dm O) @(dm Lt) @(iN s) o9 none none none none none none none none) (m:=m) (xs:=Lt.map iN) (s:=.tup (Lt.map iN))
    (g:=λ y=>match y with | .int x=>iN (ix O (bP R s x.toNat)) | _=>.non) hm (by rw[cu,aN];rfl) (λ j=>rfl) rfl (λ w hw=>by
     let⟨x,hx,rfl⟩:=Qf.mp hw;have hx:x < 2^ks.length:=Qo.mp (hL.mem_iff.mp hx);let⟨r1,g1⟩:=A5 o hs hx;refine lQ (O:=O) hO 'o' (DZ o s hs x hx) (by erw[br,dX,dY,dZ,d7]) ?_;erw[br,EWs,(g1 m).1,(g1 m).2];rfl) (λ w hw=>by
     let⟨x,hx,rfl⟩:=Qf.mp hw;rfl) (by rw[Qi,HW];erw[lim];omega)
   erw[br,dX,dY,dZ,d7];rw[this,Q8];erw[bL,Q8];rfl) (λ w hw=>by
   let⟨s,hs,rfl⟩:=Qf.mp hw;erw[av,bL];exact bI _) (by rw[Qi,BF];erw[lim];omega)
 rw[this,Q8,mR,Q8];rfl
theorem Bx(hO:O.Perm (List.range ss.length))(hL:Lt.Perm (List.range (2^ks.length)))(h4:ss.length<=4)(IX:2^ks.length<=4)(hm:Cm m)(h1:r.1 < 2^ks.length)(h2:r.2.1 < r.2.2.1)(h3:r.2.2.1 < ss.length){T Dl:List Race}(hD:Dl.length<=1000){c:Nat}{o9 E9 Fb yy yz:Option W} :
  ∃o16' o17',aL (Cn pg n) we (bX p T0 R N T c @(dm O) @(dm Lt) @(iN r.2.1) o9 @(iN r.1) E9 Fb @(.ref m.length) @(iN r.2.2.1) @(tupI r.2.2.2) yy yz) (m++[.lst (Dl.map tW)])=.ok (.nx (bX p T0 R N T c @(dm O) @(dm Lt) @(iN r.2.1) o9 @(iN r.1) E9 Fb @(.ref m.length) @(iN r.2.2.1) @(tupI r.2.2.2) o16' o17')) (m++[.lst ((Dl++[lP O Lt r]).map tW)]):=by
 have PY:Cm (m++[D.O.lst (Dl.map tW)]):=hm.push (cB _ (eH _));have ne:ix O r.2.1≠ix O r.2.2.1:=λ z=>by have:=kW hO 'o' h3 z;omega
 have e1:=Bv (C:=Cn pg n) (Z:=bX p T0 R N T c @(dm O) @(dm Lt) @(iN r.2.1) o9 @(iN r.1) E9 Fb @(.ref m.length) @(iN r.2.2.1) @(tupI r.2.2.2) yy yz) (e1:=.meth @6 "lindex" %[|@8]) (e2:=.meth @6 "lindex" %[|@14]) PY
  (lQ (O:=O) hO 'o' (by omega:r.2.1 < ss.length) (by erw[dX,dY,dZ,d7]) (by erw[EWs])) (lQ (O:=O) hO 'o' h3 (by erw[dX,dY,dZ,d7]) (by erw[EWs])) ne
 refine⟨some (iN (min (ix O r.2.1) (ix O r.2.2.1))),@(iN (max (ix O r.2.1) (ix O r.2.2.1))),?_⟩;rw[we,ai (Z1:=bX p T0 R N T c @(dm O) @(dm Lt) @(iN r.2.1) o9 @(iN r.1) E9 Fb @(.ref m.length) @(iN r.2.2.1) @(tupI r.2.2.2) @(iN (min (ix O r.2.1) (ix O r.2.2.1))) @(iN (max (ix O r.2.1) (ix O r.2.2.1)))) (m1:=m++[.lst (Dl.map tW)]) (by
  rw[fS,e1];simp[gU,eO,aE,D.R.bind,aM,getL])]
 have e2:ao (Cn pg n) (.meth @7 "lindex" %[|@10]) (bX p T0 R N T c @(dm O) @(dm Lt) @(iN r.2.1) o9 @(iN r.1) E9 Fb @(.ref m.length) @(iN r.2.2.1) @(tupI r.2.2.2) @(iN (min (ix O r.2.1) (ix O r.2.2.1))) @(iN (max (ix O r.2.1) (ix O r.2.2.1)))) (m++[.lst (Dl.map tW)])=.ok (iN (ix Lt r.1)) (m++[.lst (Dl.map tW)]):=lQ (O:=Lt) hL 'o' h1 (by erw[dX,dY,dZ,d7]) (by erw[EWs]);have hk:kdOf (m++[D.O.lst (Dl.map tW)]) (.ref m.length)=p8 "append":=by simp[kdOf];rfl
 have hap:=tF (m:=m) (xs:=Dl.map tW) (w:=tW (lP O Lt r)) (by rw[Qi];erw[lim];omega);have IX:∀a b c d:W,[a,b,c,d].length<=lim:=λ _ _ _ _=>by simp[lim]
 rw[ai (cQ (w:=.non) (m1:=m++[.lst ((Dl++[lP O Lt r]).map tW)]) ?_),ay];rw[bD,aN];erw[dX,dY,dZ,d7,aP];rw[Qs hk,aH,cD,aH,e2];erw[EWs,IX,QL];rw[Rv];exact hap
theorem qO(o:TabOk ks ss ls R L)(h:aA k N)(hl:N.length=ss.length)(hp:iH m p)(hm:Cm m) :
  ∃m',aC (D.runN pg (n+1+1+1+1+1) 42) [.ref p,tab ks ss ls R L,.fz (R.map bL),aU N,aV (rcs R N ss.length (2^ks.length))] m=.ok (.bl true) m'/\iH m' p/\Cm m':=by
 have qS:2^ks.length<=4:=iB o.k2;have h4:=o.s4;have h0:0 < R.length:=by have:=o.s2;have:=o.rl;omega
 let⟨O,m1,e6,hO,p1,c1⟩:=sequence (n:=n+1+1) (k:=ss.length) hp hm 'o';have BF:=d9 hO;let⟨Lt,m2,e7,hL,p2,c2⟩:=u6 (n:=n+1+1+1) (R:=R) (N:=N) (l:=2^ks.length) p1 c1 qS (T0:=tab ks ss ls R L) (T:=rcs R N ss.length (2^ks.length)) (c:=ss.length) (o6:=@(dm O));have HW:=d9 hL;have hr0:∀M,aX (.fz (R.map bL)) (.int 0) M=.ok (bL R[0]) M:=λ M=>by
  have:=uX (M:=M) h0;rw[show ((0:Nat):Int)=0 from rfl] at this;exact this
 have NZ:∀M,aZ .len [bL R[0]] M=.ok (iN (2^ks.length)) M:=λ M=>by
  have:=bK (m:=M) (w:=bL R[0]) (xs:=R[0].map .int) rfl;rw[Qi,(o.re R[0] (QI h0)).1] at this;exact this
 have o':=Lq o hO hL;have OE:O.Perm (List.range N.length):=by rw[hl];exact hO
 have h':=Lp h OE;have lS:(mS ss O).length=ss.length:=by simp[BF]
 have hl':(mN N O).length=(mS ss O).length:=by simp[mN]
 have hlt:=Ip (R:=R) (N:=N) (k:=ss.length) (l:=2^ks.length) h4 qS;have Ls:=uZ hO hL (DZ o) h hl h' hlt;have hmem:∀r∈rcs R N ss.length (2^ks.length),r.1 < 2^ks.length/\r.2.1 < r.2.2.1/\r.2.2.1 < ss.length:=λ r hr=>by
  let⟨a,b,c,_⟩:=gI.mp hr;exact⟨a,b,c⟩
 have eL:∀(o8:Option W),ao (Cn pg (n+1+1+1+1)) (.frz (.lrng (.blt .len %[|.idx @2 @(0)]))) (bX p (tab ks ss ls R L) R N (rcs R N ss.length (2^ks.length)) ss.length (some (dm O)) none none none none none none none none none none none) m1=.ok (dm (List.range (2^ks.length))) m1:=λ _=>by
  refine bG (m0:=m1) (xs:=(List.range (2^ks.length)).map iN) ?_ rfl c1 (wL _);have hc:(0:Int)<=(2^ks.length:Nat)/\((2^ks.length:Nat):Int)<=1000000:=by generalize 2^ks.length=l at qS ⊢;omega
  erw[EWs,hr0,NZ];rw[Qs hc,Q0];rfl
 have eN:∀{Z:D.Loc} {M:Mem} (hM:Cm M) (h6:Z[6]?=@(some (dm O))) (h3:∀x,((br [8] Z).set 8 (some x))[3]?=@(some (aU N))) (h8:∀x,((br [8] Z).set 8 (some x))[8]?=@(some x)),ao (Cn pg (n+1+1+1+1)) (.frz (.comp (.gen @8 [8] @6 .nil (.elt (.idx @3 @8))))) Z M=.ok (aU (mN N O)) M:=λ {Z M} hM h6 h3 h8=>by
  have:=f6 (C:=Cn pg (n+1+1+1+1)) (i:=8) (js:=[8]) (it:=.var 6) (e:=.idx @3 @8) (Z:=Z) (m:=M) (xs:=O.map iN) (s:=.tup (O.map iN)) (g:=λ x=>match x with | .int s=>tupI (N.getD s.toNat []) | _=>.non) hM (by rw[cu,aN,h6];rfl) (λ j=>rfl) rfl (λ w hw=>by
    let⟨s,hs,rfl⟩:=Qf.mp hw;have hs:s < N.length:=Qo.mp (OE.mem_iff.mp hs);erw[EVs,h3,h8,fW (m:=M) hs,Q0];rw[bu hs]) (λ w hw=>by
    let⟨s,hs,rfl⟩:=Qf.mp hw;simp[av,bI]) (by rw[Qi,BF];erw[lim];omega)
  rw[this,Q8,aU,mN,Q8];rfl
 generalize hT:rcs R N ss.length (2^ks.length)=T at *;have e9:ao (Cn pg (n+1+1+1+1)) (.frz (.comp (.gen @8 [8] @6 .nil (.elt (.idx (.mth @1 "states" .nil) @8))))) (bX p (tab ks ss ls R L) R N T ss.length @(dm O) @(dm Lt) none none none none none none none none none none) m2=.ok (fC (mS ss O)) m2:=by
  have:=f6 (C:=Cn pg (n+1+1+1+1)) (i:=8) (js:=[8]) (it:=.var 6) (e:=.idx (.mth @1 "states" .nil) @8) (Z:=bX p (tab ks ss ls R L) R N T ss.length @(dm O) @(dm Lt) none none none none none none none none none none) (m:=m2) (xs:=O.map iN) (s:=.tup (O.map iN)) (g:=λ x=>match x with | .int s=>.str (ss.getD s.toNat "") | _=>.non) c2 (by rw[cu,aN];rfl) (λ j=>rfl) rfl (λ w hw=>by
    let⟨s,hs,rfl⟩:=Qf.mp hw;have hs:s < ss.length:=Qo.mp (hO.mem_iff.mp hs);erw[br,cF,fZ,aN,dX,dY,dZ,d7,aP,kG,aY,states,ID (m:=m2) hs,Q0]) (λ w hw=>by
    let⟨s,hs,rfl⟩:=Qf.mp hw;rfl) (by rw[Qi,BF];erw[lim];omega)
  rw[this,Q8,fC,mS,Q8];rfl
 have PZ:=Lr (n:=n+1+1+1) (p:=p) (N:=N) (T0:=tab ks ss ls R L) (T:=T) (c:=ss.length) (o9:=@(fC (mS ss O))) o hO hL c2;have P0:ao (Cn pg (n+1+1+1+1)) (.frz (.comp (.gen @8 [8] @6 .nil (.elt (.mth @1 "lights" %[|@8]))))) (bX p (tab ks ss ls R L) R N T ss.length @(dm O) @(dm Lt) none @(fC (mS ss O)) none @(.fz ((mR R O Lt).map bL)) none none none none none none) m2=.ok (.fz ((mN L O).map tupI)) m2:=by
  have:=f6 (C:=Cn pg (n+1+1+1+1)) (i:=8) (js:=[8]) (it:=.var 6) (e:=.mth @1 "lights" %[|@8]) (Z:=bX p (tab ks ss ls R L) R N T ss.length @(dm O) @(dm Lt) none @(fC (mS ss O)) none @(.fz ((mR R O Lt).map bL)) none none none none none none) (m:=m2) (xs:=O.map iN) (s:=.tup (O.map iN)) (g:=λ x=>match x with | .int s=>tupI (L.getD s.toNat []) | _=>.non) c2 (by rw[cu,aN];rfl) (λ j=>rfl) rfl (λ w hw=>by
    let⟨s,hs,rfl⟩:=Qf.mp hw;have hs:s < L.length:=by rw[o.tl];exact Qo.mp (hO.mem_iff.mp hs)
    erw[br,fZ,aN,dX,dY,dZ,d7,aP,yp,aH,aY,IC hs,Q0]) (λ w hw=>by
    let⟨s,hs,rfl⟩:=Qf.mp hw;simp[av,bI]) (by rw[Qi,BF];erw[lim];omega)
  rw[this,Q8,mN,Q8];rfl
 have P1:=nv (n:=n) (es:=.cons (.mth @1 "key_words" .nil) %[@9,.mth @1 "lamps" .nil,@11,|.frz (.comp (.gen @8 [8] @6 .nil (.elt (.mth @1 "lights" %[|@8]))))]) (Z:=bX p (tab ks ss ls R L) R N T ss.length @(dm O) @(dm Lt) none @(fC (mS ss O)) none @(.fz ((mR R O Lt).map bL)) none none none none none none) (M:=m2) (k:=fC ks) (s:=fC (mS ss O)) (l:=fC ls) (r:=.fz ((mR R O Lt).map bL)) (t:=.fz ((mN L O).map tupI)) (by
   erw[aH,aY,fZ,aN,dX,dY,dZ,d7,aP,D4,Bw,yq,Lo,P0]) c2 ⟨rfl,rfl,rfl,wm,wu⟩ o'
 have hI:cC (Cn pg (n+1+1+1+1)) @4 (bX p (tab ks ss ls R L) R N T ss.length @(dm O) @(dm Lt) none @(fC (mS ss O)) none @(.fz ((mR R O Lt).map bL)) @(tab ks (mS ss O) ls (mR R O Lt) (mN L O)) @(.ref m2.length) none none none none) (m2++[.lst []])=.ok (.tup (T.map tW)) (m2++[.lst []]):=by rw[cu,aN];rfl
 let⟨ρ',m',hf,o8,yo,IE,IF,yy,yz,rfl,rfl⟩:=cR (C:=Cn pg (n+1+1+1+1)) (t:=.tup %[@10,@8,@14,|@15]) (b:=we) hI (n:=T.length) (by simp[Src.len])
  (λ i Z M=>∃o8 yo IE IF yy yz,Z=bX p (tab ks ss ls R L) R N T ss.length @(dm O) @(dm Lt) o8 @(fC (mS ss O)) yo @(.fz ((mR R O Lt).map bL)) @(tab ks (mS ss O) ls (mR R O Lt) (mN L O)) @(.ref m2.length) IE IF yy yz/\M=m2++[.lst (((T.take i).map (lP O Lt)).map tW)])
  ⟨none,none,none,none,none,none,rfl,by simp⟩ (λ i Z M hi=>by
   rintro⟨o8,yo,IE,IF,yy,yz,rfl,rfl⟩;let⟨b1,b2,b3⟩:=hmem T[i] (QI hi);let⟨q16,q17,e⟩:=Bx (n:=n+1+1+1+1) (p:=p) (R:=R) (N:=N) (m:=m2) (T0:=tab ks ss ls R L) (T:=T) (c:=ss.length) (Dl:=(T.take i).map (lP O Lt)) (o9:=@(fC (mS ss O))) (E9:=@(.fz ((mR R O Lt).map bL))) (Fb:=@(tab ks (mS ss O) ls (mR R O Lt) (mN L O))) (yy:=yy) (yz:=yz) hO hL h4 qS c2 b1 b2 b3 (by rw[Qi,Ri];omega);refine⟨tW T[i],_,_,_,?_,?_,.inl e,_,_,_,_,_,_,rfl,?_⟩
   .rw[aO (by simpa using hi),QD]
   .simp[aE,dJ]
   .rw[take_add_one,QG hi];erw[Rv];rfl)
  (fun Z M _=>aK 's')
 rw[take_length] at hf;have c3:Cm (m2++[D.O.lst ((T.map (lP O Lt)).map tW)]):=c2.push (cB _ (eH _));refine⟨m2++[D.O.lst ((T.map (lP O Lt)).map tW)],?_,p2.app,c3⟩;rw[bz rfl];refine aT (d:=⟨5,18,Mr⟩) rfl rfl ?_;show aL _ Mr [@(.ref p),@(tab ks ss ls R L),@(.fz (R.map bL)),@(aU N),@(aV T),none,none,none,none,none,none,none,none,none,none,none,none,none] m=_;rw[Mr,ai (Z1:=bX p (tab ks ss ls R L) R N T ss.length none none none none none none none none none none none none) (m1:=m) (aF (w:=iN ss.length) (by erw[EWs,wG,o.rl]) rfl),
  ai (Z1:=bX p (tab ks ss ls R L) R N T ss.length @(dm O) none none none none none none none none none none none) (m1:=m1) (aF (w:=dm O) (by erw[EWs,e6]) rfl),ai (aF (eL none) rfl)]
 erw[dX,dY,dZ,d7];rw[ai e7,ai (aF e9 rfl)];erw[dX,dY,dZ,d7];rw[ai (aF PZ rfl)];erw[dX,dY,dZ,d7];rw[ai (aF P1 rfl)];erw[dX,dY,dZ,d7];rw[ai (Z1:=bX p (tab ks ss ls R L) R N T ss.length @(dm O) @(dm Lt) none @(fC (mS ss O)) none @(.fz ((mR R O Lt).map bL)) @(tab ks (mS ss O) ls (mR R O Lt) (mN L O)) @(.ref m2.length) none none none none) (m1:=m2++[.lst []]) (aF (w:=.ref m2.length) (by erw[EVs,new,RS];rw[Qs (RC _)]) rfl),ai hf,aQ (aR (w:=.bl true) (m1:=m2++[D.O.lst ((T.map (lP O Lt)).map tW)]) ?_)];have r1:=qM (n:=n) (m:=m2++[D.O.lst ((T.map (lP O Lt)).map tW)]) (a:=.var 12) (Z:=bX p (tab ks ss ls R L) R N T ss.length @(dm O) @(dm Lt) o8 @(fC (mS ss O)) yo @(.fz ((mR R O Lt).map bL)) @(tab ks (mS ss O) ls (mR R O Lt) (mN L O)) @(.ref m2.length) IE IF yy yz) o' h' hl' c3 (by erw[EWs]) (eN c3 rfl (λ x=>by erw[br,dX,dY,dZ,d7]) (λ x=>by erw[br,dX,dY,dZ,d7]));rw[lS] at r1;have r2:ao (Cn pg (n+1+1+1+1)) (.frz (.blt .sorted %[|@13])) (bX p (tab ks ss ls R L) R N T ss.length @(dm O) @(dm Lt) o8 @(fC (mS ss O)) yo @(.fz ((mR R O Lt).map bL)) @(tab ks (mS ss O) ls (mR R O Lt) (mN L O)) @(.ref m2.length) IE IF yy yz) (m2++[D.O.lst ((T.map (lP O Lt)).map tW)])=.ok (aV (rcs (mR R O Lt) (mN N O) ss.length (2^ks.length))) (m2++[D.O.lst ((T.map (lP O Lt)).map tW)]):=by
  refine bG (m0:=m2++[D.O.lst ((T.map (lP O Lt)).map tW)]) ?_ rfl c3 (eH _);have hg:getL (m2++[D.O.lst ((T.map (lP O Lt)).map tW)]) (.ref m2.length)=some ((T.map (lP O Lt)).map tW):=by simp[getL]
  erw[EWs,aZ,hg,Ls,new]
 rw[cV,r1];erw[aP];rw[r2];erw[aP,aD,Iv]
end
theorem IG{f:Nat}{es:Es}{m':Mem}(h:ao C (.call f es) Z m=.ok (.bl true) m'):bx C (.not (.call f es)) Z m=.ok false m':=by
 rw[cM,jb (bR _ _) h];rfl
theorem OF{a b:E}{m1 m2:Mem}(h1:bx C a Z m=.ok false m1)(h2:bx C b Z m1=.ok false m2):bx C (.or a b) Z m=.ok false m2:=by
 rw[gx,h1];erw[aP,Qv,QK,h2]
theorem II{ns:List Int}(hi:i < 100)(hm:Cm m){o2 o3 o4 o5 o6:Option W}:∃o2' o3' o4' o5' o6' m',aL (Cn pg (n+1+1+1+1+1)) wg [@(.fz (ns.map .int)),@(.int i),o2,o3,o4,o5,o6] m=.ok (.nx [@(.fz (ns.map .int)),@(.int i),o2',o3',o4',o5',o6']) m'/\Cm m':=by
 let⟨A,B,e2⟩:=NQ (n:=n+1+1+1) (m:=m) (ns:=ns) (k:=i) hi;have hp:iH (m++[gg A B]) m.length:=⟨A,B,by simp⟩;have hc:Cm (m++[gg A B]):=hm.push rfl;let⟨ks,ss,ls,R,L,m3,e3,p3,c3,ok⟩:=table (n:=n) hp hc;let⟨N,size,m4,e4,hN,hnd,s1,s4,hmem,p4,c4⟩:=tags (n:=n+1+1+1) (many:=ss.length) p3 c3 ok.s2 ok.s4;have Mu:aA size N:=⟨s1,s4,hmem,hnd,by rw[hN];exact ok.s4⟩;let⟨m5,e5,p5,c5⟩:=qN (n:=n) ok Mu hN p4 c4;let⟨m6,e6,p6,c6⟩:=tK (n:=n) ok Mu hN p5 c5;let⟨m7,e7,p7,c7⟩:=qO (n:=n) ok Mu hN p6 c6;have er:∀{M:Mem} {o6:Option W},Cm M->ao (Cn pg (n+1+1+1+1+1)) (.frz (.call 20 %[@3,|@5])) [some (.fz (ns.map .int)),some (.int i),some (.ref m.length),some (tab ks ss ls R L),some (.fz (R.map bL)),some (aU N),o6] M=.ok (aV (rcs R N ss.length (2^ks.length))) M:=λ {M o6} hM=>qM (n:=n+1) (a:=.var 3) (b:=.var 5) ok Mu hN hM (by erw[EWs]) (by erw[EWs]);refine⟨some (.ref m.length),@(tab ks ss ls R L),@(.fz (R.map bL)),@(aU N),@(aV (rcs R N ss.length (2^ks.length))),m7,?_,c7⟩;have eT:=fV (C:=Cn pg (n+1+1+1+1+1)) (w:=aV (rcs R N ss.length (2^ks.length))) (er c4 (o6:=o6)) rfl c4 (eH _);generalize rcs R N ss.length (2^ks.length)=T at *;have hT1:=OF (IG (C:=Cn pg (n+1+1+1+1+1)) (f:=40) (es:=.cons @2 %[@3,@4,@5,|@6]) (Z:=[@(.fz (ns.map .int)),@(.int i),@(.ref m.length),@(tab ks ss ls R L),@(.fz (R.map bL)),@(aU N),@(aV T)]) (m:=m4) (m':=m5) (by erw[EWs,e5])) (IG (f:=41) (es:=.cons @2 %[@3,@5,|@6]) (m':=m6) (by erw[EWs,e6]));have hq:bx (Cn pg (n+1+1+1+1+1)) (.cmp .NotEq (.frz (.call 20 %[@3,|@5])) @6) [@(.fz (ns.map .int)),@(.int i),@(.ref m.length),@(tab ks ss ls R L),@(.fz (R.map bL)),@(aU N),@(aV T)] m7=.ok false m7:=by
  rw[bH,er c7];erw[aP,aN,dX,dY,dZ,d7];exact ne_T
 have hT2:=OF (IG (C:=Cn pg (n+1+1+1+1+1)) (f:=42) (es:=.cons @2 %[@3,@4,@5,|@6]) (Z:=[@(.fz (ns.map .int)),@(.int i),@(.ref m.length),@(tab ks ss ls R L),@(.fz (R.map bL)),@(aU N),@(aV T)]) (m:=m6) (m':=m7) (by erw[EWs,e7])) hq;rw[wg,ai (Z1:=[@(.fz (ns.map .int)),@(.int i),@(.ref m.length),o3,o4,o5,o6]) (m1:=m++[gg A B]) (aF (w:=.ref m.length) (by erw[EWs,e2]) rfl),ai (Z1:=[@(.fz (ns.map .int)),@(.int i),@(.ref m.length),@(tab ks ss ls R L),@(.fz (R.map bL)),o5,o6]) (m1:=m3) ?_,ai (Z1:=[@(.fz (ns.map .int)),@(.int i),@(.ref m.length),@(tab ks ss ls R L),@(.fz (R.map bL)),@(aU N),o6]) (m1:=m4) (aF (w:=aU N) (by erw[EWs,wG,ok.rl,e4]) rfl),ai (aF eT rfl)]
 .erw[dX,dY,dZ,d7];rw[ai (by rw[gR hT1,ay]),ai (by rw[gR hT2,ay]),ay]
 .erw[fS,jL,gy,iP,gM,iD,gz,eB,gO,jk,gP,fB,iQ,gU,eO,EWs,e3];simp[gU,eO,aE,D.R.bind,aM]
theorem D5{ns:List Int}(hn:ns.length<=63):∃m',D.runN pg (n+1+1+1+1+1+1) 43 [.fz (ns.map .int)] []=.ok (.bl true) m':=by
 obtain⟨q,hq,hq4⟩:∃q:Nat,(if (if (4:Int) < ns.length then (4:Int) else ns.length)>1 then (if (4:Int) < ns.length then (4:Int) else ns.length) else 1)=q/\q<=4:=by
  refine⟨(if (if (4:Int) < ns.length then (4:Int) else ns.length)>1 then (if (4:Int) < ns.length then (4:Int) else ns.length) else 1).toNat,?_,?_⟩
  .split<;>split at *<;>omega
  .split<;>split at *<;>omega
 have EG:∀M,aZ .len [.fz (ns.map .int)] M=.ok (.int ns.length) M:=λ M=>by
  have:=bK (m:=M) (w:=.fz (ns.map .int)) (xs:=ns.map .int) rfl;rw[Qi] at this;exact this
 have hI:cC (Cn pg (n+1+1+1+1+1)) (.rng (.blt .max %[@(1),|.blt .min %[.blt .len %[|@0],|@(4)]])) [@(.fz (ns.map .int)),none,none,none,none,none,none] []=.ok (.rng 0 q) []:=jQ (by erw[EWs,EG];erw[aZ,aP,hq]) 'o';let⟨ρ',m',hf,o1,o2,o3,o4,o5,o6,rfl,hc⟩:=cR (C:=Cn pg (n+1+1+1+1+1)) (t:=.var 1) (b:=wg) hI (n:=q) rfl
  (λ i Z M=>∃o1 o2 o3 o4 o5 o6,Z=[@(.fz (ns.map .int)),o1,o2,o3,o4,o5,o6]/\Cm M) ⟨none,none,none,none,none,none,rfl,Cm.nil⟩ (λ i Z M hi=>by
   rintro⟨o1,o2,o3,o4,o5,o6,rfl,hc⟩;let⟨p2,p3,p4,p5,p6,M',e,hc'⟩:=II (n:=n) (m:=M) (ns:=ns) (i:=i) 'o' hc (o2:=o2) (o3:=o3) (o4:=o4) (o5:=o5) (o6:=o6);exact⟨.int (0+i),[@(.fz (ns.map .int)),@(.int i),o2,o3,o4,o5,o6],_,_,cg hi,by simp[aE],.inl e,_,_,_,_,_,_,rfl,hc'⟩)
  (fun Z M _=>bO 'o')
 refine⟨m',aT (d:=⟨1,7,Ms⟩) rfl rfl ?_⟩;show aL _ Ms [@(.fz (ns.map .int)),none,none,none,none,none,none] []=_;rw[Ms,ai hf,aQ (aR (w:=.bl true) (m1:=m') (by erw[EVs]))]
theorem yr:∀ns:List Int,ns.length<=63->∃m',D.runN pg 40 43 [.fz (ns.map .int)] []=.ok (.bl true) m':=λ ns hn=>D5 (n:=34) hn
end My
end
section
open PySem PySem.W PyProof.Rows My List
theorem PySem.Challenge.cw_relayholds_k67_whole_told_otherwise_holds : PySem.Challenge.rw_relayholds_k67_whole_told_otherwise.Holds := by
 refine PySem.W.holds_law My.OI λ said=>?_
 refine PySem.W.holds_open (q:=My.qv) (loose:=[]) (Xt:=λ s=>PySem.W.xlAt My.qv [] s&&PySem.W.recOk (PySem.W.RowW.records (PySem.W.OpenRow.toRowW (PySem.W.OpenLaw.row PySem.Challenge.rw_relayholds_k67_whole_told_otherwise))) s) (XP:=PySem.W.XL My.qv []) (Yf:=(PySem.W.kHook kk ka (λ _=>by kernel_rfl)).obs) (Ya:=(PySem.W.kHook kk ka (λ _=>by kernel_rfl)).val) (YP:=(PySem.W.kHook kk ka (λ _=>by kernel_rfl)).says) (N:=4600) My.hdl (PySem.W.kHook kk ka (λ _=>by kernel_rfl)).of (PySem.W.kHook kk ka (λ _=>by kernel_rfl)).keeps (λ s e=>PySem.W.xl_of s (Bool.and_eq_true_iff.mp e).1) PySem.W.XL.keeps (by rfl) (by rfl) (by rfl) (λ s e=>PySem.W.recFacts_of (Bool.and_eq_true_iff.mp e).2) (by rfl) (by first | assumption | decide +kernel) (by decide +kernel) ⟨rfl,rfl,rfl,rfl,rfl,by decide +kernel⟩ ?hw ?hc
 (case hw=>w_witness2)
 k_fill
 refine D.Ax (l:=PySem.Challenge.rw_relayholds_k67_whole_told_otherwise) (p:=My.pg) (i:=43) (x:="_law_script") rfl rfl (λ w h Y=>PySem.W.kIn_of Y) ?F My.yr
 case F=>
  intro w mg fa h KX G hmg
  exact D.KW (t:=My.tf 53) KX G hmg My.stat rfl rfl (by kernel_rfl) (by kernel_rfl) (by kernel_rfl) (by kernel_rfl)
end
end
