import PyProof.Rows.All
import Wide.All
import OpenK.AllK
import Wide.FinOn
import Lean
import PyProof.EqAt
import PyProof.EqKinds
import PyProof.TupleCall
import PySem.Challenge.RW_relayholds_k13_whole_texts_there_and_bac
set_option genSizeOfSpec false
set_option genSizeOf false
set_option Elab.async false
set_option linter.all false
set_option maxRecDepth 1000000
set_option maxHeartbeats 4000000
noncomputable section
namespace My
open PySem List
noncomputable def top (i:Nat):Stmt:=PySem.Challenge.pw_relayholds_k13_whole_texts_there_and_bac.main.body.getD i (.Pass ⟨0,0,0,0⟩)
noncomputable abbrev VS (x:Str) (t:Tok):Value:=.str x t
noncomputable abbrev VI (x:Int) (t:Tok):Value:=.int x t
noncomputable abbrev VR (x:Addr):Value:=.ref x
noncomputable abbrev VN:Value:=.none
noncomputable abbrev VT (x:String):Value:=.type x
noncomputable abbrev VB (x:String):Value:=.builtin x
noncomputable abbrev KE (P:Params) (x:Str) (t:Tok) (v:Value):DictEntry:=⟨PyData.keyHash P x,.str x t,v⟩
noncomputable abbrev hI (i j:Nat):Stmt:=match top i with
 | .ClassDef _ _ _ b _ _ _ _ _ _ _=>b.getD j (top i)
 | s=>s
noncomputable abbrev L4 (st:Stmt) (q:Str) (g:Addr) (L5:List (Str×Addr)) (de kw doc md:Value) (an:Option Addr) (code ct:Value) (bl:Addr):Data:=match st with
 | .FunctionDef nm ar body _ _ _ sc _ _ _=>.func ⟨nm,q,ar,.stmts body,sc,g,L5,de,kw,doc,md,an,code,ct,bl⟩
 | _=>.plain
noncomputable abbrev hf (t:Tok):Value:=VS "/claim/cut.py" t
noncomputable abbrev hO (A:Addr) (n q:Str) (t ln na r u v:Nat) (x y z:Value):Addr×Obj:=(A,⟨VT "code",none,.fields #[VS n t,VS q (t+1),hf (t+2),VI ln 0,VI na 0,VI 0 0,VI 0 0,VI 3 0,VR r,.bool true,VI 181 0,VR (r+1),VN,x,y,z,VI u 0,VI ln 0,hf v],#[]⟩)
noncomputable abbrev hC (A:Addr) (n q:Str) (t ln na r u v:Nat):Addr×Obj:=hO A n q t ln na r u v (VR (r+2)) (VR (r+3)) (VR (r+4))
noncomputable abbrev hc (A:Addr) (n q:Str) (t ln na r u v:Nat):Addr×Obj:=hO A n q t ln na r u v VN VN (VR (r+2))
noncomputable abbrev hF (A:Addr) (st:Stmt) (q:Str) (md:Value) (c:Addr):Addr×Obj:=(A,⟨VT "function",none,L4 st q 3 [] VN VN VN md none (VR c) VN 0,#[]⟩)
noncomputable abbrev kB:Value:=VS "relayholds.nets" 248
noncomputable abbrev tK:Value:=VS "law_relayholds_k13_whole_texts_there_and_bac" 565
noncomputable abbrev yU:Value:=VS "relayholds.nettexts" 495
noncomputable def kk:Params->PySem.W.Frag:=λ P=>[(2,⟨VN,none,(.dict #[] 0),#[]⟩),
 (3,⟨(VT "dict"),none,(.dict #[KE P "__name__" 165 tK,KE P "__doc__" 166 VN,KE P "__package__" 167 VN,KE P "__loader__" 168 (VB "__main__.__loader__#opaque"),KE P "__spec__" 169 VN,KE P "__annotations__" 170 (VR 6),KE P "__builtins__" 171 (VR 4),KE P "__file__" 173 (VS "/claim/cut.py" 172),KE P "__cached__" 174 VN,KE P "RelayError" 206 (VR 24),KE P "NoNet" 231 (VR 44),KE P "NoText" 247 (VR 56),KE P "MOST_SIGNS" 251 (VI 8 250),KE P "MOST_KEYS" 253 (VI 2 252),KE P "MOST_RELAYS" 255 (VI 4 254),KE P "MOST_LAMPS" 257 (VI 2 256),KE P "LEAST_NODES" 259 (VI 2 258),KE P "MOST_NODES" 261 (VI 640 260),KE P "MOST_PIECES" 263 (VI 800 262),KE P "LEAST_TIME" 265 (VI 1 264),KE P "MOST_TIME" 267 (VI 4 266),KE P "MANY_ENDS" 286 (VR 59),KE P "Net" 367 (VR 118),KE P "check_net" 379 (VR 129),KE P "check_words" 389 (VR 136),KE P "first_wrong_word" 399 (VR 143),KE P "is_word" 405 (VR 148),KE P "check_many" 418 (VR 155),KE P "check_sizes" 426 (VR 162),KE P "check_pieces" 441 (VR 169),KE P "is_piece" 452 (VR 176),KE P "ends_of" 459 (VR 183),KE P "are_unlike_nodes" 465 (VR 188),KE P "is_whole" 472 (VR 195),KE P "check_just_one" 478 (VR 200),KE P "check_times" 488 (VR 207),KE P "are_times" 494 (VR 212),KE P "FIGURES" 498 (VS "0123456789" 497),KE P "MOST_FIGURES" 500 (VI 12 499),KE P "show_net" 506 (VR 217),KE P "show_row" 512 (VR 222),KE P "read_net" 518 (VR 227),KE P "split_rows" 524 (VR 232),KE P "count_relay_rows" 532 (VR 239),KE P "read_relay" 538 (VR 244),KE P "read_nodes" 545 (VR 251),KE P "read_piece" 551 (VR 256),KE P "read_number" 558 (VR 263),KE P "is_number" 564 (VR 268),KE P "_law_pot" 575 (VR 275),KE P "_law_take" 584 (VR 282),KE P "_law_word" 590 (VR 287),KE P "_law_unlike" 596 (VR 292),KE P "_law_piece" 607 (VR 299),KE P "_law_times" 616 (VR 306),KE P "_law_net" 622 (VR 311),KE P "_law_copy" 635 (VR 318),KE P "_law_made" 642 (VR 325),KE P "_law_told" 649 (VR 332),KE P "_law_text" 655 (VR 337),KE P "law" 670 (VR 344)] 61),#[]⟩),
 (59,⟨(VT "dict"),none,(.dict #[KE P "wire" 268 (VI 2 269),KE P "made" 270 (VI 2 271),KE P "broken" 272 (VI 2 273),KE P "swap" 274 (VI 3 275),KE P "coil" 276 (VI 2 277),KE P "lamp" 278 (VI 2 279)] 6),#[]⟩),
 hC 72 "__init__" "Net.__init__" 299 23 7 67 309 310,
 hF 73 (hI 15 0) "Net.__init__" kB 72,
 hC 79 "key_words" "Net.key_words" 312 32 1 74 316 317,
 hF 80 (hI 15 1) "Net.key_words" kB 79,
 hC 86 "relays" "Net.relays" 319 35 1 81 323 324,
 hF 87 (hI 15 2) "Net.relays" kB 86,
 hC 93 "lamps" "Net.lamps" 326 38 1 88 330 331,
 hF 94 (hI 15 3) "Net.lamps" kB 93,
 hC 100 "nodes" "Net.nodes" 333 41 1 95 337 338,
 hF 101 (hI 15 4) "Net.nodes" kB 100,
 hC 107 "pieces" "Net.pieces" 340 44 1 102 344 345,
 hF 108 (hI 15 5) "Net.pieces" kB 107,
 hC 114 "times" "Net.times" 347 47 1 109 351 352,
 hF 115 (hI 15 6) "Net.times" kB 114,
 (117,⟨(VT "dict"),none,(.dict #[KE P "__module__" 294 kB,KE P "__firstlineno__" 298 (VI 21 297),KE P "__init__" 311 (VR 73),KE P "key_words" 318 (VR 80),KE P "relays" 325 (VR 87),KE P "lamps" 332 (VR 94),KE P "nodes" 339 (VR 101),KE P "pieces" 346 (VR 108),KE P "times" 353 (VR 115),KE P "__static_attributes__" 360 (VR 116),KE P "__dict__" 362 (VR 119),KE P "__weakref__" 364 (VR 120),KE P "__doc__" 365 VN] 4),#[]⟩),
 (118,⟨(VT "type"),none,(.cls {name:="Net",bases:=[.type "object"],mro:=[.ref 118,.type "object"],ns:=117,qualname:="Net"}),#[none,none,(some (VS "Net" 287)),(some (VS "Net" 295)),(some (VB "object.__new__")),(some (.bool true))]⟩),
 hC 128 "check_net" "check_net" 368 49 6 123 377 378,
 hF 129 (top 16) "check_net" kB 128,
 hC 135 "check_words" "check_words" 380 57 3 130 387 388,
 hF 136 (top 17) "check_words" kB 135,
 hC 142 "first_wrong_word" "first_wrong_word" 390 61 1 137 397 398,
 hF 143 (top 18) "first_wrong_word" kB 142,
 hc 147 "is_word" "is_word" 400 68 1 144 403 404,
 hF 148 (top 19) "is_word" kB 147,
 hC 154 "check_many" "check_many" 406 70 3 149 416 417,
 hF 155 (top 20) "check_many" kB 154,
 hC 161 "check_sizes" "check_sizes" 419 75 2 156 424 425,
 hF 162 (top 21) "check_sizes" kB 161,
 hC 168 "check_pieces" "check_pieces" 427 80 5 163 439 440,
 hF 169 (top 22) "check_pieces" kB 168,
 hC 175 "is_piece" "is_piece" 442 86 3 170 450 451,
 hF 176 (top 23) "is_piece" kB 175,
 hC 182 "ends_of" "ends_of" 453 94 1 177 457 458,
 hF 183 (top 24) "ends_of" kB 182,
 hc 187 "are_unlike_nodes" "are_unlike_nodes" 460 96 2 184 463 464,
 hF 188 (top 25) "are_unlike_nodes" kB 187,
 hC 194 "is_whole" "is_whole" 466 98 1 189 470 471,
 hF 195 (top 26) "is_whole" kB 194,
 hc 199 "check_just_one" "check_just_one" 473 100 3 196 476 477,
 hF 200 (top 27) "check_just_one" kB 199,
 hC 206 "check_times" "check_times" 479 105 2 201 486 487,
 hF 207 (top 28) "check_times" kB 206,
 hc 211 "are_times" "are_times" 489 111 1 208 492 493,
 hF 212 (top 29) "are_times" kB 211,
 hc 216 "show_net" "show_net" 501 118 1 213 504 505,
 hF 217 (top 33) "show_net" yU 216,
 hc 221 "show_row" "show_row" 507 127 1 218 510 511,
 hF 222 (top 34) "show_row" yU 221,
 hc 226 "read_net" "read_net" 513 129 1 223 516 517,
 hF 227 (top 35) "read_net" yU 226,
 hc 231 "split_rows" "split_rows" 519 146 1 228 522 523,
 hF 232 (top 36) "split_rows" yU 231,
 hC 238 "count_relay_rows" "count_relay_rows" 525 150 1 233 530 531,
 hF 239 (top 37) "count_relay_rows" yU 238,
 hc 243 "read_relay" "read_relay" 533 155 1 240 536 537,
 hF 244 (top 38) "read_relay" yU 243,
 hC 250 "read_nodes" "read_nodes" 539 159 1 245 543 544,
 hF 251 (top 39) "read_nodes" yU 250,
 hc 255 "read_piece" "read_piece" 546 163 1 252 549 550,
 hF 256 (top 40) "read_piece" yU 255,
 hC 262 "read_number" "read_number" 552 165 1 257 556 557,
 hF 263 (top 41) "read_number" yU 262,
 hc 267 "is_number" "is_number" 559 169 1 264 562 563,
 hF 268 (top 42) "is_number" yU 267,
 hC 274 "_law_pot" "_law_pot" 567 174 2 269 573 574,
 hF 275 (top 44) "_law_pot" tK 274,
 hC 281 "_law_take" "_law_take" 576 179 2 276 582 583,
 hF 282 (top 45) "_law_take" tK 281,
 hc 286 "_law_word" "_law_word" 585 185 2 283 588 589,
 hF 287 (top 46) "_law_word" tK 286,
 hc 291 "_law_unlike" "_law_unlike" 591 197 3 288 594 595,
 hF 292 (top 47) "_law_unlike" tK 291,
 hC 298 "_law_piece" "_law_piece" 597 200 3 293 605 606,
 hF 299 (top 48) "_law_piece" tK 298,
 hC 305 "_law_times" "_law_times" 608 208 1 300 614 615,
 hF 306 (top 49) "_law_times" tK 305,
 hc 310 "_law_net" "_law_net" 617 211 2 307 620 621,
 hF 311 (top 50) "_law_net" tK 310,
 hC 317 "_law_copy" "_law_copy" 623 223 1 312 633 634,
 hF 318 (top 51) "_law_copy" tK 317,
 hC 324 "_law_made" "_law_made" 636 226 1 319 640 641,
 hF 325 (top 52) "_law_made" tK 324,
 hC 331 "_law_told" "_law_told" 643 228 1 326 647 648,
 hF 332 (top 53) "_law_told" tK 331,
 hc 336 "_law_text" "_law_text" 650 230 1 333 653 654,
 hF 337 (top 54) "_law_text" tK 336,
 hC 343 "law" "law" 656 239 1 338 668 669,
 hF 344 (top 55) "law" tK 343]
noncomputable def ka:List Addr:=[2,3,59,72,73,79,80,86,87,93,94,100,101,107,108,114,115,117,118,128,129,135,136,142,143,147,148,154,155,161,162,168,169,175,176,182,183,187,188,194,195,199,200,206,207,211,212,216,217,221,222,226,227,231,232,238,239,243,244,250,251,255,256,262,263,267,268,274,275,281,282,286,287,291,292,298,299,305,306,310,311,317,318,324,325,331,332,336,337,343,344]
noncomputable def qv:Program:=PySem.W.view PySem.Challenge.pw_relayholds_k13_whole_texts_there_and_bac [1,2,3,5,6,7,8,9,10,11,12,13,14,15,16,17,18,19,20,21,22,23,24,25,26,27,28,29,31,32,33,34,35,36,37,38,39,40,41,42,44,45,46,47,48,49,50,51,52,53,54,55]
theorem JE (w:PySem.World):Option.map (λ s=>(PySem.W.openSeen qv ["MANY_ENDS"] (PySem.importedModules (PySem.W.OpenLaw.row PySem.Challenge.rw_relayholds_k13_whole_texts_there_and_bac).prog.main.body) (λ s=>PySem.W.xlAt qv [] s&&PySem.W.recOk (PySem.W.RowW.records (PySem.W.OpenRow.toRowW (PySem.W.OpenLaw.row PySem.Challenge.rw_relayholds_k13_whole_texts_there_and_bac))) s) true s,(PySem.W.kHook kk ka (λ _=>by kernel_rfl)).obs s)) (PySem.W.openEnds PySem.treeTable (PySem.W.OpenLaw.row PySem.Challenge.rw_relayholds_k13_whole_texts_there_and_bac).prog (w.withFollow "special-get-raises" false) 4834)=some (PySem.W.openGood qv ["MANY_ENDS"],(PySem.W.kHook kk ka (λ _=>by kernel_rfl)).val (w.withFollow "special-get-raises" false)):=by kernel_rfl
theorem JF (w:PySem.World):Option.map (λ s=>(PySem.W.openSeen qv ["MANY_ENDS"] (PySem.importedModules (PySem.W.OpenLaw.row PySem.Challenge.rw_relayholds_k13_whole_texts_there_and_bac).prog.main.body) (λ s=>PySem.W.xlAt qv [] s&&PySem.W.recOk (PySem.W.RowW.records (PySem.W.OpenRow.toRowW (PySem.W.OpenLaw.row PySem.Challenge.rw_relayholds_k13_whole_texts_there_and_bac))) s) true s,(PySem.W.kHook kk ka (λ _=>by kernel_rfl)).obs s)) (PySem.W.openEnds PySem.treeTable (PySem.W.OpenLaw.row PySem.Challenge.rw_relayholds_k13_whole_texts_there_and_bac).prog (w.withFollow "special-get-raises" true) 4834)=some (PySem.W.openGood qv ["MANY_ENDS"],(PySem.W.kHook kk ka (λ _=>by kernel_rfl)).val (w.withFollow "special-get-raises" true)):=by kernel_rfl
theorem hdl:PySem.W.LeftO (PySem.W.OpenLaw.row PySem.Challenge.rw_relayholds_k13_whole_texts_there_and_bac).prog qv ["MANY_ENDS"] (λ s=>PySem.W.xlAt qv [] s&&PySem.W.recOk (PySem.W.RowW.records (PySem.W.OpenRow.toRowW (PySem.W.OpenLaw.row PySem.Challenge.rw_relayholds_k13_whole_texts_there_and_bac))) s) (PySem.W.kHook kk ka (λ _=>by kernel_rfl)).obs (PySem.W.kHook kk ka (λ _=>by kernel_rfl)).val 4834:=PySem.W.byRow2 "special-get-raises" JE JF
theorem L6:PySem.W.OpenLaw.wellSaid PySem.Challenge.rw_relayholds_k13_whole_texts_there_and_bac=true:=by kernel_rfl
end My
section
namespace L2
open PySem PySem.Spec PyProof.Rows List
abbrev Key:=Sum Int Str
noncomputable def jD:Key->Value->Bool
 | .inl k,v=>Value.isInt k v
 | .inr x,v=>Value.isStrOf x v
noncomputable def JG (w:World):Key->Int
 | .inl k=>hashInt k
 | .inr x=>hashStr w x
theorem bO:∀{k:Key} {v:Value},jD k v=true->(∃i t,k=Sum.inl i/\v=Value.int i t)\/(∃x t,k=Sum.inr x/\v=Value.str x t)
 | .inl i,v,h=>by
  obtain ⟨t,e⟩:=Value.isInt_shape (k:=i) (v:=v) h;exact .inl ⟨i,t,rfl,e⟩
 | .inr x,v,h=>by
  obtain ⟨t,e⟩:=Value.isStrOf_shape (x:=x) (v:=v) h;exact .inr ⟨x,t,rfl,e⟩
theorem kT (i:Int) (t:Tok):jD (.inl i) (.int i t)=true:=by simp [jD,Value.isInt]
theorem kU (x:Str) (t:Tok):jD (.inr x) (.str x t)=true:=by simp [jD,Value.isStrOf]
theorem Cg (a b:Int):decide ((Sum.inl a:Key)=Sum.inl b)=(a==b):=by
 by_cases e:a=b
 ·subst e; simp
 ·have h:¬(Sum.inl a:Key)=Sum.inl b:=λ q=>e (Sum.inl.inj q);rw [decide_eq_false h];exact (beq_eq_false_iff_ne.mpr e).symm
theorem Cj (a b:Str):decide ((Sum.inr a:Key)=Sum.inr b)=decide (a=b):=by
 by_cases e:a=b
 ·subst e; simp
 ·have h:¬(Sum.inr a:Key)=Sum.inr b:=λ q=>e (Sum.inr.inj q);rw [decide_eq_false h,decide_eq_false e]
theorem Ck (a:Int) (b:Str):decide ((Sum.inl a:Key)=Sum.inr b)=false:=decide_eq_false (λ q=>nomatch q)
theorem Co (a:Str) (b:Int):decide ((Sum.inr a:Key)=Sum.inl b)=false:=decide_eq_false (λ q=>nomatch q)
noncomputable def bC (prog:Program) (w:World):PySem.KeyKind prog w Key where
 is:=jD
 hash:=JG w
 inj:=λ v a b ha hb=>by
  rcases bO ha with ⟨i,t,rfl,rfl⟩ | ⟨x,t,rfl,rfl⟩
  ·rcases bO hb with ⟨j,u,rfl,e⟩ | ⟨y,u,rfl,e⟩
   ·injection e with e1 _; rw [e1]
   ·exact nomatch e
  ·rcases bO hb with ⟨j,u,rfl,e⟩ | ⟨y,u,rfl,e⟩
   ·exact nomatch e
   ·injection e with e1 _; rw [e1]
 byValue:=λ k v h=>by
  rcases bO h with ⟨i,t,rfl,rfl⟩ | ⟨x,t,rfl,rfl⟩<;>rfl
 pyHash:=λ hv h=>by
  rcases bO hv with ⟨i,t,rfl,rfl⟩ | ⟨x,t,rfl,rfl⟩
  ·exact wpAny_pyHash_int h
  ·exact wpAny_pyHash_str h
 eqBool:=λ hu hv h=>by
  rcases bO hu with ⟨i,t,rfl,rfl⟩ | ⟨x,t,rfl,rfl⟩
  ·rcases bO hv with ⟨j,u,rfl,rfl⟩ | ⟨y,u,rfl,rfl⟩
   ·rw [Cg] at h; exact wpAny_eqBool_int h
   ·rw [Ck] at h; exact SeqAt.EqAt.int_str i t y u _ _ _ _ h
  ·rcases bO hv with ⟨j,u,rfl,rfl⟩ | ⟨y,u,rfl,rfl⟩
   ·rw [Co] at h; exact SeqAt.EqAt.str_int x t j u _ _ _ _ h
   ·rw [Cj] at h; exact wpAny_eqBool_str h
 «strs»:=λ k x t v h=>by
  rcases bO h with ⟨i,u,rfl,e⟩ | ⟨y,u,rfl,e⟩
  ·exact nomatch e
  ·injection e with e1 _
   subst e1;cases v<;>rfl
theorem nK (prog:Program) (w:World) (i:Int) (t:Tok):(bC prog w).is (.inl i) (.int i t)=true:=kT i t
theorem nL (prog:Program) (w:World) (x:Str) (t:Tok):(bC prog w).is (.inr x) (.str x t)=true:=kU x t
end L2
namespace L2
open PySem PySem.Spec PyProof.Rows List
variable {H:Hp} {b:Addr} {h:Heap} {o:HO}
inductive V where
 | non | bl (b:Bool) | int (i:Int) | str (x:Str) | byt (b:Array UInt8) | flt (b:UInt64) | ref (a:Addr) | ty (n:String)
 deriving DecidableEq
noncomputable def RelV:V->Value->Prop
 | .non,u=>u=Value.none
 | .bl b,u=>u=Value.bool b
 | .int i,u=>∃t,u=Value.int i t
 | .str x,u=>∃t,u=Value.str x t
 | .byt b,u=>∃t,u=Value.bytes b t
 | .flt b,u=>∃t,u=Value.float b t
 | .ref a,u=>u=Value.ref a
 | .ty n,u=>u=Value.type n
abbrev Vals:List V->List Value->Prop:=Paired RelV
theorem Vals.length {xs:List V} {us:List Value} (r:Vals xs us):xs.length=us.length:=Paired.length r
theorem Vals.get:∀{xs:List V} {us:List Value} {i:Nat} {x:V},Vals xs us->xs[i]?=some x->∃u,us[i]?=some u/\RelV x u
 | _,_,_,_,.nil,e=>by simp at e
 | _,_,0,_,.cons r _,e=>by simp at e; subst e; exact ⟨_,rfl,r⟩
 | _,_,i+1,x,.cons _ t,e=>by
  obtain ⟨u,h1,h2⟩:=Vals.get (i:=i) (x:=x) t (by simpa using e);exact ⟨u,by simpa using h1,h2⟩
theorem Vals.set {x:V} {u:Value} (r:RelV x u):∀{xs:List V} {us:List Value} (i:Nat),Vals xs us->Vals (xs.set i x) (us.set i u)
 | _,_,_,.nil=>.nil
 | _,_,0,.cons _ t=>.cons r t
 | _,_,i+1,.cons q t=>.cons q (Vals.set r i t)
theorem Vals.append:∀{xs ys:List V} {us ws:List Value},Vals xs us->Vals ys ws->Vals (xs++ys) (us++ws)
 | _,_,_,_,.nil,s=>s
 | _,_,_,_,.cons r t,s=>.cons r (Vals.append t s)
theorem Vals.take:∀{xs:List V} {us:List Value} (n:Nat),Vals xs us->Vals (xs.take n) (us.take n)
 | _,_,0,_=>.nil
 | _,_,_+1,.nil=>.nil
 | _,_,n+1,.cons r t=>.cons r (Vals.take n t)
theorem Vals.drop:∀{xs:List V} {us:List Value} (n:Nat),Vals xs us->Vals (xs.drop n) (us.drop n)
 | _,_,0,r=>r
 | _,_,_+1,.nil=>.nil
 | _,_,n+1,.cons _ t=>Vals.drop n t
noncomputable def eL:Option V->Option Value->Prop
 | some v,some u=>RelV v u
 | none,none=>True
 | _,_=>False
noncomputable def KV {κ:Type}:List (κ×V)->List (κ×Value)->Prop:=Paired λ (p:κ×V) (q:κ×Value)=>p.1=q.1/\RelV p.2 q.2
noncomputable def kV:Key->V
 | .inl i=>.int i
 | .inr x=>.str x
inductive HO where
 | lst (xs:List V)
 | tup (xs:List V)
 | dK (kvs:List (Key×V)) | dT (kvs:List (List Key×V))
 | set (S:Int->Bool) (n:Nat)
 | ins (C dx:Addr) (fs:List (Str×V))
 | own (x:Addr)
 | xd (fs:List (Str×V))
 | met (f x:Addr)
 | rng (lo hi:Int)
 | frz (o:Obj) (u:HO)
 | tbl (ps:Array Value)
 | ext (φ:Heap->Prop)
abbrev Hp:=Addr->Option HO
noncomputable def upd (H:Hp) (a:Addr) (o:HO):Hp:=λ b=>if b=a then some o else H b
theorem aG {a:Addr}:upd H a o a=some o:=by unfold upd; rw [if_pos rfl]
theorem av {a:Addr} (h:b≠a):upd H a o b=H b:=by unfold upd; rw [if_neg h]
theorem aB {a:Addr} (h:H a=some o) (h':H b=none):a≠b:=by
 intro e; subst e; rw [h] at h'; cases h'
section
variable (P:Program) (w:World)
noncomputable def bF (H:Hp) (h:Heap) (a:Addr):HO->Prop
 | .lst xs=>xs.length<=sizeLine/\∃(its:List Value) (n:Nat),Vals xs its/\h.get? a=some {cls:=.type "list",data:=.seq its.toArray n}
 | .tup xs=>xs.length<=sizeLine/\∃its:List Value,Vals xs its/\IsTup h a its.toArray
 | .dK kvs=>kvs.length<=sizeLine/\(a==sysModules)=false/\∃vs,KV kvs vs/\h.DictOf (bC P w) a vs
 | .dT kvs=>kvs.length<=sizeLine/\(a==sysModules)=false/\∃xs:List (List Key×Addr×Value),
   Paired (λ (p:List Key×V) (q:List Key×Addr×Value)=>p.1=q.1/\H q.2.1=some (.tup (p.1.map kV))/\RelV p.2 q.2.2) kvs xs/\
   ∃o es ep,h.get? a=some o/\o.ExactDict/\o.data=.dict es ep/\es.toList=xs.map (entryOfKey (tupleKind (bC P w)))/\(xs.map (·.1)).Nodup
 | .set S n=>h.SetOf (intKind P w) a S n
 | .ins C dx fs=>H dx=some (.own a)/\fs.length<=1000/\dx≠a/\h.get? a=some (PySem.W.instObj C dx)/\
   ∃mA,h.Ns1 dx mA/\(∀f,eL (fs.lookup f) (mA f))/\PySem.Within mA (fs.map (·.1))
 | .own _=>∃o,h.get? a=some o
 | .xd fs=>∃mA,h.Ns1 a mA/\∀f,eL (fs.lookup f) (mA f)
 | .rng lo hi=>∃t u v,h.get? a=some {cls:=.type "range",data:=.fields #[.int lo t,.int hi u,.int 1 v]}
 | .frz o u=>h.get? a=some o/\bF H h a u
 | .tbl ps=>h.get? a=some {cls:=.none,data:=.fields ps}
 | .met f x=>h.get? a=some (PySem.W.methodObj (.ref f) (.ref x))
 | .ext φ=>φ h/\(∃o,h.get? a=some o)/\∀h1 h2:Heap,φ h1->(∀o,h1.get? a=some o->h2.get? a=some o)->φ h2
def fG (H:Hp) (h:Heap):Prop:=∀a o,H a=some o->bF P w H h a o
end
section
variable {P:Program} {w:World} {H H':Hp} {h h':Heap} {a:Addr} {o:HO}
theorem bF.lt (x:bF P w H h a o):a < h.objs.size:=by
 cases o with
 | lst xs=>obtain ⟨_,_,_,_,e⟩:=x; exact Heap.lt_size e
 | tup xs=>obtain ⟨_,_,_,p⟩:=x; exact p.lt
 | dK kvs=>obtain ⟨_,_,_,_,o,_,_,e,_⟩:=x; exact Heap.lt_size e
 | dT kvs=>obtain ⟨_,_,_,_,o,_,_,e,_⟩:=x; exact Heap.lt_size e
 | set S n=>obtain ⟨o,_,_,_,e,_⟩:=x; exact Heap.lt_size e
 | ins C dx fs=>obtain ⟨_,_,_,e,_⟩:=x; exact Heap.lt_size e
 | own y=>obtain ⟨_,e⟩:=x; exact Heap.lt_size e
 | xd fs=>obtain ⟨_,⟨_,_,_,e,_⟩,_⟩:=x; exact Heap.lt_size e
 | rng lo hi=>obtain ⟨_,_,_,e⟩:=x; exact Heap.lt_size e
 | frz ob u=>obtain ⟨e,_⟩:=x; exact Heap.lt_size e
 | tbl ps=>exact Heap.lt_size (show h.get? a=some _ from x)
 | met f y=>exact Heap.lt_size (show h.get? a=some _ from x)
 | ext φ=>obtain ⟨_,⟨_,e⟩,_⟩:=x; exact Heap.lt_size e
theorem Paired.Fx {α β:Type} {F G:α->β->Prop}:∀{l₁:List α} {l₂:List β},Paired F l₁ l₂->(∀a b,F a b->G a b)->Paired G l₁ l₂
 | _,_,.nil,_=>.nil
 | _,_,.cons r t,f=>.cons (f _ _ r) (Paired.Fx t f)
theorem bF.stay (x:bF P w H h a o) (k:∀b u,(b=a\/H b=some (.own a))->h.get? b=some u->h'.get? b=some u)
  (ho:∀b,H b=some (.own a)->H' b=some (.own a)) (ht:∀b xs,H b=some (.tup xs)->H' b=some (.tup xs)):bF P w H' h' a o:=by
 induction o with
 | lst xs=>obtain ⟨z,its,n,r,e⟩:=x; exact ⟨z,its,n,r,k _ _ (.inl rfl) e⟩
 | tup xs=>obtain ⟨z,its,r,ob,e,c⟩:=x; exact ⟨z,its,r,ob,k _ _ (.inl rfl) e,c⟩
 | dK kvs=>obtain ⟨z,y,vs,r,ob,es,ep,e,c⟩:=x; exact ⟨z,y,vs,r,ob,es,ep,k _ _ (.inl rfl) e,c⟩
 | dT kvs=>
  obtain ⟨z,y,xs,r,ob,es,ep,e,c⟩:=x;exact ⟨z,y,xs,Paired.Fx r λ p q z=>⟨z.1,ht _ _ z.2.1,z.2.2⟩,ob,es,ep,k _ _ (.inl rfl) e,c⟩
 | set S n=>obtain ⟨ob,es,ep,t,e,c⟩:=x; exact ⟨ob,es,ep,t,k _ _ (.inl rfl) e,c⟩
 | ins C dx fs=>
  obtain ⟨d,z,ne,e,mA,⟨od,es,ep,e2,c⟩,r⟩:=x;exact ⟨ho _ d,z,ne,k _ _ (.inl rfl) e,mA,⟨od,es,ep,k _ _ (.inr d) e2,c⟩,r⟩
 | own y=>obtain ⟨ob,e⟩:=x; exact ⟨ob,k _ _ (.inl rfl) e⟩
 | xd fs=>obtain ⟨mA,⟨od,es,ep,e,c⟩,r⟩:=x; exact ⟨mA,⟨od,es,ep,k _ _ (.inl rfl) e,c⟩,r⟩
 | rng lo hi=>obtain ⟨t,u,v,e⟩:=x; exact ⟨t,u,v,k _ _ (.inl rfl) e⟩
 | frz ob u ih=>obtain ⟨e,q⟩:=x; exact ⟨k _ _ (.inl rfl) e,ih q⟩
 | tbl ps=>
  have e:h.get? a=some {cls:=.none,data:=.fields ps}:=x;show h'.get? a=some {cls:=.none,data:=.fields ps};exact k a _ (.inl rfl) e
 | met f y=>
  have e:h.get? a=some (PySem.W.methodObj (.ref f) (.ref y)):=x;show h'.get? a=some (PySem.W.methodObj (.ref f) (.ref y));exact k a _ (.inl rfl) e
 | ext φ=>obtain ⟨p,⟨o,e⟩,st⟩:=x; exact ⟨st _ _ p λ o q=>k _ _ (.inl rfl) q,⟨o,k _ _ (.inl rfl) e⟩,st⟩
theorem fG.lt (x:fG P w H h) (e:H a=some o):a < h.objs.size:=(x a o e).lt
theorem fG.fresh (x:fG P w H h) (e:h.objs.size<=a):H a=none:=by
 cases q:H a with
 | none=>rfl
 | some u=>exact absurd (Nat.lt_of_lt_of_le (x.lt q) e) (Nat.lt_irrefl _)
theorem fG.kept (x:fG P w H h) (k:∀b u,h.get? b=some u->h'.get? b=some u):fG P w H h':=λ a o e=>
 (x a o e).stay (λ b u _ q=>k b u q) (λ _ q=>q) λ _ _ q=>q
theorem fG.laid (x:fG P w H h) (k:∀b u,h.get? b=some u->h'.get? b=some u) (hp:h.objs.size<=a) (new:bF P w (upd H a o) h' a o):fG P w (upd H a o) h':=λ b u e=>by
 have hn:=x.fresh hp
 by_cases hb:b=a
 ·subst hb; rw [aG] at e; cases e; exact new
 ·rw [av hb] at e;exact (x b u e).stay (λ c v _ q=>k c v q) (λ c q=>by rw [av (aB q hn)]; exact q) λ c xs q=>by rw [av (aB q hn)]; exact q
end
def Rd (H:Hp) (a:Addr) (u:HO):Prop:=H a=some u\/∃o,H a=some (.frz o u)
theorem Rd.ok {P:Program} {w:World} {a:Addr} {u:HO} (r:Rd H a u) (x:fG P w H h):bF P w H h a u:=by
 rcases r with r | ⟨o,r⟩
 ·exact x a u r
 ·obtain ⟨_,q⟩:=x a _ r;exact q
noncomputable def Fy:Option HO->Prop
 | some (.lst _)=>True
 | some (.dK _)=>True
 | some (.dT _)=>True
 | some (.set _ _)=>True
 | some (.ins _ _ _)=>True
 | some (.ext _)=>True
 | _=>False
section
variable {P:Program} {w:World} {H:Hp} {h h':Heap} {x e:Addr} {o':HO}
theorem fG.write (ok:fG P w H h) (mu:Fy (H x)) (he:e=x\/H e=some (.own x)) (k:∀b u,b≠e->h.get? b=some u->h'.get? b=some u) (Fc:∃u,h'.get? e=some u)
  (new:bF P w (upd H x o') h' x o'):fG P w (upd H x o') h':=λ b u q=>by
 have Fz:∀c y,H c=some (.own y)->c≠x:=λ c y r z=>by subst z; rw [r] at mu; exact mu
 have JH:∀c xs,H c=some (.tup xs)->c≠x:=λ c xs r z=>by subst z; rw [r] at mu; exact mu
 by_cases hb:b=x
 ·subst hb; rw [aG] at q; cases q; exact new
 ·rw [av hb] at q
  by_cases hbe:b=e
  ·have q':H b=some (.own x):=by
    rcases he with z | z
    ·exact absurd (hbe.trans z) hb
    ·rw [hbe]; exact z
   rw [q] at q'; cases q';obtain ⟨v,hv⟩:=Fc;exact ⟨v,by rw [hbe]; exact hv⟩
  ·refine (ok b u q).stay (λ c v hc r=>k c v ?_ r) (λ c r=>by rw [av (Fz c b r)]; exact r) λ c xs r=>by rw [av (JH c xs r)]; exact r
   rcases hc with rfl | hc
   ·exact hbe
   ·rintro rfl;rcases he with z | z
    ·exact Fz c b hc z
    ·rw [hc] at z; cases z; exact hb rfl
end
structure Un (fs ex:List Addr) (H H':Hp) (h h':Heap):Prop where
 keep:∀b o,h.get? b=some o->H b=none->b∉fs->b∉ex->h'.get? b=some o
 slot:∀b o,h.get? b=some o->H b=none->b∈fs->b∉ex->∃sl,h'.get? b=some {o with slots:=sl}
 free:∀b o,h.get? b=some o->H b=none->b∉ex->H' b=none
 there:∀b o,h.get? b=some o->b∉ex->∃o',h'.get? b=some o'
 tups:∀b xs,H b=some (.tup xs)->H' b=some (.tup xs)
 jh:∀b o u,H b=some (.frz o u)->H' b=some (.frz o u)
 jE:∀b ps,H b=some (.tbl ps)->∃more,H' b=some (.tbl (ps++more))
section
variable {fs fs' ex ex':List Addr} {H H1 H2:Hp} {h h1 h2 h':Heap} {a x e:Addr} {o:HO}
theorem Un.any (u:Un fs ex H H1 h h1) {ob:Obj} (q:h.get? b=some ob) (n:H b=none) (hx:b∉ex):∃sl,h1.get? b=some {ob with slots:=sl}:=by
 by_cases hb:b∈fs
 ·exact u.slot b ob q n hb hx
 ·exact ⟨ob.slots,u.keep b ob q n hb hx⟩
theorem Un.kept (k:∀b u,h.get? b=some u->h'.get? b=some u):Un fs ex H H h h':=
 ⟨λ b ob q _ _ _=>k b ob q,λ b ob q _ _ _=>⟨ob.slots,k b ob q⟩,λ _ _ _ n _=>n,λ b ob q _=>⟨ob,k b ob q⟩,λ _ _ q=>q,λ _ _ _ q=>q,λ _ ps q=>⟨#[],by rw [q]; simp⟩⟩
theorem Un.refl:Un fs ex H H h h:=Un.kept λ _ _ q=>q
theorem Un.laid (k:∀b u,h.get? b=some u->h'.get? b=some u) (hp:h.objs.size<=a) (hn:H a=none):Un fs ex H (upd H a o) h h' where
 keep:=λ b u q _ _ _=>k b u q
 slot:=λ b u q _ _ _=>⟨u.slots,k b u q⟩
 free:=λ b u q n _=>by rw [av (Nat.ne_of_lt (Nat.lt_of_lt_of_le (Heap.lt_size q) hp))]; exact n
 there:=λ b u q _=>⟨u,k b u q⟩
 tups:=λ b xs q=>by rw [av (aB q hn)]; exact q
 jh:=λ b u xs q=>by rw [av (aB q hn)]; exact q
 jE:=λ b ps q=>⟨#[],by rw [av (aB q hn),q]; simp⟩
theorem Un.write (mu:Fy (H x)) (he:e=x\/H e=some (.own x)) (k:∀b u,b≠e->h.get? b=some u->h'.get? b=some u) (Fc:∃u,h'.get? e=some u):Un fs ex H (upd H x o) h h':=by
 have hx:∀b,H b=none->b≠x:=λ b n z=>by subst z; rw [n] at mu; exact mu
 have hb:∀b,H b=none->b≠e:=λ b n z=>by
  subst z;rcases he with r | r
  ·exact hx b n r
  ·rw [n] at r; cases r
 have hm:∀b u,H b=some u->¬Fy (some u)->b≠x:=λ b u q nm z=>by subst z; rw [q] at mu; exact nm mu
 refine ⟨λ b u q n _ _=>k b u (hb b n) q,λ b u q n _ _=>⟨u.slots,k b u (hb b n) q⟩,λ b u q n _=>by rw [av (hx b n)]; exact n,λ b u q _=>?_,
  λ b xs q=>by rw [av (hm b _ q λ z=>z)]; exact q,λ b u xs q=>by rw [av (hm b _ q λ z=>z)]; exact q,λ b ps q=>⟨#[],by rw [av (hm b _ q λ z=>z),q]; simp⟩⟩
 by_cases hbe:b=e
 ·subst hbe; exact Fc
 ·exact ⟨u,k b u hbe q⟩
end
noncomputable def Ih (h:Heap) (H:Hp):List Addr:=(List.range h.objs.size).filter λ a=>(H a).isSome
noncomputable def lU (h:Heap) (H:Hp):Heap:=PySem.W.hideAll h (Ih h H)
theorem tL (h:Heap) (H:Hp):(lU h H).objs.size=h.objs.size:=PySem.W.hideAll_size _ _
theorem vc {o:Obj} (e:h.get? b=some o) (n:H b=none):(lU h H).get? b=some o:=
 PySem.W.hideAll_get _ e λ hm=>by
  have q:(H b).isSome=true:=(List.mem_filter.mp hm).2;rw [n] at q; simp at q
theorem yY {o:Obj} (e:(lU h H).get? b=some o):h.get? b=some o/\H b=none:=by
 have e':h.get? b=some o:=PySem.W.of_hideAll (Ih h H) e;refine ⟨e',?_⟩;cases q:H b with
 | none=>rfl
 | some x=>
  have hm:b∈Ih h H:=List.mem_filter.mpr ⟨List.mem_range.mpr (Heap.lt_size e'),by simp [q]⟩;have z:(lU h H).get? b=none:=PySem.W.hideAll_none (Ih h H) hm;rw [z] at e; cases e
end L2
namespace L2
open PySem PySem.Spec PyProof.Rows List
variable {M:Model} {ch:List Addr} {i t':Nat}
structure Mod (K:PySem.W.Frag) (mg:Str->Option Value) (base:Heap):Prop where
 kin:K.In base
 glob:base.Ns mainGlobals mg
 blt:∃mb,base.Ns builtinsNs mb/\∀x:Str,x≠"__name__"->mb x=bootBuiltins x
 nolimit:base.NoLimit
set_option genInjectivity false in
structure Cx where
 prog:Program
 w:World
 K:PySem.W.Frag
 mg:Str->Option Value
 base:Heap
 A:Around
 N:List Str
 s₀:Shared
 H₀:Hp
 env:Env
 outer:List Env
 stack:List Env
 ex:List Addr
 fn:Str->Bool
 calm:Bool
 pn:List (Addr×Obj)
 xe:Value->Shared->Prop
noncomputable def frs (l:List Env):List Addr:=l.filterMap (·.frame)
abbrev Cx.fs (X:Cx):List Addr:=frs X.outer
def FE (sc:Scope) (x:Str):Prop:=sc.names.lookup x=some .local\/sc.names.lookup x=some .cell\/sc.names.lookup x=some .free
def Loc (sc:Scope) (x:Str):Prop:=sc.names.lookup x=some .local\/sc.names.lookup x=some .cell
def Look (env:Env) (h:Heap) (m:Str->Option Value) (x:Str) (u:Value):Prop:=
 (env.kindOf x=some .local/\m x=some u)\/((env.kindOf x=some .cell\/env.kindOf x=some .free)/\∃c,env.cells.lookup x=some c/\h.IsCell c (some u))
structure Cx.Ok (X:Cx):Prop where
 mod:Mod X.K X.mg X.base
 kind:X.env.scope.kind=.function
 glob:X.env.globals=mainGlobals
 blt:X.env.builtins=builtinsNs
 above:X.s₀.heap.objs.size<=X.env.locals
 inj:∀x y c,X.env.cells.lookup x=some c->X.env.cells.lookup y=some c->x=y
 has:∀x,(X.env.kindOf x=some .cell\/X.env.kindOf x=some .free)->∃c,X.env.cells.lookup x=some c
 cab:∀x c,X.fn x=true->X.env.cells.lookup x=some c->X.s₀.heap.objs.size<=c
 hd:X.calm=true->X.A.handled=none
 frames:X.A.frames=some X.stack
 stk:X.stack=X.outer\/(X.stack=X.env::X.outer/\X.env.frame=some X.env.locals)
 exf:∀b∈X.ex,b≠X.env.locals/\∀x c,X.env.cells.lookup x=some c->c≠b
 bs:∀b o,X.base.get? b=some o->X.s₀.heap.get? b=some o/\X.H₀ b=none
 bsz:X.base.objs.size<=X.s₀.heap.objs.size
 noex:∀b o,X.base.get? b=some o->b∉X.ex
 exfs:∀b∈X.ex,b∉X.fs
 ji:X.s₀.heap.FunFrames X.base X.outer
 frf:∀b∈X.fs,X.H₀ b=none
structure Inv (X:Cx) (aa:List (Addr×Obj)) (σ:List (Option V)) (H:Hp) (s:Shared):Prop where
 ok:X.Ok
 os:s.os=X.s₀.os
 bare:AllBare s.gens
 base:Un X.fs X.ex X.H₀ H X.s₀.heap s.heap
 loc:∃m,s.heap.Ns X.env.locals m/\∀(i:Nat) (x:Str) (v:V),X.N[i]?=some x->σ[i]?=some (some v)->FE X.env.scope x->∃u,RelV v u/\Look X.env s.heap m x u
 cell:∀x c,X.env.cells.lookup x=some c->∃v,s.heap.IsCell c v
 free:H X.env.locals=none
 freeC:∀x c,X.env.cells.lookup x=some c->H c=none
 pin:∀p∈X.pn++aa,s.heap.get? p.1=some p.2/\H p.1=none/\p.1≠X.env.locals/\p.1∉X.fs/\∀v,p.2.data≠.cell v
 hok:fG X.prog X.w H s.heap
 len:σ.length=X.N.length
section
variable {X:Cx} {aa:List (Addr×Obj)} {σ:List (Option V)} {H H':Hp} {s:Shared} {h':Heap}
theorem Cx.Ok.JI (ok:X.Ok) {b:Addr} {o:Obj} (e:X.base.get? b=some o):b∉X.fs:=λ hb=>by
 have:=(ok.ji.mem hb).1;rw [e] at this; cases this
theorem Inv.bs (I:Inv X aa σ H s):∀b o,X.base.get? b=some o->s.heap.get? b=some o/\H b=none:=λ b o e=>
 ⟨I.base.keep b o (I.ok.bs b o e).1 (I.ok.bs b o e).2 (I.ok.JI e) (I.ok.noex b o e),I.base.free b o (I.ok.bs b o e).1 (I.ok.bs b o e).2 (I.ok.noex b o e)⟩
theorem Inv.bk (I:Inv X aa σ H s):∀b o,X.base.get? b=some o->s.heap.get? b=some o:=λ b o e=>(I.bs b o e).1
theorem Inv.mod (I:Inv X aa σ H s):Mod X.K X.mg X.base:=I.ok.mod
theorem Inv.gA (I:Inv X aa σ H s):X.K.In s.heap:=I.ok.mod.kin.keeps I.bk
theorem Inv.lt (I:Inv X aa σ H s):X.env.locals < s.heap.objs.size:=let ⟨_,hn,_⟩:=I.loc; hn.lt
theorem Inv.sz (I:Inv X aa σ H s):X.s₀.heap.objs.size<=s.heap.objs.size:=Nat.le_trans I.ok.above (Nat.le_of_lt I.lt)
theorem Inv.JJ (I:Inv X aa σ H s) {a:Addr} (h:s.heap.objs.size<=a):a∉X.fs:=λ hb=>by
 obtain ⟨_,o,ho,_⟩:=I.ok.ji.mem hb;exact absurd (Nat.lt_of_lt_of_le (Heap.lt_size ho) (Nat.le_trans I.sz h)) (Nat.lt_irrefl _)
theorem Inv.Cp (I:Inv X aa σ H s):∀x c,X.env.cells.lookup x=some c->c≠X.env.locals:=λ x c e z=>by
 obtain ⟨v,o,ho,hd⟩:=I.cell x c e;obtain ⟨m,⟨o',es,ep,ho',hd',_⟩,_⟩:=I.loc;rw [z,ho'] at ho; cases ho; rw [hd'] at hd; cases hd
theorem Inv.ji (I:Inv X aa σ H s):s.heap.FunFrames X.base X.outer:=by
 have all:∀(l:List Env),(∀b∈frs l,b∈X.fs)->X.s₀.heap.FunFrames X.base l->s.heap.FunFrames X.base l:=by
  intro l
  induction l with
  | nil=>intro _ _; trivial
  | cons env r ih=>
   intro hs hl;obtain ⟨hk,⟨L,o,hf,hn,ho,hd⟩,hr⟩:=hl;have hL:L∈X.fs:=hs L (by unfold frs; rw [filterMap_cons,hf]; exact mem_cons_self);obtain ⟨sl,e⟩:=I.base.slot L o ho (I.ok.frf L hL) hL λ z=>I.ok.exfs L z hL;exact ⟨hk,⟨L,_,hf,hn,e,hd⟩,ih (λ b hb=>hs b (by unfold frs; rw [filterMap_cons,hf]; exact mem_cons_of_mem _ hb)) hr⟩
 exact all X.outer (λ _ hb=>hb) I.ok.ji
theorem Inv.stack (I:Inv X aa σ H s):s.heap.FunFrames X.base X.stack:=by
 rcases I.ok.stk with e | ⟨e,hf⟩
 ·rw [e]; exact I.ji
 ·rw [e];obtain ⟨m,hn,_⟩:=I.loc;refine .cons (by rw [I.ok.kind]; decide) hf hn ?_ I.ji;exact Heap.get?_none_of_le (Nat.le_trans I.ok.bsz I.ok.above)
theorem Inv.lV (I:Inv X aa σ H s):∀b∈frs X.stack,b∈X.env.locals::X.fs:=λ b hb=>by
 rcases I.ok.stk with e | ⟨e,hf⟩
 ·rw [e] at hb; exact mem_cons_of_mem _ hb
 ·rw [e] at hb;unfold frs at hb;rw [filterMap_cons,hf] at hb;exact hb
theorem Inv.rz (I:Inv X aa σ H s):∀b∈frs X.stack,H b=none:=λ b hb=>by
 rcases List.mem_cons.mp (I.lV b hb) with e | hb
 ·rw [e]; exact I.free
 ·obtain ⟨_,o,ho,_⟩:=I.ok.ji.mem hb;exact I.base.free b o ho (I.ok.frf b hb) λ z=>I.ok.exfs b z hb
theorem Inv.step {g':Array GenState} {d':Drawn} (I:Inv X aa σ H s)
  (hch:∀b∈ch,(b∈X.ex\/X.s₀.heap.objs.size<=b)/\b≠X.env.locals/\(∀x c,X.env.cells.lookup x=some c->c≠b)/\∀p∈X.pn++aa,p.1≠b)
  (keep:∀b o,b≠X.env.locals->b∉X.fs->b∉ch->s.heap.get? b=some o->H b=none->h'.get? b=some o)
  (slot:∀b o,b≠X.env.locals->b∈X.fs->b∉ch->s.heap.get? b=some o->H b=none->∃sl,h'.get? b=some {o with slots:=sl}) (free:∀b o,b∉ch->s.heap.get? b=some o->H b=none->H' b=none)
  (there:∀b o,b∉ch->s.heap.get? b=some o->∃o',h'.get? b=some o')
  (tups:∀b xs,H b=some (.tup xs)->H' b=some (.tup xs)) (jh:∀b o u,H b=some (.frz o u)->H' b=some (.frz o u)) (jE:∀b ps,H b=some (.tbl ps)->∃more,H' b=some (.tbl (ps++more)))
  (ns:∀m,s.heap.Ns X.env.locals m->h'.Ns X.env.locals m) (hok:fG X.prog X.w H' h') (hg:AllBare g') :
  Inv X aa σ H' {s with heap:=h',gens:=g',drawn:=d',toks:=t'}:=by
 have Ls:∀b o,X.s₀.heap.get? b=some o->b≠X.env.locals:=λ b o e=>Nat.ne_of_lt (Nat.lt_of_lt_of_le (Heap.lt_size e) I.ok.above);have Ii:∀b o,X.s₀.heap.get? b=some o->b∉X.ex->b∉ch:=λ b o e hx hb=>by
  rcases (hch b hb).1 with z | z
  ·exact hx z
  ·exact absurd (Nat.lt_of_lt_of_le (Heap.lt_size e) z) (Nat.lt_irrefl _)
 have cellK:∀x c,X.env.cells.lookup x=some c->∀v,s.heap.IsCell c v->h'.IsCell c v:=λ x c e v ⟨o,ho,hd⟩=>by
  have FF:c∉ch:=λ z=>(hch c z).2.2.1 x c e rfl
  by_cases hc:c∈X.fs
  ·obtain ⟨sl,q⟩:=slot c o (I.Cp x c e) hc FF ho (I.freeC x c e);exact ⟨_,q,hd⟩
  ·exact ⟨o,keep c o (I.Cp x c e) hc FF ho (I.freeC x c e),hd⟩
 refine ⟨I.ok,I.os,hg,⟨λ b o e n hb hx=>?_,λ b o e n hb hx=>?_,λ b o e n hx=>?_,λ b o e hx=>?_,λ b xs e=>tups b xs (I.base.tups b xs e),λ b o xs e=>jh b o xs (I.base.jh b o xs e),λ b ps e=>?_⟩,?_,λ x c e=>?_,?_,λ x c e=>?_,λ p hp=>?_,hok,I.len⟩
 ·exact keep b o (Ls b o e) hb (Ii b o e hx) (I.base.keep b o e n hb hx) (I.base.free b o e n hx)
 ·obtain ⟨sl,e1⟩:=I.base.slot b o e n hb hx;obtain ⟨sl',e2⟩:=slot b _ (Ls b o e) hb (Ii b o e hx) e1 (I.base.free b o e n hx);exact ⟨sl',e2⟩
 ·obtain ⟨o',e1⟩:=I.base.there b o e hx;exact free b o' (Ii b o e hx) e1 (I.base.free b o e n hx)
 ·obtain ⟨o',e1⟩:=I.base.there b o e hx;exact there b o' (Ii b o e hx) e1
 ·obtain ⟨m1,e1⟩:=I.base.jE b ps e;obtain ⟨m2,e2⟩:=jE b _ e1;exact ⟨m1++m2,by rw [e2,Array.append_assoc]⟩
 ·obtain ⟨m,hn,hl⟩:=I.loc;refine ⟨m,ns m hn,λ i x v e1 e2 e3=>?_⟩;obtain ⟨u,r,l⟩:=hl i x v e1 e2 e3;refine ⟨u,r,?_⟩;rcases l with l | ⟨k,c,e,z⟩
  ·exact .inl l
  ·exact .inr ⟨k,c,e,cellK x c e _ z⟩
 ·obtain ⟨v,z⟩:=I.cell x c e;exact ⟨v,cellK x c e v z⟩
 ·obtain ⟨m,⟨o,_,_,ho,_⟩,_⟩:=I.loc;exact free _ o (λ z=>(hch _ z).2.1 rfl) ho I.free
 ·obtain ⟨v,o,ho,hd⟩:=I.cell x c e;exact free c o (λ z=>(hch c z).2.2.1 x c e rfl) ho (I.freeC x c e)
 ·obtain ⟨e,n,ne,nf,d⟩:=I.pin p hp;have FF:p.1∉ch:=λ z=>(hch p.1 z).2.2.2 p hp rfl;exact ⟨keep p.1 p.2 ne nf FF e n,free p.1 p.2 FF e n,ne,nf,d⟩
theorem Inv.un (I:Inv X aa σ H s) (u:Un X.fs [] H H' s.heap h') (hok:fG X.prog X.w H' h'):Inv X aa σ H' {s with heap:=h',toks:=t'}:=by
 obtain ⟨m,⟨o,es,ep,ho,r⟩,_⟩:=id I.loc;obtain ⟨sl,hL⟩:=u.any ho I.free (by simp);exact I.step (g':=s.gens) (d':=s.drawn) (ch:=[]) (λ _ z=>nomatch z) (λ b o _ hb _ e n=>u.keep b o e n hb (by simp)) (λ b o _ hb _ e n=>u.slot b o e n hb (by simp)) (λ b o _ e n=>u.free b o e n (by simp)) (λ b o _ e=>u.there b o e (by simp)) u.tups u.jh u.jE (λ m' hm=>by
  obtain ⟨o',es',ep',ho',r'⟩:=hm;rw [ho] at ho'; cases ho';exact ⟨_,es',ep',hL,r'⟩) hok I.bare
theorem Inv.call {g':Array GenState} {d':Drawn} (I:Inv X aa σ H s) (u:Un (frs X.stack) ch H H' s.heap h') (hok:fG X.prog X.w H' h') (hg:AllBare g')
  (hch:∀b∈ch,(b∈X.ex\/X.s₀.heap.objs.size<=b)/\b≠X.env.locals/\(∀x c,X.env.cells.lookup x=some c->c≠b)/\∀p∈X.pn++aa,p.1≠b) :
  Inv X aa σ H' {s with heap:=h',gens:=g',drawn:=d',toks:=t'}:=by
 obtain ⟨m,⟨o,es,ep,ho,r⟩,_⟩:=id I.loc;obtain ⟨sl,hL⟩:=u.any ho I.free λ z=>(hch _ z).2.1 rfl;exact I.step (ch:=ch) hch (λ b o hL hb hc e n=>u.keep b o e n (λ z=>(List.mem_cons.mp (I.lV b z)).elim hL hb) hc) (λ b o _ _ hc e n=>u.any e n hc) (λ b o hc e n=>u.free b o e n hc) (λ b o hc e=>u.there b o e hc) u.tups u.jh u.jE (λ m' hm=>by
  obtain ⟨o',es',ep',ho',r'⟩:=hm;rw [ho] at ho'; cases ho';exact ⟨_,es',ep',hL,r'⟩) hok hg
theorem Inv.turned {it:Addr} (I:Inv X aa σ H s) (k:∀b o,b≠it->s.heap.get? b=some o->h'.get? b=some o) (hn:H it=none) (hL:it≠X.env.locals)
  (h1:it∈X.ex\/X.s₀.heap.objs.size<=it) (h2:∀x c,X.env.cells.lookup x=some c->c≠it) (h3:∀p∈X.pn++aa,p.1≠it):Inv X aa σ H {s with heap:=h',toks:=t'}:=by
 have Bj:∀b u,H b=some u->b≠it:=λ b u e z=>by rw [z,hn] at e; cases e
 refine I.step (g':=s.gens) (d':=s.drawn) (ch:=[it]) (λ b hb=>?_) (λ b o _ _ hc e _=>k b o (λ z=>hc (by simp [z])) e) (λ b o _ _ hc e _=>⟨o.slots,k b o (λ z=>hc (by simp [z])) e⟩) (λ _ _ _ _ n=>n)
  (λ b o hc e=>⟨o,k b o (λ z=>hc (by simp [z])) e⟩) (λ _ _ e=>e) (λ _ _ _ e=>e) (λ b ps e=>⟨#[],by rw [e]; simp⟩) (λ m hm=>?_) (λ b u e=>?_) I.bare
 ·have e:b=it:=by simpa using hb
  subst e;exact ⟨h1,hL,h2,h3⟩
 ·obtain ⟨o,es,ep,ho,r⟩:=hm;exact ⟨o,es,ep,k _ o (Ne.symm hL) ho,r⟩
 ·refine (I.hok b u e).stay (λ c v hc q=>k c v ?_ q) (λ _ q=>q) λ _ _ q=>q;rcases hc with z | z
  ·rw [z]; exact Bj b u e
  ·exact Bj c _ z
theorem Inv.tok (I:Inv X aa σ H s) (t:Nat):Inv X aa σ H {s with toks:=t}:=I.un (h':=s.heap) (t':=t) Un.refl I.hok
theorem Inv.kept (I:Inv X aa σ H s) (k:∀b u,s.heap.get? b=some u->h'.get? b=some u):Inv X aa σ H {s with heap:=h',toks:=t'}:=I.un (Un.kept k) (I.hok.kept k)
theorem Inv.laid {a:Addr} {o:HO} (I:Inv X aa σ H s) (k:∀b u,s.heap.get? b=some u->h'.get? b=some u) (hp:s.heap.objs.size<=a) (new:bF X.prog X.w (upd H a o) h' a o) :
  Inv X aa σ (upd H a o) {s with heap:=h',toks:=t'}:=I.un (Un.laid k hp (I.hok.fresh hp)) (I.hok.laid k hp new)
theorem Inv.write {x e:Addr} {o:HO} (I:Inv X aa σ H s) (mu:Fy (H x)) (he:e=x\/H e=some (.own x)) (k:∀b u,b≠e->s.heap.get? b=some u->h'.get? b=some u) (Fc:∃u,h'.get? e=some u)
  (new:bF X.prog X.w (upd H x o) h' x o):Inv X aa σ (upd H x o) {s with heap:=h',toks:=t'}:=I.un (Un.write mu he k Fc) (I.hok.write mu he k Fc new)
theorem Inv.rA {Bk:List (Addr×Obj)} (I:Inv X aa σ H s) (h:∀p∈Bk,s.heap.get? p.1=some p.2/\H p.1=none/\p.1≠X.env.locals/\p.1∉X.fs/\∀v,p.2.data≠.cell v):Inv X Bk σ H s:=
 ⟨I.ok,I.os,I.bare,I.base,I.loc,I.cell,I.free,I.freeC,λ p hp=>(List.mem_append.mp hp).elim (λ z=>I.pin p (mem_append_left _ z)) (h p),I.hok,I.len⟩
theorem nM {N:List Str} (hN:N.Nodup) {j:Nat} {x:Str} (a:N[i]?=some x) (b:N[j]?=some x):i=j:=by
 obtain ⟨h1,e1⟩:=List.getElem?_eq_some_iff.mp a;obtain ⟨h2,e2⟩:=List.getElem?_eq_some_iff.mp b;exact (getElem_inj hN).mp (e1.trans e2.symm)
theorem kX {A:Around} {E:Value->Shared->Prop} {x:Str} {v:V} {u:Value} {Q:Unit->Shared->Prop} (I:Inv X aa σ H s) (hN:X.N.Nodup) (hi:X.N[i]?=some x) (hx:Loc X.env.scope x) (r:RelV v u)
  (h:∀s',Inv X aa (σ.set i (some v)) H s'->(∃a,Heap.SameBut a s.heap s'.heap/\(a=X.env.locals\/X.env.cells.lookup x=some a))->Q () s') (hf:X.fn x=true\/X.env.scope.names.lookup x=some .local:=by first | exact .inl rfl | exact .inr rfl | assumption):wpAny M A (storeName X.env x u) Q E s:=by
 obtain ⟨m,hn,hl⟩:=id I.loc;have hcls:(X.env.scope.kind==.class||(X.env.scope.kind==.module&&X.env.locals != X.env.globals))=false:=by rw [I.ok.kind]; rfl
 have hiσ:i < σ.length:=by rw [I.len]; exact (List.getElem?_eq_some_iff.mp hi).1
 have Cp:=I.Cp;have tracked:∀{a:Addr} {h':Heap},(∃o,s.heap.get? a=some o/\H a=none)->Heap.SameBut a s.heap h'->fG X.prog X.w H h':=λ {a h'} ha hs b ob e=>by
  obtain ⟨_,_,hfree⟩:=ha;refine (I.hok b ob e).stay (λ c w' hc q=>(hs.2 c ?_).trans q) (λ _ q=>q) λ _ _ q=>q;rintro rfl;rcases hc with rfl | hc
  ·rw [hfree] at e; cases e
  ·rw [hfree] at hc; cases hc
 rcases hx with hk | hk
 ·refine wpAny_storeName_local hk hn (λ h' hn' hs=>?_) hcls;obtain ⟨oL,_,_,hoL,_⟩:=id hn;refine h _ ⟨I.ok,I.os,I.bare,⟨λ b o e n hb hx=>?_,λ b o e n hb hx=>?_,I.base.free,λ b o e hx=>?_,I.base.tups,I.base.jh,I.base.jE⟩,⟨_,hn',λ j y v' e1 e2 e3=>?_⟩,λ y c e=>?_,I.free,I.freeC,λ p hp=>?_,tracked ⟨oL,hoL,I.free⟩ hs,by simpa using I.len⟩ ⟨_,hs,.inl rfl⟩
  ·exact (hs.2 b (Nat.ne_of_lt (Nat.lt_of_lt_of_le (Heap.lt_size e) I.ok.above))).trans (I.base.keep b o e n hb hx)
  ·obtain ⟨sl,e1⟩:=I.base.slot b o e n hb hx;exact ⟨sl,(hs.2 b (Nat.ne_of_lt (Nat.lt_of_lt_of_le (Heap.lt_size e) I.ok.above))).trans e1⟩
  ·obtain ⟨o',e1⟩:=I.base.there b o e hx;exact ⟨o',(hs.2 b (Nat.ne_of_lt (Nat.lt_of_lt_of_le (Heap.lt_size e) I.ok.above))).trans e1⟩
  ·by_cases hj:j=i
   ·subst hj;rw [hi] at e1; cases e1;rw [getElem?_set_self hiσ] at e2;cases e2;exact ⟨u,r,.inl ⟨hk,by simp⟩⟩
   ·rw [getElem?_set_ne (Ne.symm hj)] at e2;obtain ⟨u',r',q⟩:=hl j y v' e1 e2 e3;refine ⟨u',r',?_⟩;rcases q with ⟨k,e⟩ | ⟨k,c,e,z⟩
    ·refine .inl ⟨k,?_⟩;have:y≠x:=λ e=>hj (nM hN e1 (e▸hi));simp [this,e]
    ·exact .inr ⟨k,c,e,z.sameBut hs (Cp y c e)⟩
  ·obtain ⟨w',z⟩:=I.cell y c e;exact ⟨w',z.sameBut hs (Cp y c e)⟩
  ·obtain ⟨e,n,ne,nf,d⟩:=I.pin p hp;exact ⟨(hs.2 p.1 ne).trans e,n,ne,nf,d⟩
 ·have hfn:X.fn x=true:=by
   rcases hf with z | z
   ·exact z
   ·rw [z] at hk; cases hk
  obtain ⟨c,hc⟩:=I.ok.has x (.inl hk);obtain ⟨w',z⟩:=I.cell x c hc;refine wpAny_storeName_cell I.ok.kind hk hc z (λ h' hc' hs=>?_);obtain ⟨oc,hoc,hocd⟩:=id z;refine h {s with heap:=h'} ⟨I.ok,I.os,I.bare,⟨λ b o e n hb hx=>?_,λ b o e n hb hx=>?_,I.base.free,λ b o e hx=>?_,I.base.tups,I.base.jh,I.base.jE⟩,⟨m,hn.sameBut hs (Ne.symm (Cp x c hc)),λ j y v' e1 e2 e3=>?_⟩,λ y c' e=>?_,I.free,I.freeC,λ p hp=>?_,tracked ⟨oc,hoc,I.freeC x c hc⟩ hs,by simpa using I.len⟩ ⟨c,hs,.inr hc⟩
  ·exact (hs.2 b (Nat.ne_of_lt (Nat.lt_of_lt_of_le (Heap.lt_size e) (I.ok.cab x c hfn hc)))).trans (I.base.keep b o e n hb hx)
  ·obtain ⟨sl,e1⟩:=I.base.slot b o e n hb hx;exact ⟨sl,(hs.2 b (Nat.ne_of_lt (Nat.lt_of_lt_of_le (Heap.lt_size e) (I.ok.cab x c hfn hc)))).trans e1⟩
  ·obtain ⟨o',e1⟩:=I.base.there b o e hx;exact ⟨o',(hs.2 b (Nat.ne_of_lt (Nat.lt_of_lt_of_le (Heap.lt_size e) (I.ok.cab x c hfn hc)))).trans e1⟩
  ·by_cases hj:j=i
   ·subst hj;rw [hi] at e1; cases e1;rw [getElem?_set_self hiσ] at e2;cases e2;exact ⟨u,r,.inr ⟨.inl hk,c,hc,hc'⟩⟩
   ·rw [getElem?_set_ne (Ne.symm hj)] at e2;obtain ⟨u',r',q⟩:=hl j y v' e1 e2 e3;refine ⟨u',r',?_⟩;rcases q with q | ⟨k,c',e,z'⟩
    ·exact .inl q
    ·refine .inr ⟨k,c',e,z'.sameBut hs ?_⟩;rintro rfl;exact hj (nM hN e1 (I.ok.inj _ _ _ e hc▸hi))
  ·by_cases hcc:c'=c
   ·subst hcc; exact ⟨_,hc'⟩
   ·obtain ⟨w2,z2⟩:=I.cell y c' e;exact ⟨w2,z2.sameBut hs hcc⟩
  ·obtain ⟨e,n,ne,nf,d⟩:=I.pin p hp;refine ⟨(hs.2 p.1 ?_).trans e,n,ne,nf,d⟩;intro q;rw [q,hoc] at e;have q':oc=p.2:=Option.some.inj e;exact d w' (by rw [<-q']; exact hocd)
theorem fL {A:Around} {E:Value->Shared->Prop} {x:Str} {v:V} {u:Value} {Q:Unit->Shared->Prop} (I:Inv X aa σ H s) (hN:X.N.Nodup) (hi:X.N[i]?=some x) (hx:Loc X.env.scope x) (r:RelV v u)
  (h:∀s',Inv X aa (σ.set i (some v)) H s'->Q () s') (hf:X.fn x=true\/X.env.scope.names.lookup x=some .local:=by first | exact .inl rfl | exact .inr rfl | assumption):wpAny M A (storeName X.env x u) Q E s:=
 kX I hN hi hx r (λ s' I' _=>h s' I') hf
theorem Inv.FG {s':Shared} (I:Inv X aa σ H s) (ho:s'.os=s.os) (u:Un (frs X.stack) ch H H' s.heap s'.heap) (hok:fG X.prog X.w H' s'.heap) (hg:AllBare s'.gens)
  (hch:∀b∈ch,(b∈X.ex\/X.s₀.heap.objs.size<=b)/\b≠X.env.locals/\(∀x c,X.env.cells.lookup x=some c->c≠b)/\∀p∈X.pn++aa,p.1≠b):Inv X aa σ H' s':=by
 obtain ⟨h',g',d',t',o'⟩:=s';have e:o'=s.os:=ho;subst e;exact I.call (g':=g') (t':=t') (d':=d') u hok hg hch
end
abbrev XK:=Value->Option Addr->Hp->Prop
abbrev St:=List (Option V)
abbrev VK:=V->Hp->Prop
abbrev TE:=St->Hp->VK->Prop
abbrev TT:=St->Hp->(Bool->Hp->Prop)->Prop
abbrev TA:=St->Hp->(List V->Hp->Prop)->Prop
set_option genInjectivity false in
structure Ends where
 nx:St->Hp->Prop
 rt:VK
 bk:St->Hp->Prop:=λ _ _=>False
 ct:St->Hp->Prop:=λ _ _=>False
abbrev TS:=Ends->St->Hp->Prop
def EP (X:Cx) (aa:List (Addr×Obj)) (σ:St) (Q:VK) (u:Value) (s':Shared):Prop:=∃v H',Inv X aa σ H' s'/\RelV v u/\Q v H'
def TP (X:Cx) (aa:List (Addr×Obj)) (σ:St) (Q:Bool->Hp->Prop) (b:Bool) (s':Shared):Prop:=∃H',Inv X aa σ H' s'/\Q b H'
def AP (X:Cx) (aa:List (Addr×Obj)) (σ:St) (Q:List V->Hp->Prop) (us:List Value) (s':Shared):Prop:=∃vs H',Inv X aa σ H' s'/\Vals vs us/\Q vs H'
def SP (X:Cx) (aa:List (Addr×Obj)) (D:Ends) (f:Flow) (s':Shared):Prop:=
 match f with
 | .next=>∃σ' H',Inv X aa σ' H' s'/\D.nx σ' H'
 | .brk=>∃σ' H',Inv X aa σ' H' s'/\D.bk σ' H'
 | .cont=>∃σ' H',Inv X aa σ' H' s'/\D.ct σ' H'
 | .ret u=>∃v σ' H',Inv X aa σ' H' s'/\RelV v u/\D.rt v H'
def PE (X:Cx) (e:Expr) (t:TE):Prop:=
 ∀(aa:List (Addr×Obj)) (s:Shared) (σ:St) (H:Hp) (Q:VK),Inv X aa σ H s->t σ H Q->wpAny (model X.prog X.w) X.A (eval e X.env) (EP X aa σ Q) X.xe s
def PT (X:Cx) (e:Expr) (t:TT):Prop:=
 ∀(aa:List (Addr×Obj)) (s:Shared) (σ:St) (H:Hp) (Q:Bool->Hp->Prop),Inv X aa σ H s->t σ H Q->wpAny (model X.prog X.w) X.A (isTrue e X.env (eval e X.env)) (TP X aa σ Q) X.xe s
def PW (X:Cx) (e:Expr) (t:TT):Prop:=
 ∀(whole:Sem Value) (aa:List (Addr×Obj)) (s:Shared) (σ:St) (H:Hp) (Q:Bool->Hp->Prop),Inv X aa σ H s->t σ H Q->wpAny (model X.prog X.w) X.A (isTrue e X.env whole) (TP X aa σ Q) X.xe s
theorem PW.pt {X:Cx} {e:Expr} {t:TT} (h:PW X e t):PT X e t:=h _
def PA (X:Cx) (es:List Expr) (t:TA):Prop:=
 ∀(pos:Pos) (aa:List (Addr×Obj)) (s:Shared) (σ:St) (H:Hp) (Q:List V->Hp->Prop),Inv X aa σ H s->t σ H Q->wpAny (model X.prog X.w) X.A (spliced (backTo pos (starEach es X.env))) (AP X aa σ Q) X.xe s
def PS (X:Cx) (st:Stmt) (t:TS):Prop:=
 ∀(aa:List (Addr×Obj)) (s:Shared) (σ:St) (H:Hp) (D:Ends),Inv X aa σ H s->t D σ H->wpAny (model X.prog X.w) X.A (exec st X.env) (SP X aa D) X.xe s
def iX (X:Cx) (st:List Stmt) (t:TS):Prop:=
 ∀(aa:List (Addr×Obj)) (s:Shared) (σ:St) (H:Hp) (D:Ends),Inv X aa σ H s->t D σ H->wpAny (model X.prog X.w) X.A (execs st X.env) (SP X aa D) X.xe s
theorem bQ {α:Type} {t:Sem α} {Q Q':α->Shared->Prop} {A:Around} {E:Value->Shared->Prop} {s:Shared} (h:wpAny M A t Q E s) (hQ:∀a s,Q a s->Q' a s):wpAny M A t Q' E s:=wpAny_mono h hQ λ _ _ x=>x
end L2
namespace L2
open PySem PySem.Spec PyProof.Rows List
variable {H:Hp} {aa:List (Addr×Obj)} {pos:Pos} {s:Shared} {u:Value} {σ:St}
section
variable {X:Cx}
theorem bin {a b:Expr} {ta tb:TE} (ha:PE X a ta) (hb:PE X b tb) {R:V->V->Hp->Prop} (I:Inv X aa σ H s) (h:ta σ H λ x H1=>tb σ H1 λ y H2=>R x y H2)
  {α:Type} {Q:α->Shared->Prop} {f:Value->Value->Sem α}
  (hf:∀v u s2 x y H2,Inv X aa σ H2 s2->RelV x v->RelV y u->R x y H2->wpAny (model X.prog X.w) X.A (f v u) Q X.xe s2) :
  wpAny (model X.prog X.w) X.A (eval a X.env) (λ v s₁=>wpAny (model X.prog X.w) X.A (eval b X.env) (λ u s₂=>wpAny (model X.prog X.w) X.A (f v u) Q X.xe s₂) X.xe s₁) X.xe s:=by
 refine bQ (ha aa s σ H _ I h) λ v s1 ⟨x,H1,I1,r1,q1⟩=>?_;refine bQ (hb aa s1 σ H1 _ I1 q1) λ u s2 ⟨y,H2,I2,r2,q2⟩=>?_;exact hf v u s2 x y H2 I2 r1 r2 q2
noncomputable def JK (i:Nat):TE:=fun σ H Q=>∃v,σ[i]?=some (some v)/\Q v H
noncomputable def tC (v:V):TE:=λ _ H Q=>Q v H
theorem Cq {i:Nat} {x:Str} (hN:X.N[i]?=some x) (hv:FE X.env.scope x) (hd:(x==("__debug__":Str))=false:=by decide) (hcd:(x==("__classdict__":Str))=false:=by decide):PE X (.Name x pos) (JK i):=by
 intro aa s σ H Q I h;obtain ⟨v,e,h⟩:=h;obtain ⟨m,hn,hl⟩:=I.loc;obtain ⟨u,r,l⟩:=hl i x v hN e hv;have fin:EP X aa σ Q u s:=⟨v,H,I,r,h⟩;rcases l with ⟨hk,hm⟩ | ⟨hk,c,hc,hcell⟩
 ·exact wpAny_Name (wpAny_loadName_local I.ok.kind hk hn hm fin) hd
 ·rcases hk with hk | hk
  ·exact wpAny_Name (wpAny_loadName_cell I.ok.kind hk hc hcell fin) hd
  ·exact wpAny_Name (wpAny_loadName_free I.ok.kind hk hc hcell fin hcd) hd
theorem Cr {i j pos}:PE X (.Constant (.int i) j pos) (tC (.int i)):=λ _ _ _ H _ I h=>wpAny_Constant_int ⟨.int i,H,I.tok _,⟨_,rfl⟩,h⟩
theorem FH {b j pos}:PE X (.Constant (.bool b) j pos) (tC (.bl b)):=λ _ _ _ H _ I h=>Constant_bool ⟨.bl b,H,I,rfl,h⟩
theorem Ct {j pos}:PE X (.Constant .none j pos) (tC .non):=λ _ _ _ H _ I h=>Constant_none ⟨.non,H,I,rfl,h⟩
theorem vd {x j pos}:PE X (.Constant (.str x) j pos) (tC (.str x)):=λ _ _ _ H _ I h=>Calls.Constant_str ⟨.str x,H,I.tok _,⟨_,rfl⟩,h⟩
def Gl (X:Cx) (x:Str):Prop:=X.env.kindOf x=some .globalImplicit
theorem ju {E:Value->Shared->Prop} {x:Str} {Q:Value->Shared->Prop} (I:Inv X aa σ H s) (hg:Gl X x) (hm:X.mg x=some u) (h:Q u s)
  (hd:(x==("__debug__":Str))=false:=by decide):wpAny (model X.prog X.w) X.A (eval (.Name x pos) X.env) Q E s:=
 Calls.Name_function_global I.ok.kind hg (Calls.loadGlobal_global (by rw [I.ok.glob]; exact I.mod.glob.keeps I.bk) hm h) hd
theorem fM {E:Value->Shared->Prop} {x:Str} {Q:Value->Shared->Prop} (I:Inv X aa σ H s) (hg:Gl X x) (hm:X.mg x=none) (hv:bootBuiltins x=some u) (h:Q u s)
  (hn:x≠"__name__":=by decide) (hd:(x==("__debug__":Str))=false:=by decide):wpAny (model X.prog X.w) X.A (eval (.Name x pos) X.env) Q E s:=by
 obtain ⟨mb,h1,h2⟩:=I.mod.blt;exact Calls.Name_function_global I.ok.kind hg (Calls.loadGlobal_builtin (by rw [I.ok.glob]; exact I.mod.glob.keeps I.bk) hm (by rw [I.ok.blt]; exact h1.keeps I.bk) ((h2 x hn).trans hv) h) hd
theorem fc {x:Str} {v:V} (hg:Gl X x) (hm:X.mg x=some u) (r:RelV v u) (hd:(x==("__debug__":Str))=false:=by decide):PE X (.Name x pos) (tC v):=
 λ _ _ _ H _ I h=>ju I hg hm ⟨v,H,I,r,h⟩ hd
theorem yZ {x:Str} {v:V} (hg:Gl X x) (hm:X.mg x=none) (hv:bootBuiltins x=some u) (r:RelV v u) (hn:x≠"__name__":=by decide) (hd:(x==("__debug__":Str))=false:=by decide):PE X (.Name x pos) (tC v):=
 λ _ _ _ H _ I h=>fM I hg hm hv ⟨v,H,I,r,h⟩ hn hd
variable {a b:Expr} {ta tb:TE} {pos:Pos}
variable {tA Ij:TT} {rest:List Expr}
noncomputable def JL (t u:TT):TT:=fun σ H Q=>t σ H λ c H1=>if c=true then u σ H1 Q else Q false H1
noncomputable def L7 (t u:TT):TT:=fun σ H Q=>t σ H λ c H1=>if c=true then Q true H1 else u σ H1 Q
noncomputable def JM (t:TT):TT:=fun σ H Q=>t σ H λ c H1=>Q (!c) H1
theorem y9 (ha:PT X a tA):PW X (.BoolOp .And [a] pos) tA:=by
 intro wh aa s σ H Q I h;refine isTrue_and (bQ (ha aa s σ H Q I h) λ c s1 e=>?_);cases c with
 | true=>exact isTrue_and_nil e
 | false=>exact e
theorem Cu (ha:PT X a tA):PW X (.BoolOp .Or [a] pos) tA:=by
 intro wh aa s σ H Q I h;refine isTrue_or (bQ (ha aa s σ H Q I h) λ c s1 e=>?_);cases c with
 | false=>exact isTrue_or_nil e
 | true=>exact e
theorem Cv (ha:PT X a tA) (hb:PW X (.BoolOp .And (b::rest) pos) Ij):PW X (.BoolOp .And (a::b::rest) pos) (JL tA Ij):=by
 intro wh aa s σ H Q I h;refine isTrue_and (bQ (ha aa s σ H _ I h) λ c s1 ⟨H1,I1,q1⟩=>?_);cases c with
 | true=>exact hb wh aa s1 σ H1 Q I1 q1
 | false=>exact ⟨H1,I1,q1⟩
theorem FI (ha:PT X a tA) (hb:PW X (.BoolOp .Or (b::rest) pos) Ij):PW X (.BoolOp .Or (a::b::rest) pos) (L7 tA Ij):=by
 intro wh aa s σ H Q I h;refine isTrue_or (bQ (ha aa s σ H _ I h) λ c s1 ⟨H1,I1,q1⟩=>?_);cases c with
 | true=>exact ⟨H1,I1,q1⟩
 | false=>exact hb wh aa s1 σ H1 Q I1 q1
theorem Cw (ha:PT X a tA):PT X (.UnaryOp .Not a pos) (JM tA):=by
 intro aa s σ H Q I h;exact isTrue_not (ha aa s σ H (λ c H1=>Q (!c) H1) I h)
noncomputable def FJ (ta tb:TE):TE:=fun σ H Q=>ta σ H λ x H1=>∃c,x=.bl c/\if c=true then tb σ H1 Q else Q (.bl false) H1
noncomputable def JN (ta tb:TE):TE:=fun σ H Q=>ta σ H λ x H1=>∃c,x=.bl c/\if c=true then Q (.bl true) H1 else tb σ H1 Q
noncomputable def FL (ta:TE):TE:=fun σ H Q=>ta σ H λ x H1=>∃c,x=.bl c/\Q (.bl (!c)) H1
theorem ve {op} {t:TE} (h:PE X a t):PE X (.BoolOp op [a] pos) t:=λ aa s σ H Q I hw=>BoolOp_one (h aa s σ H Q I hw)
theorem Cy (ha:PE X a ta) (hb:PE X (.BoolOp .And (b::rest) pos) tb):PE X (.BoolOp .And (a::b::rest) pos) (FJ ta tb):=by
 intro aa s σ H Q I h;refine BoolOp_and (bQ (ha aa s σ H _ I h) λ v s1 ⟨x,H1,I1,r1,q1⟩=>?_);obtain ⟨c,rfl,q1⟩:=q1;cases r1;refine wpAny_truthy_bool ?_;cases c with
 | true=>exact hb aa s1 σ H1 Q I1 q1
 | false=>exact ⟨.bl false,H1,I1,rfl,q1⟩
theorem FN (ha:PE X a ta) (hb:PE X (.BoolOp .Or (b::rest) pos) tb):PE X (.BoolOp .Or (a::b::rest) pos) (JN ta tb):=by
 intro aa s σ H Q I h;refine BoolOp_or (bQ (ha aa s σ H _ I h) λ v s1 ⟨x,H1,I1,r1,q1⟩=>?_);obtain ⟨c,rfl,q1⟩:=q1;cases r1;refine wpAny_truthy_bool ?_;cases c with
 | false=>exact hb aa s1 σ H1 Q I1 q1
 | true=>exact ⟨.bl true,H1,I1,rfl,q1⟩
theorem Cz (ha:PE X a ta):PE X (.UnaryOp .Not a pos) (FL ta):=by
 intro aa s σ H Q I h;refine UnaryOp_ (bQ (ha aa s σ H _ I h) λ v s1 ⟨x,H1,I1,r1,q1⟩=>?_);obtain ⟨c,rfl,q1⟩:=q1;cases r1;exact not_of (wpAny_truthy_bool ⟨.bl (!c),H1,I1,rfl,q1⟩)
noncomputable def L8 (t:TT) (ta tb:TE):TE:=fun σ H Q=>t σ H λ c H1=>if c=true then ta σ H1 Q else tb σ H1 Q
theorem vf {c:Expr} (hc:PT X c tA) (ha:PE X a ta) (hb:PE X b tb):PE X (.IfExp c a b pos) (L8 tA ta tb):=by
 intro aa s σ H Q I h;refine wpAny_IfExp (bQ (hc aa s σ H _ I h) λ d s1 ⟨H1,I1,q1⟩=>?_);cases d with
 | true=>exact ha aa s1 σ H1 Q I1 q1
 | false=>exact hb aa s1 σ H1 Q I1 q1
end
end L2
namespace L2
open PySem PySem.Spec PyProof.Rows List
variable {K:PySem.W.Frag} {P:Program} {X:Cx} {e tg:Expr} {i:Nat} {s:Shared} {te:TE} {u:Value} {w:World}
def fJ (K:PySem.W.Frag) (H:Hp) (a:Addr) (xs:List V):Prop:=
 Rd H a (.lst xs)\/
  ∃(o:Obj) (its:Array Value) (n:Nat),K.lookup a=some o/\o.cls=.type "list"/\o.dict=none/\o.data=.seq its n/\its.size<=sizeLine/\Vals xs its.toList
def cL (K:PySem.W.Frag) (H:Hp) (a:Addr) (xs:List V):Prop:=
 Rd H a (.tup xs)\/
  ∃(o:Obj) (its:Array Value) (n:Nat),K.lookup a=some o/\o.cls=.type "tuple"/\o.data=.seq its n/\its.size<=sizeLine/\Vals xs its.toList
noncomputable def JO:Value->Option V
 | .none=>some .non
 | .bool b=>some (.bl b)
 | .int i _=>some (.int i)
 | .str x _=>some (.str x)
 | .bytes b _=>some (.byt b)
 | .float b _=>some (.flt b)
 | .ref a=>some (.ref a)
 | .type n=>some (.ty n)
 | _=>none
theorem RelV.abs {x:V} (r:RelV x u):JO u=some x:=by
 cases x with
 | non=>cases r; rfl
 | bl _=>cases r; rfl
 | int _=>obtain ⟨t,rfl⟩:=r; rfl
 | str _=>obtain ⟨t,rfl⟩:=r; rfl
 | byt _=>obtain ⟨t,rfl⟩:=r; rfl
 | flt _=>obtain ⟨t,rfl⟩:=r; rfl
 | ref _=>cases r; rfl
 | ty _=>cases r; rfl
theorem RelV.inj {x y:V} (r:RelV x u) (q:RelV y u):x=y:=Option.some.inj (r.abs.symm.trans q.abs)
theorem Vals.inj:∀{xs ys:List V} {us:List Value},Vals xs us->Vals ys us->xs=ys
 | _,_,_,.nil,.nil=>rfl
 | _,_,_,.cons r t,.cons r' t'=>by rw [r.inj r',Vals.inj t t']
section
variable {X:Cx} {aa:List (Addr×Obj)} {σ:St} {H:Hp} {s:Shared} {a:Addr} {xs ys:List V}
theorem cL.of (h:H a=some (.tup xs)):cL K H a xs:=.inl (.inl h)
theorem Inv.list (I:Inv X aa σ H s) (h:fJ X.K H a xs):∃its:List Value,Vals xs its/\PlainL s.heap a its.toArray/\xs.length<=sizeLine:=by
 rcases h with h | ⟨o,its,n,hk,hc,hd,hs,hz,r⟩
 ·obtain ⟨z,its,n,r,e⟩:=h.ok I.hok;exact ⟨its,r,⟨_,n,e,rfl,rfl,rfl⟩,z⟩
 ·refine ⟨its.toList,r,⟨o,n,I.gA a o hk,hc,hd,by simpa using hs⟩,?_⟩;have e:=r.length;simp only [Array.length_toList] at e;omega
theorem Inv.tuple (I:Inv X aa σ H s) (h:cL X.K H a xs):∃its:List Value,Vals xs its/\IsTup s.heap a its.toArray/\xs.length<=sizeLine:=by
 rcases h with h | ⟨o,its,n,hk,hc,hs,hz,r⟩
 ·obtain ⟨z,its,r,p⟩:=h.ok I.hok;exact ⟨its,r,p,z⟩
 ·refine ⟨its.toList,r,⟨o,I.gA a o hk,hc,n,by simpa using hs⟩,?_⟩;have e:=r.length;simp only [Array.length_toList] at e;omega
theorem Inv.jF (I:Inv X aa σ H s) (h:fJ X.K H a xs) (h':fJ X.K H a ys):xs=ys:=by
 obtain ⟨its,r,⟨o,n,e,_,_,d⟩,_⟩:=I.list h;obtain ⟨its',r',⟨o',n',e',_,_,d'⟩,_⟩:=I.list h';rw [e] at e'; cases e';rw [d] at d';injection d' with d1 _
 have:its=its':=by simpa using congrArg Array.toList d1
 subst this;exact r.inj r'
theorem Inv.iE (I:Inv X aa σ H s) (h:cL X.K H a xs) (h':cL X.K H a ys):xs=ys:=by
 obtain ⟨its,r,⟨o,e,_,n,d⟩,_⟩:=I.tuple h;obtain ⟨its',r',⟨o',e',_,n',d'⟩,_⟩:=I.tuple h';rw [e] at e'; cases e';rw [d] at d';injection d' with d1 _
 have:its=its':=by simpa using congrArg Array.toList d1
 subst this;exact r.inj r'
end
abbrev Cx.kD (X:Cx) (E:Value->Shared->Prop):Cx:={X with xe:=E}
abbrev Cx.FO (X:Cx):Cx:=X.kD λ _ _=>False
theorem Cx.Ok.kD (ok:X.Ok) (E:Value->Shared->Prop):(X.kD E).Ok:=
 ⟨ok.mod,ok.kind,ok.glob,ok.blt,ok.above,ok.inj,ok.has,ok.cab,ok.hd,ok.frames,ok.stk,ok.exf,ok.bs,ok.bsz,ok.noex,ok.exfs,ok.ji,ok.frf⟩
theorem Cx.Ok.fN {E:Value->Shared->Prop} (ok:(X.kD E).Ok):X.Ok:=
 ⟨ok.mod,ok.kind,ok.glob,ok.blt,ok.above,ok.inj,ok.has,ok.cab,ok.hd,ok.frames,ok.stk,ok.exf,ok.bs,ok.bsz,ok.noex,ok.exfs,ok.ji,ok.frf⟩
section
variable {X:Cx} {aa:List (Addr×Obj)} {σ:St} {H:Hp} {s:Shared} {E:Value->Shared->Prop}
theorem Inv.kD (I:Inv X aa σ H s) (E:Value->Shared->Prop):Inv (X.kD E) aa σ H s:=⟨I.ok.kD E,I.os,I.bare,I.base,I.loc,I.cell,I.free,I.freeC,I.pin,I.hok,I.len⟩
theorem Inv.fN (I:Inv (X.kD E) aa σ H s):Inv X aa σ H s:=⟨I.ok.fN,I.os,I.bare,I.base,I.loc,I.cell,I.free,I.freeC,I.pin,I.hok,I.len⟩
theorem SP.fN {D:Ends} {f:Flow} {s':Shared} (h:SP (X.kD E) aa D f s'):SP X aa D f s':=by
 cases f with
 | next=>obtain ⟨σ',H',I,q⟩:=h; exact ⟨σ',H',I.fN,q⟩
 | brk=>obtain ⟨σ',H',I,q⟩:=h; exact ⟨σ',H',I.fN,q⟩
 | cont=>obtain ⟨σ',H',I,q⟩:=h; exact ⟨σ',H',I.fN,q⟩
 | ret u=>obtain ⟨v,σ',H',I,r,q⟩:=h; exact ⟨v,σ',H',I.fN,r,q⟩
theorem iX.FO {st:List Stmt} {t:TS} (h:iX X.FO st t):iX X st t:=λ aa s σ H D I hw=>
 wpAny_mono (h aa s σ H D (I.kD _) hw) (λ _ _ q=>q.fN) λ _ _ z=>False.elim z
end
section
variable {X:Cx} {st:Stmt} {rest:List Stmt} {t u:TS} {e:Expr} {te:TE} {pos:Pos}
noncomputable def Bl:TS:=λ D σ H=>D.nx σ H
noncomputable def JP (t u:TS):TS:=λ D σ H=>t {D with nx:=u D} σ H
theorem za:iX X [] Bl:=λ _ _ σ H _ I h=>wpAny_execs_nil ⟨σ,H,I,h⟩
theorem vg (h1:PS X st t) (h2:iX X rest u):iX X (st::rest) (JP t u):=by
 intro aa s σ H D I h;refine wpAny_execs_cons (bQ (h1 aa s σ H {D with nx:=u D} I h) λ f s1 q=>?_);cases f with
 | next=>
  obtain ⟨σ',H',I',q⟩:=q;exact h2 aa s1 σ' H' D I' q
 | ret v=>exact q
 | brk=>exact q
 | cont=>exact q
noncomputable def CA:TS:=λ D σ H=>D.bk σ H
noncomputable def FP:TS:=λ D σ H=>D.ct σ H
theorem zb:PS X (.Pass pos) Bl:=λ _ _ σ H _ I h=>wpAny_Pass ⟨σ,H,I,h⟩
theorem vh:PS X (.Break pos) CA:=λ _ _ σ H _ I h=>wpAny_Break ⟨σ,H,I,h⟩
theorem nN:PS X (.Continue pos) FP:=λ _ _ σ H _ I h=>wpAny_Continue ⟨σ,H,I,h⟩
theorem Inv.quiet {aa:List (Addr×Obj)} {σ:St} {H:Hp} (I:Inv X aa σ H s):interactive X.env=false:=by simp [interactive,I.ok.kind]
noncomputable def FQ (te:TE):TS:=λ D σ H=>te σ H λ _ H1=>D.nx σ H1
theorem zc (he:PE X e te) (hs:swapsWith e none pos.line X.env=pure false:=by rfl):PS X (.Expr e pos) (FQ te):=by
 intro aa s σ H D I h;exact wpAny_Expr_any (bQ (he aa s σ H _ I h) λ v s1 ⟨x,H1,I1,r1,q1⟩=>⟨σ,H1,I1,q1⟩) I.quiet hs
noncomputable def JQ (te:TE):TS:=λ D σ H=>te σ H D.rt
theorem CB (he:PE X e te):PS X (.Return (some e) pos) (JQ te):=by
 intro aa s σ H D I h;exact wpAny_Return_some (bQ (he aa s σ H _ I h) λ v s1 ⟨x,H1,I1,r1,q1⟩=>⟨x,σ,H1,I1,r1,q1⟩)
noncomputable def FT:TS:=λ D _ H=>D.rt .non H
theorem zd:PS X (.Return none pos) FT:=λ _ _ σ H _ I h=>wpAny_Return_none ⟨.non,σ,H,I,rfl,h⟩
noncomputable def JR (c:TT) (t u:TS):TS:=λ D σ H=>c σ H λ b H1=>if b=true then t D σ H1 else u D σ H1
theorem FU {c:Expr} {a b:List Stmt} {tc:TT} (hc:PT X c tc) (ha:iX X a t) (hb:iX X b u):PS X (.If c a b pos) (JR tc t u):=by
 intro aa s σ H D I h;refine wpAny_If (bQ (hc aa s σ H _ I h) λ d s1 ⟨H1,I1,q1⟩=>?_);cases d with
 | true=>exact ha aa s1 σ H1 D I1 q1
 | false=>exact hb aa s1 σ H1 D I1 q1
noncomputable def CC:TS:=λ _ _ _=>False
theorem vj:PS X st CC:=λ _ _ _ _ _ _ h=>h.elim
end
abbrev TG:=V->St->Hp->(St->Hp->Prop)->Prop
abbrev vm:=List V->St->Hp->(St->Hp->Prop)->Prop
def PG (X:Cx) (target:Expr) (t:TG):Prop:=
 ∀(aa:List (Addr×Obj)) (s:Shared) (σ:St) (H:Hp) (v:V) (u:Value) (Q:St->Hp->Prop),Inv X aa σ H s->RelV v u->t v σ H Q->
  wpAny (model X.prog X.w) X.A (assign target X.env u) (λ _ s'=>∃σ' H',Inv X aa σ' H' s'/\Q σ' H') X.xe s
def pP (X:Cx) (ts:List Expr) (t:vm):Prop:=
 ∀(aa:List (Addr×Obj)) (s:Shared) (σ:St) (H:Hp) (vs:List V) (us:List Value) (Q:St->Hp->Prop),Inv X aa σ H s->Vals vs us->t vs σ H Q->
  wpAny (model X.prog X.w) X.A (assignInOrder ((assignEach ts X.env).map (·.2)) us) (λ _ s'=>∃σ' H',Inv X aa σ' H' s'/\Q σ' H') X.xe s
abbrev CD:=V->V->V->Hp->(Hp->Prop)->Prop
def CG (X:Cx) (t:CD):Prop:=
 ∀(aa:List (Addr×Obj)) (s:Shared) (σ:St) (H:Hp) (o i v:V) (ov iv u:Value) (Q:Hp->Prop),Inv X aa σ H s->RelV o ov->RelV i iv->RelV v u->t o i v H Q->
  wpAny (model X.prog X.w) X.A (setItem ov iv u) (λ _ s'=>∃H',Inv X aa σ H' s'/\Q H') X.xe s
abbrev Ik:=V->V->Hp->VK->Prop
def JS (X:Cx) (op:Operator) (t:Ik):Prop:=
 ∀(aa:List (Addr×Obj)) (s:Shared) (σ:St) (H:Hp) (x y:V) (v u:Value) (Q:VK),Inv X aa σ H s->RelV x v->RelV y u->t x y H Q->
  wpAny (model X.prog X.w) X.A (inplaceOp op v u) (EP X aa σ Q) X.xe s
section
variable {X:Cx} {pos:Pos}
noncomputable def Bm (i:Nat):TG:=λ v σ H Q=>Q (σ.set i (some v)) H
theorem ze {x:Str} (hN:X.N.Nodup) (hi:X.N[i]?=some x) (hx:Loc X.env.scope x) (hf:X.fn x=true\/X.env.scope.names.lookup x=some .local:=by first | exact .inl rfl | exact .inr rfl | assumption):PG X (.Name x pos) (Bm i):=by
 intro aa s σ H v u Q I r h;exact wpAny_assign_Name (fL I hN hi hx r (λ s' I'=>⟨_,H,I',h⟩) hf)
noncomputable def JT:vm:=λ vs σ H Q=>vs=[]/\Q σ H
noncomputable def FW (t:TG) (u:vm):vm:=λ vs σ H Q=>∃v r,vs=v::r/\t v σ H fun σ' H'=>u r σ' H' Q
theorem zf:pP X [] JT:=by
 intro aa s σ H vs us Q I r h;obtain ⟨e,h⟩:=h;subst e;cases r;exact assignInOrder_nil ⟨σ,H,I,h⟩
theorem vn {es:List Expr} {t:TG} {u:vm} (h1:PG X e t) (h2:pP X es u)
  (hs:(assignEach (e::es) X.env).map (·.2)=assign e X.env::(assignEach es X.env).map (·.2):=by rfl):pP X (e::es) (FW t u):=by
 intro aa s σ H vs us Q I r h;obtain ⟨v,vr,e1,h⟩:=h;subst e1;cases r with
 | cons r rr=>
  rw [hs];refine assignInOrder_cons (bQ (h1 aa s σ H _ _ _ I r h) λ _ s1 ⟨σ1,H1,I1,q1⟩=>?_);exact h2 aa s1 σ1 H1 _ _ Q I1 rr q1
noncomputable def JU (K:PySem.W.Frag) (n:Nat) (t:vm):TG:=λ v σ H Q=>∃a xs,v=.ref a/\cL K H a xs/\xs.length=n/\t xs σ H Q
theorem CH {es:List Expr} {k:Nat} {t:vm} {n:Nat} (hc:X.calm=true) (h:pP X es t)
  (hn:(assignEach es X.env).length=n:=by rfl) (hst:(assignEach es X.env).findIdx? (·.1)=none:=by rfl):PG X (.Tuple es k pos) (JU X.K n t):=by
 intro aa s σ H v u Q I r hw;obtain ⟨a,xs,e1,hq,hl,hw⟩:=hw;subst e1;cases r;obtain ⟨its,rv,ht,hz⟩:=I.tuple hq;refine assign_Tuple_tuple (I.ok.hd hc) ht (by simp [hn,<-hl,rv.length]) hst λ h' hx=>?_;have I1:Inv X aa σ H {s with heap:=h'}:=I.kept (t':=s.toks) λ b o e=>hx b o (Nat.ne_of_lt (Heap.lt_size e)) e;exact h aa _ σ H xs _ Q I1 (by simpa using rv) hw
noncomputable def JV (to ti:TE) (t:CD):TG:=λ v σ H Q=>to σ H λ o H1=>ti σ H1 λ i H2=>t o i v H2 λ H3=>Q σ H3
theorem CI {o i:Expr} {to ti:TE} {t:CD} (ho:PE X o to) (hi:PE X i ti) (hs:CG X t)
  (ha:∀v,assign (.Subscript o i pos) X.env v=(do
   let ov <-holding [v] (eval o X.env)
   let iv <-holding [v,ov] (eval i X.env)
   standAt pos
   holding [v,ov,iv] (setItem ov iv v)
   release [v,ov,iv] []):=by intro _; rfl):PG X (.Subscript o i pos) (JV to ti t):=by
 intro aa s σ H v u Q I r h;rw [ha];refine wpAny_bind (wpAny_holding (bQ (ho aa s σ H _ I h) λ ov s1 ⟨x,H1,I1,r1,q1⟩=>?_));refine wpAny_bind (wpAny_holding (bQ (hi aa s1 σ H1 _ I1 q1) λ iv s2 ⟨y,H2,I2,r2,q2⟩=>?_));refine wpAny_bind (wpAny_standAt (wpAny_bind (wpAny_holding (bQ (hs aa s2 σ H2 x y v ov iv u _ I2 r1 r2 r q2) λ _ s3 ⟨H3,I3,q3⟩=>?_))));exact wpAny_release ⟨σ,H3,I3,q3⟩
noncomputable def FY (te:TE) (g:TG):TS:=λ D σ H=>te σ H λ x H1=>g x σ H1 D.nx
theorem CJ {g:TG} (he:PE X e te) (hg:PG X tg g) (hs:swapsWithSole [tg] e pos.line X.env=pure false:=by rfl) (hw:swappedStores [tg] e X.env=pure none:=by rfl)
  (h1:(assignEach [tg] X.env).map (·.2)=[assign tg X.env]:=by rfl):PS X (.Assign [tg] e pos) (FY te g):=by
 intro aa s σ H D I h;refine wpAny_Assign_stores (bQ (he aa s σ H _ I h) λ v s1 ⟨x,H1,I1,r1,q1⟩=>?_) hs hw;rw [h1];exact bQ (hg aa s1 σ H1 x v _ I1 r1 q1) λ _ s2 q=>q
theorem CK {x:Str} {pos':Pos} (hN:X.N.Nodup) (hi:X.N[i]?=some x) (hx:Loc X.env.scope x) (he:PE X e te) (hs:swapsWith e (some (.Name x pos')) pos.line X.env=pure false:=by rfl) (hf:X.fn x=true\/X.env.scope.names.lookup x=some .local:=by first | exact .inl rfl | exact .inr rfl | assumption) :
  PS X (.Assign [.Name x pos'] e pos) (FY te (Bm i)):=by
 intro aa s σ H D I h;refine wpAny_Assign_Name (bQ (he aa s σ H _ I h) λ v s1 ⟨y,H1,I1,r1,q1⟩=>?_) hs;exact fL I1 hN hi hx r1 (λ s2 I2=>⟨_,H1,I2,q1⟩) hf
noncomputable def JW (i j:Nat) (ta:TA):TS:=λ D σ H=>ta σ H λ vs H1=>∃v w,vs=[v,w]/\D.nx ((σ.set i (some v)).set j (some w)) H1
theorem CL {j:Nat} {x y:Str} {a b:Expr} {ta:TA} {px py pt:Pos} {kt k2 u5} (hc:X.calm=true) (hN:X.N.Nodup) (hi:X.N[i]?=some x) (hj:X.N[j]?=some y) (hij:i≠j)
  (hx:X.env.scope.names.lookup x=some .local) (hy:X.env.scope.names.lookup y=some .local) (ha:PA X [a,b] ta)
  (hw:swappedStores [.Tuple [.Name x px,.Name y py] kt pt] (.Tuple [a,b] k2 u5) X.env=pure (some [x,y]))
  (hs:swapsWithSole [.Tuple [.Name x px,.Name y py] kt pt] (.Tuple [a,b] k2 u5) pos.line X.env=pure false:=by rfl) :
  PS X (.Assign [.Tuple [.Name x px,.Name y py] kt pt] (.Tuple [a,b] k2 u5) pos) (JW i j ta):=by
 intro aa s σ H D I h;rw [exec_Assign_arm];refine wpAny_bind (wpAny_standAt ?_);rw [hs];refine wpAny_bind (wpAny_pure ?_);rw [if_neg (by decide)];refine wpAny_bind (Tuple_ (bQ (ha _ aa s σ H _ I h) λ us s1 ⟨vs,H1,I1,r1,q1⟩=>?_));obtain ⟨v,w,e1,q1⟩:=q1;subst e1;obtain ⟨u1,u2,rfl,rv,rw'⟩:∃u1 u2,us=[u1,u2]/\RelV v u1/\RelV w u2:=by
  cases r1 with
  | cons p q=>
   cases q with
   | cons p' q'=>
    cases q';exact ⟨_,_,rfl,p,p'⟩
 refine wpAny_newObj_type ?_ (by show 2<=sizeLine; decide);have I2:Inv X aa σ H1 {s1 with heap:=s1.heap.push {cls:=.type "tuple",data:=.seq [u1,u2].toArray}}:=I1.kept (t':=s1.toks) λ b o e=>Heap.get?_push_of_some _ e;rw [hw];refine wpAny_bind (wpAny_pure ?_);show wpAny (model X.prog X.w) X.A (do rule "assign.swapped-stores"; let items <-unpackItems (.ref s1.heap.objs.size) 2 none; assignInOrder [λ v=>bindName X.env y v,λ v=>bindName X.env x v] items.reverse; pure Flow.next) _ _ _;refine wpAny_bind (wpAny_rule (wpAny_bind (unpackItems_tuple (items:=#[u1,u2]) (I.ok.hd hc) (IsTup.new s1.heap _) λ h' hx'=>?_)));have I3:=I2.kept (h':=h') (t':=s1.toks) λ b o e=>hx' b o (Nat.ne_of_lt (Heap.lt_size e)) e;show wpAny _ _ (assignInOrder [λ v=>bindName X.env y v,λ v=>bindName X.env x v] [u2,u1] >>= λ _=>pure Flow.next) _ _ _;refine wpAny_bind (assignInOrder_cons (wpAny_bindName (fL I3 hN hj (.inl hy) rw' (λ s2 I4=>?_) (.inr hy))));refine assignInOrder_cons (wpAny_bindName (fL I4 hN hi (.inl hx) rv (λ s3 I5=>assignInOrder_nil (wpAny_pure ?_)) (.inr hx)));rw [set_comm _ _ (Ne.symm hij)] at I5;exact ⟨_,H1,I5,q1⟩
noncomputable def JX (i:Nat) (te:TE) (ti:Ik):TS:=λ D σ H=>∃x,σ[i]?=some (some x)/\te σ H λ y H1=>ti x y H1 λ z H2=>D.nx (σ.set i (some z)) H2
theorem vo {x:Str} {op:Operator} {ti:Ik} {pos':Pos} (hN:X.N.Nodup) (hi:X.N[i]?=some x) (hx:Loc X.env.scope x) (he:PE X e te) (ho:JS X op ti) (hf:X.fn x=true\/X.env.scope.names.lookup x=some .local:=by first | exact .inl rfl | exact .inr rfl | assumption) :
  PS X (.AugAssign (.Name x pos') op e pos) (JX i te ti):=by
 intro aa s σ H D I h;obtain ⟨v,e1,h⟩:=h;obtain ⟨m,hn,hl⟩:=I.loc;have vis:FE X.env.scope x:=by rcases hx with k | k; exact .inl k; exact .inr (.inl k)
 obtain ⟨u,r,l⟩:=hl i x v hi e1 vis;refine wpAny_AugAssign_Name ?_;have go:wpAny (model X.prog X.w) X.A (eval e X.env) (λ w s₂=>wpAny (model X.prog X.w) X.A (inplaceOp op u w) (λ r s₃=>wpAny (model X.prog X.w) X.A (storeName X.env x r) (λ _=>SP X aa D .next) X.xe s₃) X.xe s₂) X.xe s:=by
  refine bQ (he aa s σ H _ I h) λ w s1 ⟨y,H1,I1,r1,q1⟩=>?_;refine bQ (ho aa s1 σ H1 v y u w _ I1 r r1 q1) λ z s2 ⟨zv,H2,I2,r2,q2⟩=>?_;exact fL I2 hN hi hx r2 (λ s3 I3=>⟨_,H2,I3,q2⟩) hf
 rcases l with ⟨hk,hm⟩ | ⟨hk,c,hc,hcell⟩
 ·exact wpAny_loadName_local I.ok.kind hk hn hm go
 ·rcases hk with hk | hk
  ·exact wpAny_loadName_cell I.ok.kind hk hc hcell go
  ·rcases hx with k | k
   ·have:X.env.scope.names.lookup x=some .free:=hk;rw [k] at this; cases this
   ·have:X.env.scope.names.lookup x=some .free:=hk;rw [k] at this; cases this
noncomputable def Lu (f:Int->Int->Int):Ik:=λ x y H Q=>∃i j,x=.int i/\y=.int j/\Q (.int (f i j)) H
theorem CM:JS X .Add (Lu λ i j=>i+j):=by
 intro aa s σ H x y v u Q I r1 r2 h;obtain ⟨i,j,e1,e2,q⟩:=h;subst e1; subst e2;obtain ⟨t,rfl⟩:=r1;obtain ⟨t',rfl⟩:=r2;exact iadd_int ⟨.int _,H,I.tok _,⟨_,rfl⟩,q⟩
theorem CN:JS X .Sub (Lu λ i j=>i - j):=by
 intro aa s σ H x y v u Q I r1 r2 h;obtain ⟨i,j,e1,e2,q⟩:=h;subst e1; subst e2;obtain ⟨t,rfl⟩:=r1;obtain ⟨t',rfl⟩:=r2;exact isub_int ⟨.int _,H,I.tok _,⟨_,rfl⟩,q⟩
end
section
variable {X:Cx} {pos:Pos}
noncomputable def CO (c:TT) (tb:TS):TS:=λ D σ H=>∃W:Nat->St->Hp->Prop,(∃m,W m σ H)/\∀m σ H,W m σ H->
 c σ H λ b H1=>if b=true then ∃N:St->Hp->Prop,(∀σ' H',N σ' H'->∃m',m' < m/\W m' σ' H')/\tb {D with nx:=N,ct:=N,bk:=D.nx} σ H1 else D.nx σ H1
theorem vp {c:Expr} {body:List Stmt} {tc:TT} {tb:TS} (hp:PassesOwn (model X.prog X.w) X.A X.env X.xe) (hc:PT X c tc) (hb:iX X body tb):PS X (.While c body [] pos) (CO tc tb):=by
 intro aa s σ H D I h;obtain ⟨W,⟨m0,w0⟩,turn⟩:=h;refine wpAny_While (codeAny_whileLoop (λ n s'=>∃σ' H',Inv X aa σ' H' s'/\W n σ' H') ?_ m0 ⟨σ,H,I,w0⟩);rintro n s1 ⟨σ1,H1,I1,w1⟩;refine wpAny_passesOwn hp (bQ (hc aa s1 σ1 H1 _ I1 (turn n σ1 H1 w1)) λ b s2 ⟨H2,I2,q2⟩=>?_);cases b with
 | true=>
  obtain ⟨N,hN,q2⟩:=q2;rw [if_pos rfl];refine wpAny_passesOwn hp (bQ (hb aa s2 σ1 H2 _ I2 q2) λ f s3 q3=>?_);cases f with
  | next=>
   obtain ⟨σ3,H3,I3,n3⟩:=q3;obtain ⟨m',hm,w3⟩:=hN σ3 H3 n3;exact ⟨m',hm,σ3,H3,I3,w3⟩
  | cont=>
   obtain ⟨σ3,H3,I3,n3⟩:=q3;obtain ⟨m',hm,w3⟩:=hN σ3 H3 n3;exact ⟨m',hm,σ3,H3,I3,w3⟩
  | brk=>exact q3
  | ret v=>exact q3
 | false=>
  rw [if_neg Bool.false_ne_true];exact wpAny_execs_nil ⟨σ1,H2,I2,q2⟩
end
set_option genInjectivity false in
structure It where
 go:Nat->Hp->Prop
 yld:Nat->Hp->V->Hp->Prop
 stop:Nat->Hp->Prop
def gv (X:Cx) (aa:List (Addr×Obj)) (H:Hp) (b:Addr):Prop:=
 H b=none/\b≠X.env.locals/\b∉X.fs/\(b∈X.ex\/X.s₀.heap.objs.size<=b)/\(∀x c,X.env.cells.lookup x=some c->c≠b)/\∀p∈X.pn++aa,p.1≠b
theorem Inv.lW {aa:List (Addr×Obj)} {σ:St} {H H':Hp} {b:Addr} (I:Inv X aa σ H s) (hb:s.heap.objs.size<=b) (hn:H' b=none):gv X aa H' b:=by
 refine ⟨hn,Nat.ne_of_gt (Nat.lt_of_lt_of_le I.lt hb),I.JJ hb,.inr (Nat.le_trans I.sz hb),λ x c e z=>?_,λ p hp z=>?_⟩
 ·obtain ⟨v,q⟩:=I.cell x c e;exact absurd (Nat.lt_of_lt_of_le q.lt (by rw [z]; exact hb)) (Nat.lt_irrefl _)
 ·exact absurd (Nat.lt_of_lt_of_le (Heap.lt_size (I.pin p hp).1) (by rw [z]; exact hb)) (Nat.lt_irrefl _)
structure Turn (P:Program) (w:World) (K:PySem.W.Frag) (tg:Expr) (J:It) (fp:List Addr) (it:Addr) (tn:Nat->Heap->Prop):Prop where
 mem:it∈fp
 obj:∀i h,tn i h->∀b∈fp,∃o,h.get? b=some o/\∀v,o.data≠.cell v
 keep:∀i h h',tn i h->(∀b∈fp,∀o,h.get? b=some o->h'.get? b=some o)->tn i h'
 item:∀(X:Cx),X.prog=P->X.w=w->X.K=K->X.calm=true->∀(i:Nat) (aa:List (Addr×Obj)) (s:Shared) (σ:St) (H:Hp) (E:Value->Shared->Prop),Inv X aa σ H s->(∀b∈fp,gv X aa H b)->tn i s.heap->J.go i H->
  wpAny (model P w) X.A (pyNext (.ref it)) (λ r s1=>∃u,r=some u/\
   wpAny (model P w) X.A (letOwnedTupleGo tg (.ref it) u) (λ _ s2=>∃x H',Inv X aa σ H' s2/\RelV x u/\J.yld i H x H'/\tn (i+1) s2.heap/\∀b∈fp,H' b=none) E s1) E s
 done:∀(X:Cx),X.prog=P->X.w=w->X.K=K->X.calm=true->∀(i:Nat) (aa:List (Addr×Obj)) (s:Shared) (σ:St) (H:Hp) (E:Value->Shared->Prop),Inv X aa σ H s->(∀b∈fp,gv X aa H b)->tn i s.heap->J.stop i H->
  wpAny (model P w) X.A (pyNext (.ref it)) (λ r s1=>r=none/\Inv X aa σ H s1) E s
 self:∀(A:Around) (i:Nat) (s:Shared) (Q:Value->Shared->Prop) (E:Value->Shared->Prop),tn i s.heap->Q (.ref it) s->wpAny (model P w) A (pyIter (.ref it)) Q E s
abbrev TI:=St->Hp->(It->Hp->Prop)->Prop
def Lv (X:Cx) (aa:List (Addr×Obj)) (σ:St) (tg:Expr) (R:It->Hp->Prop) (itv:Value) (s2:Shared):Prop:=
 ∃(it:Addr) (fp:List Addr) (tn:Nat->Heap->Prop) (J:It) (H':Hp),itv=.ref it/\Inv X aa σ H' s2/\Turn X.prog X.w X.K tg J fp it tn/\tn 0 s2.heap/\(∀b∈fp,gv X aa H' b)/\R J H'
def PI (X:Cx) (tg iter:Expr) (wi:TI):Prop:=
 ∀(aa:List (Addr×Obj)) (s:Shared) (σ:St) (H:Hp) (R:It->Hp->Prop),Inv X aa σ H s->wi σ H R->
  wpAny (model X.prog X.w) X.A (eval iter X.env) (λ v s1=>wpAny (model X.prog X.w) X.A (pyIter v) (Lv X aa σ tg R) X.xe s1) X.xe s
theorem rB {M:Model} {A:Around} {E:Value->Shared->Prop} {it:Addr} {o:Obj} {n:String} {vs:Array Value} {Q:Unit->Shared->Prop} (ho:s.heap.get? it=some o) (hc:o.cls=.type n) (hd:o.data=.fields vs)
  (hn:["enumerate","zip","dict_itemiterator","dict_reverseitemiterator","odict_iterator","itertools.zip_longest","itertools.pairwise"].contains n=false) (hQ:Q () s):wpAny M A (letOwnedTupleGo tg (.ref it) u) Q E s:=by
 unfold letOwnedTupleGo;cases tg<;>first
  | exact wpAny_pure hQ
  | (cases u<;>first
    | exact wpAny_pure hQ
    | (refine wpAny_bind (wpAny_load ho ?_);rw [hc,hd];show wpAny M A (if (["enumerate","zip","dict_itemiterator","dict_reverseitemiterator","odict_iterator","itertools.zip_longest","itertools.pairwise"].contains n&&vs[0]?==some (rawInt _))=true then _ else _) Q E s;rw [if_neg (by intro h; rw [hn,Bool.false_and] at h; cases h)];exact wpAny_pure hQ))
noncomputable def Il (K:PySem.W.Frag) (a:Addr):It:=
 ⟨λ i H=>∃xs x,fJ K H a xs/\xs[i]?=some x,λ i H x H'=>H'=H/\∀xs,fJ K H a xs->xs[i]?=some x,λ i H=>∃xs,fJ K H a xs/\xs.length<=i⟩
noncomputable def JY (K:PySem.W.Frag) (a:Addr):It:=
 ⟨λ i H=>∃xs x,cL K H a xs/\xs[i]?=some x,λ i H x H'=>H'=H/\∀xs,cL K H a xs->xs[i]?=some x,λ i H=>∃xs,cL K H a xs/\xs.length<=i⟩
noncomputable def Im (lo:Int) (n:Nat):It:=⟨λ i _=>i < n,λ i H x H'=>H'=H/\x=.int (lo+i),λ i _=>n<=i⟩
theorem tM (a it:Addr):Turn P w K tg (Il K a) [it] it (λ i h=>h.IsListIter it a i) where
 mem:=by simp
 obj:=λ i h st b hb=>by
  have e:b=it:=by simpa using hb
  subst e;obtain ⟨o,e,c,d⟩:=st;exact ⟨o,e,λ v z=>by rw [d] at z; cases z⟩
 keep:=λ i h h' st k=>st.at λ o e=>k it (by simp) o e
 item:=by
  intro X hP hw hK hc i aa s σ H E I hf st hg;subst hP hw hK;obtain ⟨xs,x,hq,hx⟩:=hg;obtain ⟨its,rv,p,hz⟩:=I.list hq;obtain ⟨u,hu,ru⟩:=rv.get hx;obtain ⟨f0,f1,f2,f3,f4,f5⟩:=hf it (by simp);refine wpAny_pyNext_list_item st p.isList (x:=u) (by simpa using hu) λ h' st' sb=>?_;have I1:Inv X aa σ H {s with heap:=h'}:=I.turned (t':=s.toks) (λ b o hb e=>(sb.2 b hb).trans e) f0 f1 f3 f4 f5;obtain ⟨o,e,c,d⟩:=id st';exact ⟨u,rfl,rB (s:={s with heap:=h'}) e c d (by decide) ⟨x,H,I1,ru,⟨rfl,λ ys hy=>by rw [I.jF hy hq]; exact hx⟩,st',λ b hb=>(hf b hb).1⟩⟩
 done:=by
  intro X hP hw hK hc i aa s σ H E I hf st hg;subst hP hw hK;obtain ⟨xs,hq,hx⟩:=hg;obtain ⟨its,rv,p,hz⟩:=I.list hq;obtain ⟨f0,f1,f2,f3,f4,f5⟩:=hf it (by simp);have hl:=rv.length;exact wpAny_pyNext_list_end (I.ok.hd hc) st p.isList (by simp; omega) λ h' eb=>⟨rfl,I.turned (t':=s.toks) (λ b o hb e=>eb b o hb e) f0 f1 f3 f4 f5⟩
 self:=λ _ _ _ _ _ st h=>wpAny_pyIter_listiter st h
theorem pS (a it:Addr):Turn P w K tg (JY K a) [it] it (λ i h=>h.IsTupleIter it a i) where
 mem:=by simp
 obj:=λ i h st b hb=>by
  have e:b=it:=by simpa using hb
  subst e;obtain ⟨o,e,c,d⟩:=st;exact ⟨o,e,λ v z=>by rw [d] at z; cases z⟩
 keep:=λ i h h' st k=>st.at λ o e=>k it (by simp) o e
 item:=by
  intro X hP hw hK hc i aa s σ H E I hf st hg;subst hP hw hK;obtain ⟨xs,x,hq,hx⟩:=hg;obtain ⟨its,rv,p,hz⟩:=I.tuple hq;obtain ⟨u,hu,ru⟩:=rv.get hx;obtain ⟨f0,f1,f2,f3,f4,f5⟩:=hf it (by simp);refine wpAny_pyNext_tuple_item st (show s.heap.IsTuple a its.toArray from p) (x:=u) (by simpa using hu) λ h' st' sb=>?_;have I1:Inv X aa σ H {s with heap:=h'}:=I.turned (t':=s.toks) (λ b o hb e=>(sb.2 b hb).trans e) f0 f1 f3 f4 f5;obtain ⟨o,e,c,d⟩:=id st';exact ⟨u,rfl,rB (s:={s with heap:=h'}) e c d (by decide) ⟨x,H,I1,ru,⟨rfl,λ ys hy=>by rw [I.iE hy hq]; exact hx⟩,st',λ b hb=>(hf b hb).1⟩⟩
 done:=by
  intro X hP hw hK hc i aa s σ H E I hf st hg;subst hP hw hK;obtain ⟨xs,hq,hx⟩:=hg;obtain ⟨its,rv,p,hz⟩:=I.tuple hq;obtain ⟨f0,f1,f2,f3,f4,f5⟩:=hf it (by simp);have hl:=rv.length;exact wpAny_pyNext_tuple_end (I.ok.hd hc) st (show s.heap.IsTuple a its.toArray from p) (by simp; omega) λ h' eb=>⟨rfl,I.turned (t':=s.toks) (λ b o hb e=>eb b o hb e) f0 f1 f3 f4 f5⟩
 self:=λ _ _ _ _ _ st h=>wpAny_pyIter_tupleiter st h
theorem pT (it:Addr) (lo:Int) (n:Nat):Turn P w K tg (Im lo n) [it] it (λ i h=>IsRangeIter h it (lo+(i:Nat)*1) ((n:Int) - (i:Nat)) 1) where
 mem:=by simp
 obj:=λ i h st b hb=>by
  have e:b=it:=by simpa using hb
  subst e;exact ⟨_,st,λ v z=>by
   have z':Data.fields _=Data.cell v:=z;cases z'⟩
 keep:=λ i h h' st k=>k it (by simp) _ st
 item:=by
  intro X hP hw hK hc i aa s σ H E I hf st hg;subst hP hw hK;obtain ⟨f0,f1,f2,f3,f4,f5⟩:=hf it (by simp);have W:=Walks.range (prog:=X.prog) (w:=X.w) (I.ok.hd hc) it lo 1 n;refine W.item i s _ _ hg st λ v h' tk hv st' kk=>?_;obtain ⟨t,rfl⟩:=hv;have I1:Inv X aa σ H {s with heap:=h',toks:=tk}:=I.turned (λ b o hb e=>kk b o (by simpa using hb) e) f0 f1 f3 f4 f5;refine ⟨_,rfl,rB (s:={s with heap:=h',toks:=tk}) (n:="range_iterator") st' rfl rfl (by decide) ⟨.int (lo+i),H,I1,⟨t,?_⟩,⟨rfl,rfl⟩,st',λ b hb=>(hf b hb).1⟩⟩;rw [Int.mul_one]
 done:=by
  intro X hP hw hK hc i aa s σ H E I hf st hg;subst hP hw hK;obtain ⟨f0,f1,f2,f3,f4,f5⟩:=hf it (by simp);exact wpAny_pyNext_range_end (I.ok.hd hc) st (by have:n<=i:=hg; omega) λ h' eb=>⟨rfl,I.turned (t':=s.toks) (λ b o hb e=>eb b o hb e) f0 f1 f3 f4 f5⟩
 self:=λ _ _ _ _ _ st h=>wpAny_pyIter_rangeiter st h
end L2
namespace L2
open PySem PySem.Spec PyProof.Rows List
variable {H:Hp} {fp:List Addr} {aa:List (Addr×Obj)} {s:Shared} {σ:St}
section
variable {X:Cx} {tg:Expr}
noncomputable def FZ (K:PySem.W.Frag) (tl:TE):TI:=fun σ H R=>tl σ H λ x H1=>∃a,x=.ref a/\(∃xs,fJ K H1 a xs)/\R (Il K a) H1
noncomputable def JZ (K:PySem.W.Frag) (tl:TE):TI:=fun σ H R=>tl σ H λ x H1=>∃a,x=.ref a/\(∃xs,cL K H1 a xs)/\R (JY K a) H1
theorem zg {l:Expr} {tl:TE} (hl:PE X l tl):PI X tg l (FZ X.K tl):=by
 intro aa s σ H R I h;refine bQ (hl aa s σ H _ I h) λ v s1 ⟨x,H1,I1,r1,q1⟩=>?_;obtain ⟨a,e,⟨xs,hq⟩,q⟩:=q1;subst e;cases r1;obtain ⟨its,rv,p,hz⟩:=I1.list hq;refine wpAny_pyIter_list p.isList ?_;refine ⟨s1.heap.objs.size,[s1.heap.objs.size],_,_,H1,rfl,I1.kept (t':=s1.toks) λ b o e=>Heap.get?_push_of_some _ e,tM a _,⟨_,Heap.get?_push_size _ rfl,rfl,rfl⟩,λ b hb=>?_,q⟩;have e:b=s1.heap.objs.size:=by simpa using hb
 subst e;exact I1.lW (Nat.le_refl _) (I1.hok.fresh (Nat.le_refl _))
theorem CP {l:Expr} {tl:TE} (hl:PE X l tl):PI X tg l (JZ X.K tl):=by
 intro aa s σ H R I h;refine bQ (hl aa s σ H _ I h) λ v s1 ⟨x,H1,I1,r1,q1⟩=>?_;obtain ⟨a,e,⟨xs,hq⟩,q⟩:=q1;subst e;cases r1;obtain ⟨its,rv,p,hz⟩:=I1.tuple hq;refine wpAny_pyIter_tuple (show s1.heap.IsTuple a its.toArray from p) ?_;refine ⟨s1.heap.objs.size,[s1.heap.objs.size],_,_,H1,rfl,I1.kept (t':=s1.toks) λ b o e=>Heap.get?_push_of_some _ e,pS a _,⟨_,Heap.get?_push_size _ rfl,rfl,rfl⟩,λ b hb=>?_,q⟩;have e:b=s1.heap.objs.size:=by simpa using hb
 subst e;exact I1.lW (Nat.le_refl _) (I1.hok.fresh (Nat.le_refl _))
theorem vq {R:It->Hp->Prop} {E:Value->Shared->Prop} {lo hi:Int} {t u v:Tok} {tk:Nat} (I:Inv X aa σ H s) (h1:-(2^62)<=lo) (h2:lo < 2^62) (h3:-(2^62)<=hi) (h4:hi < 2^62)
  (q:R (Im lo (hi - lo).toNat) H):wpAny (model X.prog X.w) X.A (pyIter (.ref s.heap.objs.size)) (Lv X aa σ tg R) E {s with heap:=s.heap.push {cls:=.type "range",data:=.fields #[.int lo t,.int hi u,.int 1 v]},toks:=tk}:=by
 refine wpAny_pyIter_range (IsRange.new ..) (small_one h1 h2 h3 h4) ?_;have I1:Inv X aa σ H {s with heap:=s.heap.push {cls:=.type "range",data:=.fields #[.int lo t,.int hi u,.int 1 v]},toks:=tk}:=I.kept λ b o e=>Heap.get?_push_of_some _ e;refine ⟨(s.heap.push {cls:=.type "range",data:=.fields #[.int lo t,.int hi u,.int 1 v]}).objs.size,[(s.heap.push {cls:=.type "range",data:=.fields #[.int lo t,.int hi u,.int 1 v]}).objs.size],_,_,H,rfl,
  I1.kept (t':=tk) λ b o e=>Heap.get?_push_of_some _ e,pT _ lo (hi - lo).toNat,?_,λ b hb=>?_,q⟩
 ·have e1:lo+((0:Nat):Int)*1=lo:=by simp
  have e2:(((hi - lo).toNat:Nat):Int) - ((0:Nat):Int)=Builtin.Range.rangeSize lo hi 1:=by rw [rangeSize_one]; split<;>omega
  show IsRangeIter _ _ (lo+((0:Nat):Int)*1) ((((hi - lo).toNat:Nat):Int) - ((0:Nat):Int)) 1;rw [e1,e2];exact Heap.get?_push_size _ rfl
 ·have e:b=(s.heap.push {cls:=.type "range",data:=.fields #[.int lo t,.int hi u,.int 1 v]}).objs.size:=by simpa using hb
  subst e;exact I1.lW (Nat.le_refl _) (I1.hok.fresh (Nat.le_refl _))
noncomputable def F3 (ta:TA):TI:=fun σ H R=>ta σ H λ vs H1=>∃j:Int,vs=[.int j]/\-(2^62)<=j/\j < 2^62/\R (Im 0 j.toNat) H1
theorem tN {a:Expr} {ta:TA} {p pos:Pos} (hg:Gl X "range") (hm:X.mg "range"=none) (ha:PA X [a] ta) (hs:starEach [a] X.env=[(false,eval a X.env)]:=by rfl):PI X tg (.Call (.Name "range" p) [a] [] pos) (F3 ta):=by
 intro aa s σ H R I h;refine Call_ (fM I hg hm boot_range (PyProof.Rows.callWith_type1 (bQ (ha pos aa s σ H _ I h) λ us s1 ⟨vs,H1,I1,r1,q1⟩=>?_) hs rfl));obtain ⟨j,e,q1,q2,q⟩:=q1;subst e;cases r1 with
 | cons r rr=>
  cases rr;obtain ⟨t,rfl⟩:=r;exact call_range_1 (vq I1 (by omega) (by omega) q1 q2 (by simpa using q))
noncomputable def J0 (wi:TI) (g:TG) (tb:TS):TS:=λ D σ H=>wi σ H λ J H1=>∃W:Nat->Nat->St->Hp->Prop,(∃m,W 0 m σ H1)/\∀i m σ H,W i m σ H->
 (J.stop i H/\D.nx σ H)\/(J.go i H/\∃N:St->Hp->Prop,(∀σ' H',N σ' H'->∃m',m' < m/\W (i+1) m' σ' H')/\∀x H',J.yld i H x H'->g x σ H' fun σ2 H2=>tb {D with nx:=N,ct:=N,bk:=D.nx} σ2 H2)
noncomputable def jG (fp:List Addr) (h:Heap):List (Addr×Obj):=fp.filterMap λ b=>(h.get? b).map λ o=>(b,o)
theorem fh {h:Heap} {b:Addr} {o:Obj} (hb:b∈fp) (e:h.get? b=some o):(b,o)∈jG fp h:=List.mem_filterMap.mpr ⟨b,hb,by rw [e]; rfl⟩
theorem tO {h:Heap} {p:Addr×Obj} (hp:p∈jG fp h):p.1∈fp/\h.get? p.1=some p.2:=by
 obtain ⟨b,hb,e⟩:=List.mem_filterMap.mp hp;cases q:h.get? b with
 | none=>rw [q] at e; cases e
 | some o=>
  rw [q] at e;have e':(b,o)=p:=Option.some.inj e;subst e';exact ⟨hb,q⟩
theorem Inv.pinned (I:Inv X aa σ H s) (hf:∀b∈fp,gv X aa H b) (ho:∀b∈fp,∃o,s.heap.get? b=some o/\∀v,o.data≠.cell v):Inv X (aa++jG fp s.heap) σ H s:=
 I.rA λ p hp=>(List.mem_append.mp hp).elim (λ z=>I.pin p (mem_append_right _ z)) λ z=>by
  obtain ⟨hb,e⟩:=tO z;obtain ⟨f0,f1,f2,_⟩:=hf p.1 hb;obtain ⟨o,e',d⟩:=ho p.1 hb;rw [e] at e'; cases e';exact ⟨e,f0,f1,f2,d⟩
theorem Inv.gR {pl:List (Addr×Obj)} (I:Inv X (aa++pl) σ H s):Inv X aa σ H s:=I.rA λ p hp=>I.pin p (mem_append_right _ (mem_append_left _ hp))
theorem CQ {iter:Expr} {body:List Stmt} {wi:TI} {g:TG} {tb:TS} {pos:Pos} (hp:PassesOwn (model X.prog X.w) X.A X.env X.xe) (hc:X.calm=true) (hi:PI X tg iter wi) (hg:PG X tg g) (hb:iX X body tb)
  (hs:∀x,foldedSetIterable iter X.env x=pure x:=by intro _; rfl):PS X (.For tg iter body [] pos) (J0 wi g tb):=by
 intro aa s σ H D I h;refine wpAny_For (bQ (hi aa s σ H _ I h) λ v s1 h1=>bQ h1 λ itv s2 h2=>?_) hs;obtain ⟨it,fp,tn,J,H2,e,I2,T,st2,f2,W,⟨m0,w0⟩,turn⟩:=h2;subst e;have stat:∀{H':Hp},(∀b∈fp,H' b=none)->∀b∈fp,gv X aa H' b:=λ hn b hb=>⟨hn b hb,(f2 b hb).2⟩;refine codeAny_forLoop_any (λ n s'=>∃i σ' H',Inv X aa σ' H' s'/\tn i s'.heap/\(∀b∈fp,H' b=none)/\W i n σ' H') ?_ m0 ⟨0,σ,H2,I2,st2,λ b hb=>(f2 b hb).1,w0⟩;rintro n s3 ⟨i,σ3,H3,I3,st3,fr3,w3⟩;rcases turn i n σ3 H3 w3 with ⟨stop,qn⟩ | ⟨go,N,hN,step⟩
 ·refine wpAny_passesOwn hp (bQ (T.done X rfl rfl rfl hc i aa s3 σ3 H3 X.xe I3 (stat fr3) st3 stop) λ r s4 ⟨hr,I4⟩=>?_);subst hr;exact wpAny_execs_nil ⟨σ3,H3,I4,qn⟩
 ·refine wpAny_passesOwn hp (bQ (T.item X rfl rfl rfl hc i aa s3 σ3 H3 X.xe I3 (stat fr3) st3 go) λ r s4 ⟨u,hr,h4⟩=>?_);subst hr;refine wpAny_passesOwn hp (bQ h4 λ _ s5 ⟨x,H5,I5,r5,y5,st5,fr5⟩=>?_);have Ma:=I5.pinned (stat fr5) (T.obj _ _ st5);refine wpAny_passesOwn hp (bQ (hg _ s5 σ3 H5 x u _ Ma r5 (step x H5 y5)) λ _ s6 ⟨σ6,H6,I6,q6⟩=>?_);refine wpAny_passesOwn hp (bQ (hb _ s6 σ6 H6 _ I6 q6) λ f s7 q7=>?_);have again:∀{σ7:St} {H7:Hp},Inv X (aa++jG fp s5.heap) σ7 H7 s7->N σ7 H7->∃m,m < n/\∃i σ' H',Inv X aa σ' H' s7/\tn i s7.heap/\(∀b∈fp,H' b=none)/\W i m σ' H':=λ {σ7 H7} I7 n7=>by
   obtain ⟨m',hm,w7⟩:=hN σ7 H7 n7;refine ⟨m',hm,i+1,σ7,H7,I7.gR,T.keep _ _ _ st5 λ b hb o e=>(I7.pin (b,o) (mem_append_right _ (mem_append_right _ (fh hb e)))).1,λ b hb=>?_,w7⟩;obtain ⟨o,e,d⟩:=T.obj _ _ st5 b hb;exact (I7.pin (b,o) (mem_append_right _ (mem_append_right _ (fh hb e)))).2.1
  cases f with
  | next=>obtain ⟨σ7,H7,I7,n7⟩:=q7; exact again I7 n7
  | cont=>obtain ⟨σ7,H7,I7,n7⟩:=q7; exact again I7 n7
  | brk=>obtain ⟨σ7,H7,I7,q7⟩:=q7; exact ⟨σ7,H7,I7.gR,q7⟩
  | ret v=>obtain ⟨x7,σ7,H7,I7,r7,q7⟩:=q7; exact ⟨x7,σ7,H7,I7.gR,r7,q7⟩
end
end L2
namespace L2
open PySem PySem.Spec PyProof.Rows List
variable {f:Value->Value->Sem Value} {op:CmpOp} {r:R2}
abbrev R2:=V->V->Hp->VK->Prop
def fj (X:Cx) (f:Value->Value->Sem Value) (r:R2):Prop:=
 ∀(aa:List (Addr×Obj)) (s:Shared) (σ:St) (H:Hp) (x y:V) (v u:Value) (Q:VK),Inv X aa σ H s->RelV x v->RelV y u->r x y H Q->
  wpAny (model X.prog X.w) X.A (f v u) (EP X aa σ Q) X.xe s
def J1 (X:Cx) (f:Value->Sem Value) (r:V->Hp->VK->Prop):Prop:=
 ∀(aa:List (Addr×Obj)) (s:Shared) (σ:St) (H:Hp) (x:V) (v:Value) (Q:VK),Inv X aa σ H s->RelV x v->r x H Q->
  wpAny (model X.prog X.w) X.A (f v) (EP X aa σ Q) X.xe s
def bU (X:Cx) (f:Value) (r:List V->Hp->VK->Prop):Prop:=
 ∀(aa:List (Addr×Obj)) (s:Shared) (σ:St) (H:Hp) (xs:List V) (us:List Value) (Q:VK),Inv X aa σ H s->Vals xs us->r xs H Q->
  wpAny (model X.prog X.w) X.A (call f us) (EP X aa σ Q) X.xe s
def J2 (X:Cx) (r:V->Hp->(Bool->Hp->Prop)->Prop):Prop:=
 ∀(aa:List (Addr×Obj)) (s:Shared) (σ:St) (H:Hp) (x:V) (v:Value) (Q:Bool->Hp->Prop),Inv X aa σ H s->RelV x v->r x H Q->
  wpAny (model X.prog X.w) X.A (truthy v) (TP X aa σ Q) X.xe s
noncomputable def Io (r:R2) (ta tb:TE):TE:=fun σ H Q=>ta σ H λ x H1=>tb σ H1 λ y H2=>r x y H2 Q
noncomputable def Mb (r:V->Hp->VK->Prop) (ta:TE):TE:=fun σ H Q=>ta σ H λ x H1=>r x H1 Q
noncomputable def rI (C:Int->Int->Prop) (g:Int->Int->V):R2:=λ x y H Q=>∃i j,x=.int i/\y=.int j/\C i j/\Q (g i j) H
noncomputable def Bo (g:Int->Int->V):R2:=λ x y H Q=>∃i j,x=.int i/\y=.int j/\Q (g i j) H
noncomputable def rU (g:Int->V):V->Hp->VK->Prop:=λ x H Q=>∃i,x=.int i/\Q (g i) H
section
variable {X:Cx} {a b c:Expr} {ta tb tc:TE} {pos:Pos}
theorem CS (ha:PE X a ta) (hb:PE X b tb) {aa:List (Addr×Obj)} {s:Shared} {σ:St} {H:Hp} {R:V->V->Hp->Prop} (I:Inv X aa σ H s)
  (h:ta σ H λ x H1=>tb σ H1 λ y H2=>R x y H2) {Q:Value->Shared->Prop}
  (hf:∀v u s2 x y H2,Inv X aa σ H2 s2->RelV x v->RelV y u->R x y H2->wpAny (model X.prog X.w) X.A (f v u) Q X.xe s2) :
  wpAny (model X.prog X.w) X.A (eval a X.env) (λ v s₁=>wpAny (model X.prog X.w) X.A (eval b X.env) (λ u s₂=>wpAny (model X.prog X.w) X.A (f v u) Q X.xe s₂) X.xe s₁) X.xe s:=by
 refine bQ (ha aa s σ H _ I h) λ v s1 ⟨x,H1,I1,r1,q1⟩=>?_;refine bQ (hb aa s1 σ H1 _ I1 q1) λ u s2 ⟨y,H2,I2,r2,q2⟩=>?_;exact hf v u s2 x y H2 I2 r1 r2 q2
theorem F4 {op:Operator} (ho:fj X (binaryOp op) r) (ha:PE X a ta) (hb:PE X b tb):PE X (.BinOp a op b pos) (Io r ta tb):=by
 intro aa s σ H Q I h;exact wpAny_BinOp (CS ha hb I h λ v u s2 x y H2 I2 rx ry q=>ho aa s2 σ H2 x y v u Q I2 rx ry q)
theorem F5 {op:UnaryOp} {r:V->Hp->VK->Prop} (ho:J1 X (unaryOp op) r) (ha:PE X a ta):PE X (.UnaryOp op a pos) (Mb r ta):=by
 intro aa s σ H Q I h;exact UnaryOp_ (bQ (ha aa s σ H _ I h) λ v s1 ⟨x,H1,I1,r1,q1⟩=>ho aa s1 σ H1 x v Q I1 r1 q1)
theorem Ip {C:Int->Int->Prop} {g:Int->Int->Int}
  (rule:∀(i j:Int) (t u:Tok) (s:Shared) (Q:Value->Shared->Prop) (E:Value->Shared->Prop),C i j->Q (.int (g i j) s.toks) {s with toks:=s.toks+1}->wpAny (model X.prog X.w) X.A (f (.int i t) (.int j u)) Q E s) :
  fj X f (rI C λ i j=>.int (g i j)):=by
 intro aa s σ H x y v u Q I rx ry h;obtain ⟨i,j,rfl,rfl,hc,q⟩:=h;obtain ⟨t,rfl⟩:=rx;obtain ⟨t',rfl⟩:=ry;exact rule i j t t' s _ _ hc ⟨.int (g i j),H,I.tok _,⟨_,rfl⟩,q⟩
theorem F6 {g:Int->Int->Int}
  (rule:∀(i j:Int) (t u:Tok) (s:Shared) (Q:Value->Shared->Prop) (E:Value->Shared->Prop),Q (.int (g i j) s.toks) {s with toks:=s.toks+1}->wpAny (model X.prog X.w) X.A (f (.int i t) (.int j u)) Q E s) :
  fj X f (Bo λ i j=>.int (g i j)):=by
 intro aa s σ H x y v u Q I rx ry h;obtain ⟨i,j,rfl,rfl,q⟩:=h;obtain ⟨t,rfl⟩:=rx;obtain ⟨t',rfl⟩:=ry;exact rule i j t t' s _ _ ⟨.int (g i j),H,I.tok _,⟨_,rfl⟩,q⟩
theorem zh {g:Int->Int->Bool}
  (rule:∀(i j:Int) (t u:Tok) (s:Shared) (Q:Value->Shared->Prop) (E:Value->Shared->Prop),Q (.bool (g i j)) s->wpAny (model X.prog X.w) X.A (f (.int i t) (.int j u)) Q E s) :
  fj X f (Bo λ i j=>.bl (g i j)):=by
 intro aa s σ H x y v u Q I rx ry h;obtain ⟨i,j,rfl,rfl,q⟩:=h;obtain ⟨t,rfl⟩:=rx;obtain ⟨t',rfl⟩:=ry;exact rule i j t t' s _ _ ⟨.bl (g i j),H,I,rfl,q⟩
def F7 (i j:Int):Prop:=0 < j/\j < 1073741824
def J3 (i j:Int):Prop:=0<=j/\j<=1000000/\i.natAbs < 2^64
def zj (i j:Int):Prop:=(-(2^64) < i/\i < 2^64)\/(-(2^64) < j/\j < 2^64)
theorem zj.ok {i j:Int} (h:zj i j):IntMulOk i j:=by
 rcases h with ⟨h1,h2⟩ | ⟨h1,h2⟩
 ·exact .of_left (intBits_le_64 h1 h2)
 ·exact .of_right (intBits_le_64 h1 h2)
theorem CT:fj X (binaryOp .Add) (Bo λ i j=>.int (i+j)):=F6 λ _ _ _ _ _ _ _ q=>add_int q
theorem CU:fj X (binaryOp .Sub) (Bo λ i j=>.int (i - j)):=F6 λ _ _ _ _ _ _ _ q=>sub_int q
theorem CV:fj X (binaryOp .Mult) (rI zj λ i j=>.int (i*j)):=Ip λ _ _ _ _ _ _ _ hc q=>mul_int q hc.ok
theorem zk:fj X (binaryOp .FloorDiv) (rI F7 λ i j=>.int (i / j)):=Ip λ i j _ _ _ _ _ hc q=>by
 have h1:(0:Int) < j:=hc.1;have h2:j < 1073741824:=hc.2;exact floordiv_int (by omega) (by rw [Int.fdiv_eq_ediv_of_nonneg i (by omega)]; exact q) (.inl (PyProof.noPylong_small (by omega)))
theorem CW:fj X (binaryOp .Mod) (rI (λ _ j=>0 < j) λ i j=>.int (i%j)):=Ip λ i j _ _ _ _ _ hc q=>by
 have h1:(0:Int) < j:=hc;exact mod_int' (by omega) (by rw [Int.fmod_eq_emod_of_nonneg i (by omega)]; exact q)
theorem CY:fj X (binaryOp .Pow) (rI J3 λ i j=>.int (i^j.toNat)):=Ip λ _ _ _ _ _ _ _ hc q=>pow_int_small hc.1 hc.2.1 hc.2.2 q
theorem Mc {f:Value->Sem Value} {g:Int->Int}
  (rule:∀(i:Int) (t:Tok) (s:Shared) (Q:Value->Shared->Prop) (E:Value->Shared->Prop),Q (.int (g i) s.toks) {s with toks:=s.toks+1}->wpAny (model X.prog X.w) X.A (f (.int i t)) Q E s) :
  J1 X f (rU λ i=>.int (g i)):=by
 intro aa s σ H x v Q I rx h;obtain ⟨i,rfl,q⟩:=h;obtain ⟨t,rfl⟩:=rx;exact rule i t s _ _ ⟨.int (g i),H,I.tok _,⟨_,rfl⟩,q⟩
theorem CZ:J1 X (unaryOp .USub) (rU λ i=>.int (-i)):=Mc λ _ _ _ _ _ q=>neg_int q
end
section
variable {X:Cx} {a b c:Expr} {ta tb tc:TE} {pos:Pos}
theorem jH {aa:List (Addr×Obj)} {σ:St} {H:Hp} {s:Shared} {Q:VK} {k k':Bool} (I:Inv X aa σ H s) (q:Q (.bl k) H) (e:k=k'):EP X aa σ Q (.bool k') s:=by
 subst e;exact ⟨.bl k,H,I,rfl,q⟩
theorem F8:fj X (compareOp .Lt) (Bo λ i j=>.bl (decide (i < j))):=zh λ _ _ _ _ _ _ _ q=>lt_int q
theorem F9:fj X (compareOp .LtE) (Bo λ i j=>.bl (decide (i<=j))):=zh λ _ _ _ _ _ _ _ q=>le_int q
theorem Ga:fj X (compareOp .Gt) (Bo λ i j=>.bl (decide (j < i))):=zh λ _ _ _ _ _ _ _ q=>gt_int q
theorem Gb:fj X (compareOp .GtE) (Bo λ i j=>.bl (decide (j<=i))):=zh λ _ _ _ _ _ _ _ q=>ge_int q
theorem tP:fj X (compareOp .Lt) (λ x y H Q=>∃i j,x=.str i/\y=.str j/\Q (.bl (decide (i.cps.toList < j.cps.toList))) H):=by
 intro aa s σ H x y v u Q I rx ry h;obtain ⟨i,j,rfl,rfl,q⟩:=h;obtain ⟨t,rfl⟩:=rx;obtain ⟨t',rfl⟩:=ry;exact lt_str (jH I q rfl)
theorem tQ:fj X (compareOp .In) (λ x y H Q=>∃i j,x=.str i/\y=.str j/\Q (.bl (!(Builtin.Str.occurrences j i 0 j.length 1).isEmpty)) H):=by
 intro aa s σ H x y v u Q I rx ry h;obtain ⟨i,j,rfl,rfl,q⟩:=h;obtain ⟨t,rfl⟩:=rx;obtain ⟨t',rfl⟩:=ry;exact in_str (jH I q rfl)
theorem C0:fj X (compareOp .Is) (λ x y H Q=>y=.non/\Q (.bl (decide (x=.non))) H):=by
 intro aa s σ H x y v u Q I rx ry h;obtain ⟨rfl,q⟩:=h;cases ry;refine is_none_gen (jH I q ?_);cases x<;>first
  | (cases rx; rfl)
  | (obtain ⟨t,rfl⟩:=rx; rfl)
theorem zl:fj X (compareOp .IsNot) (λ x y H Q=>y=.non/\Q (.bl (!decide (x=.non))) H):=by
 intro aa s σ H x y v u Q I rx ry h;obtain ⟨rfl,q⟩:=h;cases ry;refine isnot_none_gen (jH I q ?_);cases x<;>first
  | (cases rx; rfl)
  | (obtain ⟨t,rfl⟩:=rx; rfl)
theorem lX (ho:fj X (compareOp op) r) (ha:PE X a ta) (hb:PE X b tb) (hm:behindInMarks op b=false):PE X (.Compare a [op] [b] pos) (Io r ta tb):=by
 intro aa s σ H Q I h;exact wpAny_Compare1 (CS ha hb I h λ v u s2 x y H2 I2 rx ry q=>ho aa s2 σ H2 x y v u Q I2 rx ry q) hm
noncomputable def Bp (t:TE):TT:=fun σ H Q=>t σ H λ x H'=>∃k,x=.bl k/\Q k H'
theorem lY (ho:fj X (compareOp op) r) (ha:PE X a ta) (hb:PE X b tb) (hm:behindInMarks op b=false):PT X (.Compare a [op] [b] pos) (Bp (Io r ta tb)):=by
 intro aa s σ H Q I h;refine wpAny_isTrue_Compare1 (bQ (ha aa s σ H _ I h) λ v s1 ⟨x,H1,I1,r1,q1⟩=>bQ (hb aa s1 σ H1 _ I1 q1) λ u s2 ⟨y,H2,I2,r2,q2⟩=>
  bQ (ho aa s2 σ H2 x y v u _ I2 r1 r2 q2) λ c s3 ⟨z,H3,I3,r3,k,e,q3⟩=>?_) hm
 subst e;cases r3;exact wpAny_truthy_bool ⟨H3,I3,q3⟩
noncomputable def pU (r r':R2) (ta tb tc:TE):TE:=fun σ H Q=>ta σ H λ x H1=>tb σ H1 λ y H2=>r x y H2 λ z H3=>∃k,z=.bl k/\
 (if k=true then tc σ H3 λ w' H4=>r' y w' H4 Q else Q (.bl false) H3)
theorem vt {op':CmpOp} {r':R2} (ho:fj X (compareOp op) r) (ho':fj X (compareOp op') r') (ha:PE X a ta) (hb:PE X b tb) (hc:PE X c tc)
  (hm:lastMarks [op,op'] [b,c]=false:=by with_unfolding_all rfl):PE X (.Compare a [op,op'] [b,c] pos) (pU r r' ta tb tc):=by
 intro aa s σ H Q I h;refine Compare_chain (bQ (ha aa s σ H _ I h) λ v s1 ⟨x,H1,I1,r1,q1⟩=>chain_link (bQ (hb aa s1 σ H1 _ I1 q1) λ u s2 ⟨y,H2,I2,r2,q2⟩=>
  bQ (ho aa s2 σ H2 x y v u _ I2 r1 r2 q2) λ d s3 ⟨z,H3,I3,r3,k,e,q3⟩=>?_)) hm
 subst e;cases r3;refine wpAny_truthy_bool ?_;cases k with
 | false=>exact ite_ff ⟨.bl false,H3,I3,rfl,q3⟩
 | true=>exact ite_tt (chain_last (bQ (hc aa s3 σ H3 _ I3 q3) λ w' s4 ⟨z',H4,I4,r4,q4⟩=>ho' aa s4 σ H4 y z' u w' Q I4 r2 r4 q4))
theorem vv {op':CmpOp} {r':R2} (ho:fj X (compareOp op) r) (ho':fj X (compareOp op') r') (ha:PE X a ta) (hb:PE X b tb) (hc:PE X c tc)
  (hm:lastMarks [op,op'] [b,c]=false:=by with_unfolding_all rfl):PT X (.Compare a [op,op'] [b,c] pos) (Bp (pU r r' ta tb tc)):=by
 intro aa s σ H Q I h;refine isTrue_chain (bQ (ha aa s σ H _ I h) λ v s1 ⟨x,H1,I1,r1,q1⟩=>test_link (bQ (hb aa s1 σ H1 _ I1 q1) λ u s2 ⟨y,H2,I2,r2,q2⟩=>
  bQ (ho aa s2 σ H2 x y v u _ I2 r1 r2 q2) λ d s3 ⟨z,H3,I3,r3,k,e,q3⟩=>?_)) hm
 subst e;cases r3;refine wpAny_truthy_bool ?_;cases k with
 | false=>
  obtain ⟨k',e',q'⟩:=q3;cases e';exact ite_ff ⟨H3,I3,q'⟩
 | true=>
  refine ite_tt (test_last (bQ (hc aa s3 σ H3 _ I3 q3) λ w' s4 ⟨z',H4,I4,r4,q4⟩=>bQ (ho' aa s4 σ H4 y z' u w' _ I4 r2 r4 q4) λ d' s5 ⟨z2,H5,I5,r5,k2,e2,q5⟩=>?_));subst e2;cases r5;exact wpAny_truthy_bool ⟨H5,I5,q5⟩
def C1 (K:PySem.W.Frag) (x:V) (H:Hp) (k:Bool):Prop:=
 match x with
 | .non=>k=false
 | .bl b=>k=b
 | .int i=>k=(i != 0)
 | .str y=>y.length<=sizeLine/\k=((y.length:Int) != 0)
 | .byt y=>y.size<=sizeLine/\k=((y.size:Int) != 0)
 | .ref p=>(∃xs,fJ K H p xs/\k=!xs.isEmpty)\/(∃xs,cL K H p xs/\k=!xs.isEmpty)\/∃kvs,H p=some (.dK kvs)/\k=!kvs.isEmpty
 | _=>False
theorem pV {κ:Type} {kvs:List (κ×V)} {vs:List (κ×Value)} (r:KV kvs vs):(!vs.isEmpty)=!kvs.isEmpty:=by
 cases r<;>rfl
theorem jI {xs:List V} {its:List Value} (r:Vals xs its):(!its.toArray.isEmpty)=!xs.isEmpty:=by
 cases r<;>simp
theorem fO:(sizeLine:Nat) < 2^63:=by rw [sizeLine_eq]; decide
theorem C2:J2 X (λ x H Q=>∃k,C1 X.K x H k/\Q k H):=by
 intro aa s σ H x v Q I rx h;obtain ⟨k,e,q⟩:=h;have hl:=fO;have hs:sizeLine=16777216:=sizeLine_eq;cases x with
 | non=>
  cases rx;have e':k=false:=e;subst e';exact truthy_none ⟨H,I,q⟩
 | bl b=>
  cases rx;have e':k=b:=e;subst e';exact wpAny_truthy_bool ⟨H,I,q⟩
 | int i=>
  obtain ⟨t,rfl⟩:=rx;have e':k=(i != 0):=e;subst e';exact PySem.P.truthy_int ⟨H,I,q⟩
 | str y=>
  obtain ⟨t,rfl⟩:=rx;obtain ⟨hy,e'⟩:y.length<=sizeLine/\k=((y.length:Int) != 0):=e;subst e';exact PySem.P.truthy_str (by omega) ⟨H,I.tok _,q⟩
 | byt y=>
  obtain ⟨t,rfl⟩:=rx;obtain ⟨hy,e'⟩:y.size<=sizeLine/\k=((y.size:Int) != 0):=e;subst e';exact PySem.W.truthy_bytes (by omega) ⟨H,I.tok _,q⟩
 | ref p=>
  cases rx;have e':(∃xs,fJ X.K H p xs/\k=!xs.isEmpty)\/(∃xs,cL X.K H p xs/\k=!xs.isEmpty)\/∃kvs,H p=some (.dK kvs)/\k=!kvs.isEmpty:=e;rcases e' with ⟨xs,hx,e'⟩ | ⟨xs,hx,e'⟩ | ⟨kvs,hx,e'⟩
  ·subst e';obtain ⟨its,r,pl,hz⟩:=I.list hx;have hlen:=r.length;exact wpAny_truthy_list pl.isList (by simp only [List.size_toArray]; omega) ⟨H,I.tok _,by rw [jI r]; exact q⟩
  ·subst e';obtain ⟨its,r,pl,hz⟩:=I.tuple hx;have hlen:=r.length;exact truthy_tuple pl (by simp only [List.size_toArray]; omega) ⟨H,I.tok _,by rw [jI r]; exact q⟩
  ·subst e';obtain ⟨hz,hS,vs,r,m⟩:kvs.length<=sizeLine/\(p==sysModules)=false/\∃vs,KV kvs vs/\s.heap.DictOf (bC X.prog X.w) p vs:=I.hok p _ hx;have hlen:kvs.length=vs.length:=Paired.length r;exact wpAny_truthy_dict hS m (by omega) ⟨H,I.tok _,by rw [pV r]; exact q⟩
 | _=>exact (show False from e).elim
theorem vz (ha:PE X a ta) (he:∀whole,isTrue a X.env whole=(do let v <-whole; standAt a.pos; holding [v] (truthy v))) :
  PT X a (fun σ H Q=>ta σ H λ x H'=>∃k,C1 X.K x H' k/\Q k H'):=by
 intro aa s σ H Q I h;exact isTrue_plain (bQ (ha aa s σ H _ I h) λ v s1 ⟨x,H1,I1,r1,q1⟩=>C2 aa s1 σ H1 x v Q I1 r1 q1) (he _)
theorem pW:fj X (binaryOp .Add) (λ x y H Q=>∃i j,x=.str i/\y=.str j/\i.length+j.length<=sizeLine/\Q (.str (i++j)) H):=by
 intro aa s σ H x y v u Q I rx ry h;obtain ⟨i,j,rfl,rfl,hz,q⟩:=h;obtain ⟨t,rfl⟩:=rx;obtain ⟨t',rfl⟩:=ry;exact add_str (λ t' tk=>⟨.str (i++j),H,I.tok _,⟨_,rfl⟩,q⟩) hz
theorem vals1 {x:V} {us:List Value} (r:Vals [x] us):∃u,us=[u]/\RelV x u:=by
 cases r with
 | cons r1 r2=>cases r2; exact ⟨_,rfl,r1⟩
theorem vals2 {x y:V} {us:List Value} (r:Vals [x,y] us):∃u w',us=[u,w']/\RelV x u/\RelV y w':=by
 cases r with
 | cons r1 r2=>
  cases r2 with
  | cons r3 r4=>cases r4; exact ⟨_,_,rfl,r1,r3⟩
theorem vA:bU X (.builtin "abs") (λ xs H Q=>∃i,xs=[.int i]/\Q (.int (if i < 0 then -i else i)) H):=by
 intro aa s σ H xs us Q I r h;obtain ⟨i,rfl,q⟩:=h;obtain ⟨u,rfl,t,rfl⟩:=vals1 r;exact call_abs_int λ u tk=>⟨.int (if i < 0 then -i else i),H,I.tok _,⟨_,rfl⟩,q⟩
theorem tR (hc:X.calm=true):bU X (.builtin "max") (λ xs H Q=>∃i j,xs=[.int i,.int j]/\Q (.int (if j>i then j else i)) H):=by
 intro aa s σ H xs us Q I r h;obtain ⟨i,j,rfl,q⟩:=h;obtain ⟨u,w',rfl,⟨t,rfl⟩,⟨t',rfl⟩⟩:=vals2 r;refine max_two_ints (I.ok.hd hc) λ h' tk k=>⟨_,H,I.kept k,?_,q⟩
 by_cases hj:j>i
 ·rw [if_pos hj,if_pos hj]; exact ⟨_,rfl⟩
 ·rw [if_neg hj,if_neg hj]; exact ⟨_,rfl⟩
theorem tS (hc:X.calm=true):bU X (.builtin "min") (λ xs H Q=>∃i j,xs=[.int i,.int j]/\Q (.int (if j < i then j else i)) H):=by
 intro aa s σ H xs us Q I r h;obtain ⟨i,j,rfl,q⟩:=h;obtain ⟨u,w',rfl,⟨t,rfl⟩,⟨t',rfl⟩⟩:=vals2 r;refine min_two_ints (I.ok.hd hc) λ h' tk k=>⟨_,H,I.kept k,?_,q⟩
 by_cases hj:j < i
 ·rw [if_pos hj,if_pos hj]; exact ⟨_,rfl⟩
 ·rw [if_neg hj,if_neg hj]; exact ⟨_,rfl⟩
theorem kY:bU X (.type "int") (λ xs H Q=>(∃i,xs=[.int i]/\Q (.int i) H)\/∃k,xs=[.bl k]/\Q (.int (if k then 1 else 0)) H):=by
 intro aa s σ H xs us Q I r h;rcases h with ⟨i,rfl,q⟩ | ⟨k,rfl,q⟩
 ·obtain ⟨u,rfl,t,rfl⟩:=vals1 r;exact call_int_int ⟨.int i,H,I,⟨_,rfl⟩,q⟩
 ·obtain ⟨u,rfl,r1⟩:=vals1 r;cases r1;exact call_int_bool ⟨.int (if k then 1 else 0),H,I.tok _,⟨_,rfl⟩,q⟩
theorem lZ:bU X (.type "str") (λ xs H Q=>∃i,xs=[.int i]/\i.natAbs.log2 < 1920/\Q (.str (toString i)) H):=by
 intro aa s σ H xs us Q I r h;obtain ⟨i,rfl,hz,q⟩:=h;obtain ⟨u,rfl,t,rfl⟩:=vals1 r;exact PySem.P.str_of_int hz ⟨.str _,H,I.tok _,⟨_,rfl⟩,q⟩
theorem nO:bU X (.builtin "divmod") (λ xs H Q=>∃i j,xs=[.int i,.int j]/\F7 i j/\∀p,H p=none->Q (.ref p) (upd H p (.tup [.int (i / j),.int (i%j)]))):=by
 intro aa s σ H xs us Q I r h;obtain ⟨i,j,rfl,⟨h1,h2⟩,q⟩:=h;obtain ⟨u,w',rfl,⟨t,rfl⟩,⟨t',rfl⟩⟩:=vals2 r;refine divmod_int (by omega) ?_ (.inl (PyProof.noPylong_small (by omega)));rw [Int.fdiv_eq_ediv_of_nonneg i (by omega),Int.fmod_eq_emod_of_nonneg i (by omega)];have hn:H s.heap.objs.size=none:=I.hok.fresh (Nat.le_refl _);refine ⟨.ref s.heap.objs.size,_,?_,rfl,q _ hn⟩;refine I.laid (λ b o e=>Heap.get?_push_of_some _ e) (Nat.le_refl _) ⟨by simp only [length_cons,length_nil]; rw [sizeLine_eq]; decide,[.int (i / j) s.toks,.int (i%j) (s.toks+1)],.cons ⟨_,rfl⟩ (.cons ⟨_,rfl⟩ .nil),?_⟩;exact ⟨_,Heap.get?_push_size s.heap rfl,rfl,0,rfl⟩
end
end L2
namespace L2
open PySem PySem.Spec PyProof.Rows List
variable {C:Addr} {u:Value}
structure nP (h:Heap) (x dx C:Addr) (mA:Str->Option Value):Prop where
 obj:h.get? x=some (PySem.W.instObj C dx)
 ns:h.Ns1 dx mA
 ne:dx≠x
theorem tT {h:Heap} {dx:Addr} {mA:Str->Option Value} (n:h.Ns1 dx mA):∃od,h.get? dx=some od/\∀name,PySem.W.lookIn name od=some (mA name):=by
 obtain ⟨o,es,ep,ho,hd,hk,_,hm⟩:=n;refine ⟨o,ho,λ name=>?_⟩;have e:=hm name;unfold nsFind findBy at e;rw [<-Array.find?_toList] at e;unfold PySem.W.lookIn;rw [hd];dsimp only;split
 ·rename_i y q;rw [q] at e;exact congrArg some e
 ·rename_i q;rw [q] at e;have a:es.toList.any (·.refKey)=false:=by
   rw [any_eq_false];intro y hy;obtain ⟨z,t,hkey⟩:=hk y (Array.mem_toList_iff.mp hy);simp [DictEntry.refKey,hkey]
  have a':¬es.toList.any (·.refKey)=true:=by rw [a]; exact Bool.false_ne_true
  rw [if_neg a'];exact congrArg some e
theorem nP.look {h:Heap} {x dx:Addr} {mA:Str->Option Value} (I:nP h x dx C mA):∃od,PySem.W.InstAt h x (PySem.W.instObj C dx) C (some od)/\∀name,PySem.W.lookIn name od=some (mA name):=
 let ⟨od,ho,hl⟩:=tT I.ns
 ⟨od,⟨I.obj,rfl,rfl,ho⟩,hl⟩
section
variable {prog:Program} {w:World} {A:Around} {E:Value->Shared->Prop} {s:Shared} {K:PySem.W.Frag} {x dx C f:Addr} {mA:Str->Option Value} {name:Str} {v:Value}
theorem get_map {expr:Bool} {Q:Value->Shared->Prop} (X:K.In s.heap) (I:nP s.heap x dx C mA) (hg:PySem.W.plainGet K C name=true) (hh:PySem.W.hasDictIn K C=true)
  (ha:PySem.W.findIn K (.ref C) name=some none) (hv:mA name=some v) (hv':PySem.W.handedIn v=true) (h:Q v {s with toks:=s.toks+1}) :
  wpAny (model prog w) A (getAttr (.ref x) name expr) Q E s:=by
 obtain ⟨od,J,hl⟩:=I.look;exact PySem.W.get_value X J (PySem.W.plainGet_of hg).1 (PySem.W.findObj_own hh ha rfl (by rw [hl,hv])) hv' h
theorem vB {pl:Sem Bool} {Q:Value×List Value->Shared->Prop} (X:K.In s.heap) (I:nP s.heap x dx C mA) (hg:PySem.W.plainGet K C name=true)
  (hf:PySem.W.findIn K (.ref C) name=some (some (.ref f))) (ht:PySem.W.isFn K (.ref f)=true) (hv:mA name=none) (h:Q (.ref f,[.ref x]) s) :
  wpAny (model prog w) A (getMethod (.ref x) name pl) Q E s:=by
 obtain ⟨od,J,hl⟩:=I.look;exact PySem.W.method_fn X J (PySem.W.plainGet_of hg).1 (PySem.W.plainGet_of hg).2 hf (beq_iff_eq.mp ht) (by show (PySem.W.lookIn name od).map (·.isSome)=some false; rw [hl,hv]; rfl) h
theorem zm {ns:List Str} {Q:Unit->Shared->Prop} (X:K.In s.heap) (I:nP s.heap x dx C mA)
  (hs:PySem.W.findIn K (.ref C) "__setattr__"=some (some (.builtin "object.__setattr__"))) (hp:PySem.W.plainOver K C=true) (ht:PySem.W.takerIn K C name=some none) (hh:PySem.W.hasDictIn K C=true)
  (hw:PySem.Within mA ns) (hsz:ns.length<=sizeLine)
  (h:∀h',nP h' x dx C (λ y=>if y=name then some v else mA y)->Heap.SameBut dx s.heap h'->Q () {s with heap:=h',toks:=s.toks+2}) :
  wpAny (model prog w) A (setAttr (.ref x) name v) Q E s:=by
 obtain ⟨od,J,hl⟩:=I.look;refine PySem.W.set_plain X J hs (PySem.W.osa_open (s:={s with toks:=s.toks+1}) (r:=none) X J hp ht λ b=>?_);obtain ⟨cd,hc,hd'⟩:=PySem.W.any_some hh;have hx:s.heap.get? x=some ⟨.ref C,some dx,.plain,#[]⟩:=I.obj;refine wpAny_bind (wpAny_pure (wpAny_bind (wpAny_bind (wpAny_loadPart hx (wpAny_bind (PySem.W.Looks.here (s:={s with toks:=s.toks+1}) (PySem.W.looks_clsIn X hc) ?_))))));rw [hd'];refine wpAny_pure (a:=some dx) (wpAny_bind (wpAny_pure (wpAny_bind ?_)));refine wpAny_nsSet1 (s:={s with toks:=s.toks+1}) I.ns λ h' hn2 hs2=>?_;obtain ⟨oD,esD,epD,hoD,hdD,hcD⟩:=hn2.count (PySem.Within.cons name v hw);refine wpAny_bind (wpAny_lookBehind hoD (by rw [hdD]; exact pastItsLine_dict (Nat.le_trans hcD (by rw [length_cons]; omega))) ?_);exact wpAny_pure (h _ ⟨(hs2.2 _ (Ne.symm I.ne)).trans I.obj,hn2,I.ne⟩ hs2)
theorem vC {R:Result->Shared->Prop} {vs:List Value} {kw:List (Str×Value)} (X:K.In s.heap) (hm:PySem.W.makesIn K C=true)
  (hi:PySem.W.findIn K (.ref C) "__init__"=some (some (.ref f))) (hf:PySem.W.typeIn K (.ref f)=some (.type "function"))
  (h:codeAny (model prog w) (A.under (.builtin "type.__call__" ⟨.ref C::vs,kw⟩)) (.call (.ref f) ⟨.ref (s.heap.objs.size+1)::vs,kw⟩) (PySem.W.InitBack (s.heap.objs.size+1) R)
   {s with heap:=(s.heap.push PySem.W.emptyDict).push (PySem.W.instObj C s.heap.objs.size)}) :
  codeAny (model prog w) A (.call (.ref C) ⟨vs,kw⟩) R s:=by
 obtain ⟨hh,g,d,t,os⟩:=s;exact PySem.W.make_core (PySem.W.makes_of X hm) (PySem.W.looks_findIn X hi) (λ self=>PySem.W.bind_fn X self hf) (.inl rfl) h
end
noncomputable def dM (f:Str) (v:V):List (Str×V)->List (Str×V)
 | []=>[(f,v)]
 | (g,x)::r=>if g=f then (g,v)::r else (g,x)::dM f v r
theorem iY (f g:Str) (v:V):∀fs:List (Str×V),(dM f v fs).lookup g=if g=f then some v else fs.lookup g
 | []=>by
  show List.lookup g [(f,v)]=_
  by_cases h:g=f
  ·have hb:(g==f)=true:=beq_iff_eq.mpr h;simp only [List.lookup,hb,if_pos h]
  ·have hb:(g==f)=false:=beq_eq_false_iff_ne.mpr h;simp only [List.lookup,hb,if_neg h]
 | (k,x)::r=>by
  have ih:=iY f g v r;rw [show dM f v ((k,x)::r)=(if k=f then (k,v)::r else (k,x)::dM f v r) from rfl]
  by_cases hk:k=f
  ·rw [if_pos hk]
   by_cases h:g=k
   ·have hb:(g==k)=true:=beq_iff_eq.mpr h;simp only [List.lookup,hb,if_pos (h.trans hk)]
   ·have hb:(g==k)=false:=beq_eq_false_iff_ne.mpr h;simp only [List.lookup,hb,if_neg (λ e:g=f=>h (e.trans hk.symm))]
  ·rw [if_neg hk]
   by_cases h:g=k
   ·have hb:(g==k)=true:=beq_iff_eq.mpr h;simp only [List.lookup,hb,if_neg (λ e:g=f=>hk (h.symm.trans e))]
   ·have hb:(g==k)=false:=beq_eq_false_iff_ne.mpr h;simp only [List.lookup,hb];exact ih
theorem iF (f:Str) (v:V):∀fs:List (Str×V),f∈(dM f v fs).map (·.1)/\∀g,g∈fs.map (·.1)->g∈(dM f v fs).map (·.1)
 | []=>⟨by simp [dM],λ g h=>by simp at h⟩
 | (k,x)::r=>by
  obtain ⟨i1,i2⟩:=iF f v r;rw [show dM f v ((k,x)::r)=(if k=f then (k,v)::r else (k,x)::dM f v r) from rfl]
  by_cases hk:k=f
  ·rw [if_pos hk];subst hk;exact ⟨by simp,λ g h=>by simpa using h⟩
  ·rw [if_neg hk];refine ⟨?_,λ g h=>?_⟩
   ·rw [map_cons];exact mem_cons_of_mem _ i1
   ·rw [map_cons] at h ⊢;rcases List.mem_cons.mp h with e | e
    ·exact List.mem_cons.mpr (.inl e)
    ·exact mem_cons_of_mem _ (i2 g e)
theorem iZ (f:Str) (v:V):∀fs:List (Str×V),(dM f v fs).length<=fs.length+1
 | []=>by simp [dM]
 | (k,x)::r=>by
  have ih:=iZ f v r;rw [show dM f v ((k,x)::r)=(if k=f then (k,v)::r else (k,x)::dM f v r) from rfl]
  by_cases hk:k=f
  ·rw [if_pos hk,length_cons,length_cons]; omega
  ·rw [if_neg hk,length_cons,length_cons]; omega
theorem eL.some_of {v:V} {o:Option Value} (r:eL (some v) o):∃u,o=some u/\RelV v u:=by
 cases o with
 | none=>exact (show False from r).elim
 | some u=>exact ⟨u,rfl,r⟩
theorem eL.none_of {o:Option Value} (r:eL none o):o=none:=by
 cases o with
 | none=>rfl
 | some u=>exact (show False from r).elim
theorem tU {v:V} (r:RelV v u):PySem.W.handedIn u=true:=by
 cases v with
 | non=>cases (show u=Value.none from r); rfl
 | bl b=>cases (show u=Value.bool b from r); rfl
 | int i=>obtain ⟨t,e⟩:=(show ∃t,u=Value.int i t from r); cases e; rfl
 | str x=>obtain ⟨t,e⟩:=(show ∃t,u=Value.str x t from r); cases e; rfl
 | byt b=>obtain ⟨t,e⟩:=(show ∃t,u=Value.bytes b t from r); cases e; rfl
 | flt b=>obtain ⟨t,e⟩:=(show ∃t,u=Value.float b t from r); cases e; rfl
 | ref a=>cases (show u=Value.ref a from r); rfl
 | ty n=>cases (show u=Value.type n from r); rfl
section
variable {P:Program} {w:World} {H H':Hp} {h h':Heap} {a C dx:Addr} {fs fs':List (Str×V)}
theorem rC (hok:fG P w H h) (e:H a=some (.ins C dx fs)):∃mA,nP h a dx C mA/\(∀f,eL (fs.lookup f) (mA f))/\PySem.Within mA (fs.map (·.1))/\fs.length<=1000/\H dx=some (.own a):=by
 obtain ⟨d,z,ne,ob,mA,n,r,q⟩:=(show bF P w H h a (.ins C dx fs) from hok a _ e);exact ⟨mA,⟨ob,n,ne⟩,r,q,z,d⟩
end
structure tV (K:PySem.W.Frag) (C:Addr):Prop where
 pg:PySem.W.plainGet K C Str.empty=true
 hd:PySem.W.hasDictIn K C=true
 po:PySem.W.plainOver K C=true
 sa:PySem.W.findIn K (.ref C) "__setattr__"=some (some (.builtin "object.__setattr__"))
theorem tV.get {K:PySem.W.Frag} (c:tV K C) (f:Str):PySem.W.plainGet K C f=true:=c.pg
def fP (K:PySem.W.Frag) (C:Addr) (f:Str):Prop:=PySem.W.findIn K (.ref C) f=some none
theorem fP.Gd {K:PySem.W.Frag} {f:Str} (n:fP K C f):PySem.W.takerIn K C f=some none:=by
 unfold PySem.W.takerIn;rw [show PySem.W.findIn K (.ref C) f=some none from n];rfl
structure Meth (K:PySem.W.Frag) (C:Addr) (m:Str) (f:Addr):Prop where
 at_:PySem.W.findIn K (.ref C) m=some (some (.ref f))
 fn:PySem.W.isFn K (.ref f)=true
 kp:PySem.W.keepIn K (.ref f)=true
section
variable {X:Cx} {aa:List (Addr×Obj)} {σ:St} {H:Hp} {s:Shared} {a C dx:Addr} {fs:List (Str×V)} {f:Str} {v:V} {A:Around} {E:Value->Shared->Prop}
theorem pX {y:V} {Q:Unit->Shared->Prop} (I:Inv X aa σ H s) (e:H a=some (.ins C dx fs)) (c:tV X.K C) (n:fP X.K C f) (hl:fs.length < 1000) (ry:RelV y u)
  (h:∀s',Inv X aa σ (upd H a (.ins C dx (dM f y fs))) s'->Q () s'):wpAny (model X.prog X.w) A (setAttr (.ref a) f u) Q E s:=by
 obtain ⟨mA,O,r,wi,_,ho⟩:=rC I.hok e;have hz:(fs.map (·.1)).length<=sizeLine:=by rw [length_map,sizeLine_eq]; omega
 refine zm I.gA O c.sa c.po n.Gd c.hd wi hz λ h' O' sb=>h _ ?_;have hd:∃o,h'.get? dx=some o:=let ⟨o,_,_,e',_⟩:=O'.ns; ⟨o,e'⟩;refine I.write (x:=a) (e:=dx) (by rw [e]; exact True.intro) (.inr ho) (λ b q hb z=>(sb.2 b hb).trans z) hd ?_;refine ⟨by rw [av O.ne]; exact ho,?_,O.ne,O'.obj,_,O'.ns,λ g=>?_,λ g hg=>?_⟩
 ·have:=iZ f y fs; omega
 ·show eL ((dM f y fs).lookup g) (if g=f then some u else mA g);rw [iY]
  by_cases q:g=f
  ·rw [if_pos q,if_pos q]; exact ry
  ·rw [if_neg q,if_neg q]; exact r g
 ·by_cases q:g=f
  ·rw [q]; exact (iF f y fs).1
  ·refine (iF f y fs).2 g (wi g λ z=>hg ?_);show (if g=f then some u else mA g)=none;rw [if_neg q]; exact z
theorem Inv.made (I:Inv X aa σ H s):Inv X aa σ (upd (upd H s.heap.objs.size (.own (s.heap.objs.size+1))) (s.heap.objs.size+1) (.ins C s.heap.objs.size []))
  {s with heap:=(s.heap.push PySem.W.emptyDict).push (PySem.W.instObj C s.heap.objs.size)}:=by
 have e1:(s.heap.push PySem.W.emptyDict).get? s.heap.objs.size=some PySem.W.emptyDict:=Heap.get?_push_size s.heap rfl;have e2:((s.heap.push PySem.W.emptyDict).push (PySem.W.instObj C s.heap.objs.size)).get? (s.heap.objs.size+1)=some (PySem.W.instObj C s.heap.objs.size):=by
  have:=Heap.get?_push_size (s.heap.push PySem.W.emptyDict) (o:=PySem.W.instObj C s.heap.objs.size) rfl
  rwa [Heap.size_push] at this
 have e3:(s.heap.push PySem.W.emptyDict).Ns s.heap.objs.size (λ _=>none):=⟨PySem.W.emptyDict,#[],_,e1,rfl,(λ e he=>absurd he (by simp)),λ _=>rfl⟩;have I1:=I.laid (a:=s.heap.objs.size) (o:=.own (s.heap.objs.size+1)) (h':=s.heap.push PySem.W.emptyDict) (t':=s.toks) (λ b u q=>Heap.get?_push_of_some _ q) (Nat.le_refl _) ⟨_,e1⟩;refine I1.laid (a:=s.heap.objs.size+1) (o:=.ins C s.heap.objs.size []) (t':=s.toks) (λ b u q=>Heap.get?_push_of_some _ q) (Nat.le_of_eq (Heap.size_push _ _)) ?_;have ne:s.heap.objs.size≠s.heap.objs.size+1:=Nat.ne_of_lt (Nat.lt_succ_self _);refine ⟨by rw [av ne,aG],Nat.zero_le _,ne,e2,λ _=>none,(Heap.Ns1.of_empty e3).at λ o q=>Heap.get?_push_of_some _ q,λ _=>True.intro,λ y hy=>absurd rfl hy⟩
theorem zo {prog:Program} {w:World} {env:Env} {e:Expr} {pos:Pos} {Q:Value->Shared->Prop} (hb:attributeBase e f env (eval e env)=eval e env)
  (h:wpAny (model prog w) A (eval e env) (λ o s₁=>wpAny (model prog w) A (getAttr o f true) Q E s₁) E s):wpAny (model prog w) A (eval (.Attribute e f pos) env) Q E s:=
 Attribute_any_ h (by rw [arm_eval_Attribute,hb])
end
noncomputable def J4 (K:PySem.W.Frag) (ta tv:TE) (f:Str):TS:=λ D σ H=>tv σ H λ y H1=>ta σ H1 λ x H2=>∃a C dx fs,x=.ref a/\H2 a=some (.ins C dx fs)/\tV K C/\fP K C f/\fs.length < 1000/\
 D.nx σ (upd H2 a (.ins C dx (dM f y fs)))
section
variable {X:Cx} {o e value:Expr} {f:Str} {pos pos' tpos:Pos} {ta tv:TE}
theorem C3 (ha:PE X o ta) (hv:PE X value tv) (hs:swapsWith value (some (.Attribute o f pos')) pos.line X.env=pure false):PS X (.Assign [.Attribute o f pos'] value pos) (J4 X.K ta tv f):=by
 intro aa s σ H D I h;refine plainObj_wpAny_Assign_Attribute (bQ (hv aa s σ H _ I h) λ u s1 ⟨y,H1,I1,ry,q⟩=>bQ (ha aa s1 σ H1 _ I1 q) λ ov s2 ⟨x,H2,I2,rx,a,C,dx,fs,ex,ea,c,n,l,q2⟩=>?_) hs;subst ex;obtain rfl:ov=Value.ref a:=rx;exact pX I2 ea c n l ry λ s3 I3=>⟨σ,_,I3,q2⟩
end
section
variable {X:Cx} {aa:List (Addr×Obj)} {σ:St} {H:Hp} {s:Shared} {A:Around} {E:Value->Shared->Prop} {Q:Value->Shared->Prop} {c:Value} {b:Bool}
inductive jj (K:PySem.W.Frag) (H:Hp):V->Value->Prop where
 | non:jj K H .non (.type "NoneType")
 | bl (x:Bool):jj K H (.bl x) (.type "bool")
 | int (i:Int):jj K H (.int i) (.type "int")
 | str (x:Str):jj K H (.str x) (.type "str")
 | flt (x:UInt64):jj K H (.flt x) (.type "float")
 | lst {a:Addr} {xs:List V} (e:H a=some (.lst xs)):jj K H (.ref a) (.type "list")
 | frz {a:Addr} {o:Obj} {xs:List V} (e:H a=some (.frz o (.lst xs))):jj K H (.ref a) (.type "list")
 | tup {a:Addr} {xs:List V} (e:H a=some (.tup xs)):jj K H (.ref a) (.type "tuple")
 | dK {a:Addr} {kvs:List (Key×V)} (e:H a=some (.dK kvs)):jj K H (.ref a) (.type "dict")
 | dT {a:Addr} {kvs:List (List Key×V)} (e:H a=some (.dT kvs)):jj K H (.ref a) (.type "dict")
 | ins {a C dx:Addr} {fs:List (Str×V)} (e:H a=some (.ins C dx fs)) (cl:tV K C) (ha:PySem.W.findIn K (.ref C) "__class__"=some (some (.builtin "object.__class__")))
   (hn:PySem.W.specialIn K (.builtin "object.__class__") "__get__"=some (some (.builtin "getset_descriptor.__get__"))) (htk:PySem.W.takesIn K (.builtin "object.__class__")=some true)
   (hm:PySem.W.mroIn K C (.type "object")=some true):jj K H (.ref a) (.ref C)
theorem gb {x:V} {t:Value} (I:Inv X aa σ H s) (rx:RelV x u) (ty:jj X.K H x t) (e:PySem.W.kitOne X.K t c=some b) (h:∀tk,Q (.bool b) {s with toks:=tk}) :
  wpAny (model X.prog X.w) A (call (.builtin "isinstance") [u,c]) Q E s:=by
 cases ty with
 | non=>cases (show u=Value.none from rx); exact PySem.W.kia_one PySem.W.kitx_none I.gA True.intro e (λ z=>nomatch z) h
 | bl y=>cases (show u=Value.bool y from rx); exact PySem.W.kia_one PySem.W.kitx_bool I.gA True.intro e (λ z=>nomatch z) h
 | int i=>obtain ⟨t,q⟩:=(show ∃t,u=Value.int i t from rx); cases q; exact PySem.W.kia_one PySem.W.kitx_int I.gA True.intro e (λ z=>nomatch z) h
 | str y=>obtain ⟨t,q⟩:=(show ∃t,u=Value.str y t from rx); cases q; exact PySem.W.kia_one PySem.W.kitx_str I.gA True.intro e (λ z=>nomatch z) h
 | flt y=>obtain ⟨t,q⟩:=(show ∃t,u=Value.float y t from rx); cases q; exact PySem.W.kia_one PySem.W.kitx_float I.gA True.intro e (λ z=>nomatch z) h
 | @lst a xs ea=>
  cases (show u=Value.ref a from rx);obtain ⟨_,_,n,_,h1⟩:=(show bF X.prog X.w H s.heap a (.lst xs) from I.hok a _ ea);exact PySem.W.kia_one PySem.W.kitx_list I.gA ⟨_,h1,rfl⟩ e (λ z=>nomatch z) h
 | @frz a ob xs ea=>
  cases (show u=Value.ref a from rx);obtain ⟨_,_,_,n,_,h1⟩:=(show bF X.prog X.w H s.heap a (.frz ob (.lst xs)) from I.hok a _ ea);exact PySem.W.kia_one PySem.W.kitx_list I.gA ⟨_,h1,rfl⟩ e (λ z=>nomatch z) h
 | @tup a xs ea=>
  cases (show u=Value.ref a from rx);obtain ⟨_,_,_,p⟩:=(show bF X.prog X.w H s.heap a (.tup xs) from I.hok a _ ea);obtain ⟨o,h1,h2,_⟩:=p;exact PySem.W.kia_one PySem.W.kitx_tuple I.gA ⟨o,h1,h2⟩ e (λ z=>nomatch z) h
 | @dK a kvs ea=>
  cases (show u=Value.ref a from rx);obtain ⟨_,_,vs,_,p⟩:=(show bF X.prog X.w H s.heap a (.dK kvs) from I.hok a _ ea);obtain ⟨o,es,ep,h1,h2,_⟩:=p;exact PySem.W.kia_one PySem.W.kitx_dict I.gA ⟨o,h1,h2.1⟩ e (λ z=>nomatch z) h
 | @dT a kvs ea=>
  cases (show u=Value.ref a from rx);obtain ⟨_,_,xs,_,o,es,ep,h1,h2,_⟩:=(show bF X.prog X.w H s.heap a (.dT kvs) from I.hok a _ ea);exact PySem.W.kia_one PySem.W.kitx_dict I.gA ⟨o,h1,h2.1⟩ e (λ z=>nomatch z) h
 | @ins a C dx fs ea cl ha hn htk hm=>
  cases (show u=Value.ref a from rx);obtain ⟨mA,O,_⟩:=rC I.hok ea;obtain ⟨od,J,_⟩:=O.look;exact PySem.W.kia_one (PySem.W.kitx_own (cl.get _) cl.hd ha hn htk hm) I.gA J e (λ z=>nomatch z) h
end
end L2
namespace L2
open PySem PySem.Spec PyProof.Rows List
variable {C f:Addr} {CX:zp} {H:Hp} {K:PySem.W.Frag} {P:Program} {Q:VK} {base:Heap} {kindOf:Str->Option NameKind} {kw:List (Str×Value)} {mg:Str->Option Value} {s:Shared} {us:List Value} {vs:List V} {w:World}
structure cX (k:Nat) (A:Around):Prop where
 hd:A.handled=none
 dp:A.depth+3*k+5 < recursionLimit
 un:A.units+16*k+200 < cLine
 gd:A.guards=some []:=by rfl
theorem cX.mono {j k:Nat} {A:Around} (r:cX k A) (h:j<=k):cX j A:=⟨r.hd,by have:=r.dp; omega,by have:=r.un; omega,r.gd⟩
theorem cX.deeper {k:Nat} {A:Around} (r:cX (k+1) A) (env:Env):cX k (A.deeper env):=
 ⟨r.hd,by have:=r.dp; show A.depth+1+3*k+5 < _; omega,by have:=r.un; show A.units+3+16*k+200 < _; omega,r.gd⟩
theorem pY {A:Around}:(A.under (.builtin "type.__call__" ⟨.ref C::us,kw⟩)).depth=A.depth+1:=by
 first | rfl | simp [Around.under,Code.weight,Code.isCreation,Code.isGuard,Code.isCaller,Code.frames,Code.isFrame,guardIds]
theorem pZ {A:Around}:(A.under (.builtin "type.__call__" ⟨.ref C::us,kw⟩)).units=A.units+1:=by
 first | rfl | simp [Around.under,Code.cUnits,Code.frames,Code.isFrame]
theorem nQ {A:Around}:(A.under (.builtin "type.__call__" ⟨.ref C::us,kw⟩)).guards=A.guards:=by
 first | rfl | (simp [Around.under,Code.guards,Code.isGuard,guardIds,pushGuards]; done) | (cases h:A.guards<;>simp [Around.under,Code.guards,Code.isGuard,guardIds,pushGuards,h])
theorem cX.make {k:Nat} {A:Around} (r:cX (k+1) A) (C:Addr) (us:List Value) (kw:List (Str×Value)):cX k (A.under (.builtin "type.__call__" ⟨.ref C::us,kw⟩)):=
 ⟨r.hd,by have:=r.dp; rw [pY]; omega,by have:=r.un; rw [pZ]; omega,by rw [nQ]; exact r.gd⟩
theorem cX.depth {k:Nat} {A:Around} (r:cX k A):A.depth < recursionLimit:=by have:=r.dp; omega
theorem cX.units {k:Nat} {A:Around} (r:cX k A):A.units+64 < cLine:=by have:=r.un; omega
noncomputable def C4:TA:=λ _ H Q=>Q [] H
noncomputable def Ge (ta:TE) (tr:TA):TA:=fun σ H Q=>ta σ H λ x H1=>tr σ H1 λ xs H2=>Q (x::xs) H2
section
variable {X:Cx} {e:Expr} {es:List Expr} {te:TE} {t:TA} {pos:Pos}
theorem ee:PA X [] C4:=λ _ _ _ _ H Q I h=>Calls.spliced_nil ⟨[],H,I,.nil,h⟩
theorem cG (ha:PE X e te) (hr:PA X es t) (hs:starEach (e::es) X.env=(false,eval e X.env)::starEach es X.env:=by rfl):PA X (e::es) (Ge te t):=by
 intro pos aa s σ H Q I h;rw [hs];show wpAny _ _ (spliced ((false,eval e X.env)::backTo pos (starEach es X.env))) _ _ s;refine Calls.spliced_cons (bQ (ha aa s σ H _ I h) λ u s1 ⟨x,H1,I1,r1,q1⟩=>?_);exact bQ (hr pos aa s1 σ H1 _ I1 q1) λ us s2 ⟨xs,H2,I2,r2,q2⟩=>⟨x::xs,H2,I2,.cons r1 r2,q2⟩
noncomputable def J5 (t:TA):TE:=fun σ H Q=>t σ H λ xs H1=>xs.length<=sizeLine/\∀p,H1 p=none->Q (.ref p) (upd H1 p (.tup xs))
noncomputable def J6 (t:TA):TE:=fun σ H Q=>t σ H λ xs H1=>xs.length<=sizeLine/\∀p,H1 p=none->Q (.ref p) (upd H1 p (.lst xs))
theorem C5 {x1} (h:PA X es t):PE X (.Tuple es x1 pos) (J5 t):=by
 intro aa s σ H Q I hq;refine wpAny_Tuple_spliced (bQ (h pos aa s σ H _ I hq) λ us s1 ⟨xs,H1,I1,r,z,q⟩=>⟨by rw [<-r.length]; exact z,?_⟩);have hf:H1 s1.heap.objs.size=none:=I1.hok.fresh (Nat.le_refl _);refine ⟨.ref s1.heap.objs.size,upd H1 s1.heap.objs.size (.tup xs),I1.laid (t':=s1.toks) (λ b u e=>Heap.get?_push_of_some _ e) (Nat.le_refl _) ?_,rfl,q _ hf⟩;exact ⟨z,us,r,⟨_,Heap.get?_push_size _ rfl,rfl,_,rfl⟩⟩
theorem C6 (h:PA X es t):PE X (.List es pos) (J6 t):=by
 intro aa s σ H Q I hq;refine wpAny_List_spliced (bQ (h pos aa s σ H _ I hq) λ us s1 ⟨xs,H1,I1,r,z,q⟩=>⟨by rw [<-r.length]; exact z,?_⟩);have hf:H1 s1.heap.objs.size=none:=I1.hok.fresh (Nat.le_refl _);refine ⟨.ref s1.heap.objs.size,upd H1 s1.heap.objs.size (.lst xs),I1.laid (t':=s1.toks) (λ b u e=>Heap.get?_push_of_some _ e) (Nat.le_refl _) ?_,rfl,q _ hf⟩;exact ⟨z,us,0,r,Heap.get?_push_size _ rfl⟩
end
abbrev Sp:=List V->Hp->VK->XK->Prop
abbrev zp:=List Env->Hp->Shared->XK->Value->Shared->Prop
structure p5 (P:Program) (w:World) (K:PySem.W.Frag) (mg:Str->Option Value) (base:Heap) (A:Around) (outer:List Env) (s:Shared) (H:Hp):Prop where
 frames:A.frames=some outer
 mod:Mod K mg base
 bs:∀b o,base.get? b=some o->s.heap.get? b=some o/\H b=none
 bsz:base.objs.size<=s.heap.objs.size
 ji:s.heap.FunFrames base outer
 frf:∀b∈frs outer,H b=none
 hok:fG P w H s.heap
 bare:AllBare s.gens
def CE (outer:List Env) (P:Program) (w:World) (H:Hp) (s:Shared) (Q:VK) (u:Value) (s':Shared):Prop:=
 ∃v H',s'.os=s.os/\AllBare s'.gens/\Un (frs outer) [] H H' s.heap s'.heap/\fG P w H' s'.heap/\RelV v u/\Q v H'
def CR (CX:zp) (outer:List Env) (P:Program) (w:World) (H:Hp) (s:Shared) (Q:VK) (E:XK) (r:Result) (s':Shared):Prop:=
 match r with
 | .ok (.ret u)=>CE outer P w H s Q u s'
 | .ok _=>False
 | .error e=>CX outer H s E e s'
structure eN (P:Program) (w:World) (K:PySem.W.Frag) (mg:Str->Option Value) (base:Heap) (CX:zp) (k:Nat) (f:Addr) (fd:FuncData) (ps:List Str) (sp:Sp):Prop where
 len:∀vs H Q E,sp vs H Q E->vs.length=ps.length
 run:∀(A:Around) (outer:List Env) (s:Shared) (H:Hp) (args:Args) (us:List Value) (vs:List V) (Q:VK) (E:XK),cX k A->p5 P w K mg base A outer s H->BindsTo s fd args (ps.zip us)->Vals vs us->sp vs H Q E->
  codeAny (model P w) A (.call (.ref f) args) (CR CX outer P w H s Q E) s
theorem eN.imp {k:Nat} {fd:FuncData} {ps:List Str} {sp Lw:Sp} (F:eN P w K mg base CX k f fd ps sp)
  (h:∀vs H Q E,Lw vs H Q E->sp vs H Q E):eN P w K mg base CX k f fd ps Lw:=
 ⟨λ vs H Q E q=>F.len vs H Q E (h _ _ _ _ q),λ A outer s H args us vs Q E hr he hb hv hs=>F.run A outer s H args us vs Q E hr he hb hv (h _ _ _ _ hs)⟩
theorem p5.make {A:Around} {outer:List Env} (e:p5 P w K mg base A outer s H) (C:Addr) (us:List Value) (kw:List (Str×Value)) :
  p5 P w K mg base (A.under (.builtin "type.__call__" ⟨.ref C::us,kw⟩)) outer s H:=⟨by first | exact e.frames | (simpa [Around.under,Code.envs,Code.isFrame,pushEnvs] using e.frames),e.mod,e.bs,e.bsz,e.ji,e.frf,e.hok,e.bare⟩
section
variable {X:Cx} {aa:List (Addr×Obj)} {σ:St} {H:Hp} {s s':Shared}
theorem Inv.Gf (I:Inv X aa σ H s):p5 X.prog X.w X.K X.mg X.base X.A X.stack s H:=
 ⟨I.ok.frames,I.ok.mod,I.bs,Nat.le_trans I.ok.bsz I.sz,I.stack,I.rz,I.hok,I.bare⟩
theorem Inv.after {u:Value} (I:Inv X aa σ H s) (h:CE X.stack X.prog X.w H s Q u s'):EP X aa σ Q u s':=by
 obtain ⟨v,H',os,bare,un,hok,r,q⟩:=h;obtain ⟨hh,g,d,t,os'⟩:=s';obtain rfl:os'=s.os:=os;exact ⟨v,H',I.call (h':=hh) (g':=g) (d':=d) (t':=t) (ch:=[]) un hok bare (λ b z=>absurd z (by simp)),r,q⟩
end
noncomputable def Bq (sp:Sp) (nR:List V) (E:XK) (t:TA):TE:=fun σ H Q=>t σ H λ vs H1=>sp (vs++nR) H1 Q E
noncomputable def Gg (C:Addr) (sp:Sp) (nR:List V) (E:XK) (t:TA):TE:=fun σ H Q=>t σ H λ vs H1=>∀x dx,H1 x=none->H1 dx=none->dx≠x->
 sp (.ref x::(vs++nR)) (upd (upd H1 dx (.own x)) x (.ins C dx [])) (λ v H2=>v=.non/\Q (.ref x) H2) E
def Binds (K:PySem.W.Frag) (fd:FuncData) (ps:List Str) (ds:List Value):Prop:=
 ∀(s:Shared) (us:List Value),K.In s.heap->(us++ds).length=ps.length->BindsTo s fd ⟨us,[]⟩ (ps.zip (us++ds))
theorem Binds.all {fd:FuncData} {ps:List Str} (h:∀us:List Value,us.length=ps.length->bindArgs fd ⟨us,[]⟩=pure (ps.zip us)):Binds K fd ps []:=λ s us _ hl=>by
 rw [append_nil] at hl ⊢;exact .of_eq (h us hl)
def Passes (CX:zp) (X:Cx) (E:XK):Prop:=∀(aa:List (Addr×Obj)) (σ:St) (H:Hp) (s:Shared) (e:Value) (s':Shared),Inv X aa σ H s->CX X.stack H s E e s'->X.xe e s'
section
variable {X:Cx} {CX:zp} {k:Nat} {f C:Addr} {fd:FuncData} {ps:List Str} {sp:Sp} {nR:List V} {ds:List Value} {E:XK} {x m:Str} {p pos apos:Pos} {e o:Expr} {es:List Expr} {ta:TE} {t:TA}
theorem l0 {aa:List (Addr×Obj)} {σ:St} (F:eN X.prog X.w X.K X.mg X.base CX k f fd ps sp) (hr:cX k X.A) (hb:Binds X.K fd ps ds) (hd:Vals nR ds) (hx:Passes CX X E)
  (I:Inv X aa σ H s) (r:Vals vs us) (h:sp (vs++nR) H Q E):wpAny (model X.prog X.w) X.A (call (.ref f) us) (EP X aa σ Q) X.xe s:=by
 have r2:Vals (vs++nR) (us++ds):=r.append hd;have hl:(us++ds).length=ps.length:=by rw [<-r2.length]; exact F.len _ _ _ _ h
 refine wpAny_call (codeAny_mono (F.run X.A X.stack s H ⟨us,[]⟩ (us++ds) (vs++nR) Q E hr I.Gf (hb s us I.gA hl) r2 h) λ r s' hq=>?_);cases r with
 | error e=>exact hx aa σ H s e s' I hq
 | ok fl=>
  cases fl with
  | ret u=>exact I.after hq
  | next=>exact False.elim hq
  | brk=>exact False.elim hq
  | cont=>exact False.elim hq
theorem zq (F:eN X.prog X.w X.K X.mg X.base CX k f fd ps sp) (hr:cX k X.A) (hg:Gl X x) (hm:X.mg x=some (.ref f)) (hk:PySem.W.keepIn X.K (.ref f)=true) (hb:Binds X.K fd ps ds) (hd:Vals nR ds) (hx:Passes CX X E)
  (ha:PA X (e::es) t) (hdb:(x==("__debug__":Str))=false:=by decide) (he:starEach (e::es) X.env=(false,eval e X.env)::starEach es X.env:=by rfl) (hpl:(backTo pos (starEach es X.env)).any (·.1)=false:=by rfl) :
  PE X (.Call (.Name x p) (e::es) [] pos) (Bq sp nR E t):=by
 intro aa s σ H Q I h;refine wpAny_Call_Name_kw (ju I hg hm ?_ hdb);refine PySem.W.callWith_K (h₀:=X.base) I.ok.mod.kin hk (bQ (ha pos aa s σ H _ I h) λ us s1 ⟨vs,H1,I1,r,q⟩=>⟨I1.gA,?_⟩) he hpl;exact l0 F hr hb hd hx I1 r q
theorem vD (F:eN X.prog X.w X.K X.mg X.base CX k f fd ps sp) (hr:cX k X.A) (hg:Gl X x) (hm:X.mg x=some (.ref f)) (hk:PySem.W.keepIn X.K (.ref f)=true) (hb:Binds X.K fd ps ds) (hd:Vals nR ds) (hx:Passes CX X E)
  (hdb:(x==("__debug__":Str))=false:=by decide):PE X (.Call (.Name x p) [] [] pos) (Bq sp nR E C4):=by
 intro aa s σ H Q I h;refine wpAny_Call_Name_kw (ju I hg hm ?_ hdb);exact PySem.W.callWith_K0 I.gA hk (l0 (us:=[]) F hr hb hd hx I .nil h)
structure Mk (K:PySem.W.Frag) (C f:Addr):Prop where
 makes:PySem.W.makesIn K C=true
 init:PySem.W.findIn K (.ref C) "__init__"=some (some (.ref f))
 fn:PySem.W.isFn K (.ref f)=true
 kp:PySem.W.keepIn K (.ref C)=true
theorem vE {aa:List (Addr×Obj)} {σ:St} (M:Mk X.K C f) (F:eN X.prog X.w X.K X.mg X.base CX k f fd ps sp) (hr:cX (k+1) X.A) (hb:Binds X.K fd ps ds) (hd:Vals nR ds)
  (hx:Passes CX X E) (I:Inv X aa σ H s) (r:Vals vs us)
  (h:∀x dx,H x=none->H dx=none->dx≠x->sp (.ref x::(vs++nR)) (upd (upd H dx (.own x)) x (.ins C dx [])) (λ v H2=>v=.non/\Q (.ref x) H2) E) :
  wpAny (model X.prog X.w) X.A (call (.ref C) us) (EP X aa σ Q) X.xe s:=by
 have hq:=h (s.heap.objs.size+1) s.heap.objs.size (I.hok.fresh (Nat.le_succ _)) (I.hok.fresh (Nat.le_refl _)) (Nat.ne_of_lt (Nat.lt_succ_self _));have I2:=Inv.made (C:=C) I;have r2:Vals (V.ref (s.heap.objs.size+1)::(vs++nR)) (Value.ref (s.heap.objs.size+1)::(us++ds)):=.cons rfl (r.append hd);have hl:(Value.ref (s.heap.objs.size+1)::us++ds).length=ps.length:=by
  have e:=r2.length;rw [F.len _ _ _ _ hq] at e;exact e.symm
 refine wpAny_call (vC (f:=f) I.gA M.makes M.init (beq_iff_eq.mp M.fn) (codeAny_mono (F.run _ X.stack _ _ ⟨Value.ref (s.heap.objs.size+1)::us,[]⟩ (Value.ref (s.heap.objs.size+1)::(us++ds)) _ _ E (hr.make C us [])
  (I2.Gf.make C us []) (hb _ (Value.ref (s.heap.objs.size+1)::us) I2.gA hl) r2 hq) λ r s' hq'=>?_))
 cases r with
 | error e=>exact hx aa σ _ _ e s' I2 hq'
 | ok fl=>
  cases fl with
  | ret u=>
   obtain ⟨v,H',I3,rv,ev,q3⟩:=I2.after hq';subst ev;exact ⟨rv,⟨V.ref (s.heap.objs.size+1),H',I3,rfl,q3⟩⟩
  | next=>exact False.elim hq'
  | brk=>exact False.elim hq'
  | cont=>exact False.elim hq'
theorem zu (M:Mk X.K C f) (F:eN X.prog X.w X.K X.mg X.base CX k f fd ps sp) (hr:cX (k+1) X.A) (hg:Gl X x) (hm:X.mg x=some (.ref C)) (hb:Binds X.K fd ps ds) (hd:Vals nR ds) (hx:Passes CX X E)
  (ha:PA X (e::es) t) (hdb:(x==("__debug__":Str))=false:=by decide) (he:starEach (e::es) X.env=(false,eval e X.env)::starEach es X.env:=by rfl) (hpl:(backTo pos (starEach es X.env)).any (·.1)=false:=by rfl) :
  PE X (.Call (.Name x p) (e::es) [] pos) (Gg C sp nR E t):=by
 intro aa s σ H Q I h;refine wpAny_Call_Name_kw (ju I hg hm ?_ hdb);refine PySem.W.callWith_K (h₀:=X.base) I.ok.mod.kin M.kp (bQ (ha pos aa s σ H _ I h) λ us s1 ⟨vs,H1,I1,r,q⟩=>⟨I1.gA,?_⟩) he hpl;exact vE M F hr hb hd hx I1 r q
end
structure jv (N P:List Str) (sc:Scope):Prop where
 kind:sc.kind=.function
 co:sc.isCoroutine=false
 gen:sc.isGenerator=false
 nd:N.Nodup
 pre:N.take P.length=P
 par:∀x∈P,sc.names.lookup x=some .local\/sc.names.lookup x=some .cell
 nofree:∀y∈sc.names,y.2≠.free
theorem kZ {x:Str}:∀{binds:List (Str×Value)} {m:Str->Option Value},(∀v,(x,v)∉binds)->bindL kindOf binds m x=m x
 | [],_,_=>rfl
 | (n,v)::r,m,h=>by
  unfold bindL;rw [kZ λ w hw=>h w (mem_cons_of_mem _ hw)];split
  ·have:x≠n:=by rintro rfl; exact h v mem_cons_self
   simp [this]
  ·rfl
theorem k9 {x:Str}:∀{binds:List (Str×Value)} {m:Str->Option Value},(∀v,(x,v)∉binds)->bindC kindOf binds m x=m x
 | [],_,_=>rfl
 | (n,v)::r,m,h=>by
  unfold bindC;rw [k9 λ w hw=>h w (mem_cons_of_mem _ hw)];split
  ·rfl
  ·have:x≠n:=by rintro rfl; exact h v mem_cons_self
   simp [this]
theorem lg {x:Str} {v:Value}:∀{P:List Str} {vs:List Value} {i:Nat} {m:Str->Option Value},P.Nodup->P[i]?=some x->vs[i]?=some v->kindOf x=some .local->
  bindL kindOf (P.zip vs) m x=some v
 | [],_,_,_,_,h,_,_=>by simp at h
 | _::_,[],_,_,_,_,h,_=>by simp at h
 | p::P,w::vs,0,m,nd,h1,h2,hk=>by
  simp at h1 h2; subst h1; subst h2;show bindL kindOf ((p,w)::P.zip vs) m p=_;unfold bindL;rw [kZ λ v hv=>(List.nodup_cons.mp nd).1 (of_mem_zip hv).1,if_pos hk];simp
 | p::P,w::vs,i+1,m,nd,h1,h2,hk=>by
  show bindL kindOf ((p,w)::P.zip vs) m x=_;unfold bindL;exact lg (i:=i) (List.nodup_cons.mp nd).2 (by simpa using h1) (by simpa using h2) hk
theorem lq {x:Str} {v:Value}:∀{P:List Str} {vs:List Value} {i:Nat} {m:Str->Option Value},P.Nodup->P[i]?=some x->vs[i]?=some v->kindOf x≠some .local->
  bindC kindOf (P.zip vs) m x=some v
 | [],_,_,_,_,h,_,_=>by simp at h
 | _::_,[],_,_,_,_,h,_=>by simp at h
 | p::P,w::vs,0,m,nd,h1,h2,hk=>by
  simp at h1 h2; subst h1; subst h2;show bindC kindOf ((p,w)::P.zip vs) m p=_;unfold bindC;rw [k9 λ v hv=>(List.nodup_cons.mp nd).1 (of_mem_zip hv).1,if_neg hk];simp
 | p::P,w::vs,i+1,m,nd,h1,h2,hk=>by
  show bindC kindOf ((p,w)::P.zip vs) m x=_;unfold bindC;exact lq (i:=i) (List.nodup_cons.mp nd).2 (by simpa using h1) (by simpa using h2) hk
noncomputable def start (N:List Str) (vs:List V):St:=vs.map some++List.replicate (N.length - vs.length) none
noncomputable def p6 (CX:zp) (P:Program) (w:World) (K:PySem.W.Frag) (mg:Str->Option Value) (base:Heap) (N:List Str) (qual:Str) (scope:Scope) (f:Addr) (cd:Value) (A:Around) (outer:List Env) (s:Shared) (H:Hp) (E:XK):Cx where
 prog:=P
 w:=w
 K:=K
 mg:=mg
 base:=base
 A:=A.deeper (envOfC qual scope s.heap.objs.size f cd)
 N:=N
 s₀:=s
 H₀:=H
 env:=envOfC qual scope s.heap.objs.size f cd
 outer:=outer
 stack:=envOfC qual scope s.heap.objs.size f cd::outer
 ex:=[]
 calm:=true
 fn:=λ _=>true
 pn:=[]
 xe:=λ e s'=>wpAny (model P w) (A.deeper (envOfC qual scope s.heap.objs.size f cd)) (leaving (envOfC qual scope s.heap.objs.size f cd) e) (λ _ s''=>CX outer H s E e s'') (λ e' s''=>CX outer H s E e' s'') s'
theorem nT {sc:Scope} {n:Nat} {x:Str} (h:sc.names.lookup x=some .cell):∃c,(cellsFrom n sc.names []).lookup x=some c:=by
 have q:=PySem.W.cellsFrom_some sc.names n [] (.inl h);exact Option.isSome_iff_exists.mp q
theorem tW {N ps:List Str} {qual:Str} {scope:Scope} {cd:Value} {A:Around} {outer:List Env} {s1:Shared} {E:XK}
  (S:jv N ps scope) (hd:A.handled=none) (e0:p5 P w K mg base A outer s H) (hl:vs.length=ps.length) (r:Vals vs us)
  (x:InCallC s s.heap.objs.size (bindL (envOfC qual scope s.heap.objs.size f cd).kindOf (ps.zip us) λ _=>none) (cellsFrom (s.heap.objs.size+1) scope.names []) (bindC (envOfC qual scope s.heap.objs.size f cd).kindOf (ps.zip us) λ _=>none) s1) :
  Inv (p6 CX P w K mg base N qual scope f cd A outer s H E) [] (start N vs) H s1:=by
 have hpl:ps.length<=N.length:=by have:=congrArg List.length S.pre; rw [length_take] at this; omega
 obtain ⟨h1,tk,rfl,hk⟩:=x.done;have Gh:∀b:Addr,b∉(p6 CX P w K mg base N qual scope f cd A outer s H E).ex:=λ b z=>absurd (show b∈([]:List Addr) from z) (by simp);refine ⟨⟨e0.mod,S.kind,rfl,rfl,Nat.le_refl _,λ y z c h1 h2=>?_,λ y hy=>?_,λ y c _ h=>?_,λ _=>hd,Around.frames_deeper e0.frames,.inr ⟨rfl,rfl⟩,λ b z=>absurd z (Gh b),e0.bs,e0.bsz,λ b _ _=>Gh b,λ b z=>absurd z (Gh b),e0.ji,e0.frf⟩,
  rfl,e0.bare,Un.kept hk,⟨_,x.toInCall.ns,λ i y v h1 h2 h3=>?_⟩,λ y c h=>⟨_,x.cell y c h⟩,e0.hok.fresh (Nat.le_refl _),λ y c h=>?_,λ p hp=>absurd (show p∈([]:List (Addr×Obj)) from hp) (by simp),e0.hok.kept hk,?_⟩
 ·exact name_of_addr x.apart (PySem.mem_of_lookup h1) (PySem.mem_of_lookup h2)
 ·have hy:scope.names.lookup y=some .cell\/scope.names.lookup y=some .free:=hy;rcases hy with hy | hy
  ·exact nT hy
  ·exact absurd rfl (S.nofree _ (PySem.mem_of_lookup hy))
 ·exact Nat.le_of_lt (x.above y c (PySem.mem_of_lookup h))
 ·have hi:i < vs.length:=by
   unfold start at h2
   by_cases hi:i < vs.length
   ·exact hi
   ·rw [getElem?_append_right (by simpa using hi)] at h2;rw [getElem?_replicate] at h2;split at h2<;>cases h2
  have ha:vs[i]?=some v:=by
   unfold start at h2;rw [getElem?_append_left (by simpa using hi),getElem?_map] at h2;cases e:vs[i]? with
   | none=>rw [e] at h2; cases h2
   | some a=>rw [e] at h2; cases h2; rfl
  obtain ⟨u,hu,rv⟩:=r.get ha;have hp:ps[i]?=some y:=by
   rw [<-S.pre,getElem?_take_of_lt (by omega)]; exact h1
  have Lx:ps.Nodup:=by rw [<-S.pre]; exact S.nd.sublist (take_sublist _ _)
  refine ⟨u,rv,?_⟩;rcases S.par y (mem_of_getElem? hp) with k | k
  ·exact .inl ⟨k,lg Lx hp hu k⟩
  ·obtain ⟨c,e⟩:=nT (n:=s.heap.objs.size+1) k;refine .inr ⟨.inl k,c,e,?_⟩;have q:=x.cell y c e;rw [lq Lx hp hu (by show scope.names.lookup y≠_; rw [k]; decide)] at q;exact q
 ·exact e0.hok.fresh (Nat.le_of_lt (x.above y c (PySem.mem_of_lookup h)))
 ·unfold start;show _=N.length;rw [length_append,length_map,length_replicate];omega
theorem Gi {k:Nat} {name qual:Str} {params:Arguments} {body:List Stmt} {scope:Scope} {dV kV doc pm cdv ct oc:Value} {an od:Option Addr}
  {osl:Array (Option Value)} {N ps:List Str} {sp:Sp} (lk:K.lookup f=some ⟨oc,od,.func (PySem.W.fnOf name qual params body scope dV kV doc pm an cdv ct),osl⟩) (hcd:PySem.W.codeIn K cdv qual=true) (S:jv N ps scope)
  (len:∀vs H Q E,sp vs H Q E->vs.length=ps.length)
  (hbody:∀(A:Around) (outer:List Env) (s:Shared) (H:Hp) (vs:List V) (Q:VK) (E:XK),cX k (A.deeper (envOfC qual scope s.heap.objs.size f cdv))->sp vs H Q E->
   ∃t,iX (p6 CX P w K mg base N qual scope f cdv A outer s H E) body t/\t {nx:=λ _ H'=>Q .non H',rt:=Q} (start N vs) H) :
  eN P w K mg base CX (k+1) f (PySem.W.fnOf name qual params body scope dV kV doc pm an cdv ct) ps sp:=by
 refine ⟨len,λ A outer s H args us vs Q E hr e0 hb r tX=>?_⟩;have hl:=len _ _ _ _ tX;have KX:K.In s.heap:=e0.mod.kin.keeps λ b o e=>(e0.bs b o e).1;have lim:s.heap.NoLimit:=e0.mod.nolimit.keeps λ b o e=>(e0.bs b o e).1;have hkind:∀y∈ps.zip us,scope.names.lookup y.1=some .local\/(scope.names.lookup y.1=some .cell/\((cellsFrom (s.heap.objs.size+1) scope.names []).lookup y.1).isSome=true):=λ ⟨n,v⟩ hy=>by
  rcases S.par n (of_mem_zip hy).1 with q | q
  ·exact .inl q
  ·exact .inr ⟨q,PySem.W.cellsFrom_some _ _ _ (.inl q)⟩
 refine codeAny_call_function hr.depth (KX _ _ lk) rfl S.co S.gen rfl (PySem.W.codeRec_of KX hcd) (hb _ _ _ _ ?_);refine wpAny_newFunctionEnv_cells S.kind hkind λ env he s1 x=>?_;subst he;refine ⟨lim.keeps x.toInCall.keep,codeAny_func ?_⟩;obtain ⟨t,ht,hq⟩:=hbody A outer s H vs Q E (hr.deeper _) tX;have I:Inv (p6 CX P w K mg base N qual scope f cdv A outer s H E) [] (start N vs) H s1:=tW S hr.hd e0 hl r x;refine wpAny_mono (ht [] s1 (start N vs) H _ I hq) (λ fl s' hs=>?_) λ e s' hs=>hs;have fin:∀{σ':St} {H':Hp} {v:V} {u:Value},Inv (p6 CX P w K mg base N qual scope f cdv A outer s H E) [] σ' H' s'->RelV v u->Q v H'->CE outer P w H s Q u s':=
  λ {σ' H' v u} J rv q=>⟨v,H',J.os,J.bare,J.base,J.hok,rv,q⟩
 cases fl with
 | ret u=>
  obtain ⟨v,σ',H',J,rv,q⟩:=hs;exact fin J rv q
 | next=>
  obtain ⟨σ',H',J,q⟩:=hs;exact fin (v:=V.non) (u:=Value.none) J rfl q
 | brk=>
  obtain ⟨_,_,_,q⟩:=hs;exact False.elim q
 | cont=>
  obtain ⟨_,_,_,q⟩:=hs;exact False.elim q
end L2
namespace L2
open PySem PySem.Spec PyProof.Rows List
section
variable {X:Cx} {x:Str} {p pos:Pos} {e:Expr} {es:List Expr} {t:TA} {id T:String} {r:List V->Hp->VK->Prop}
noncomputable def J7 (r:List V->Hp->VK->Prop) (t:TA):TE:=fun σ H Q=>t σ H λ vs H1=>r vs H1 Q
theorem gU (hc:bU X (.builtin id) r) (hg:Gl X x) (hm:X.mg x=none) (hv:bootBuiltins x=some (.builtin id)) (ha:PA X (e::es) t) (hn:x≠"__name__":=by decide) (hdb:(x==("__debug__":Str))=false:=by decide)
  (he:starEach (e::es) X.env=(false,eval e X.env)::starEach es X.env:=by rfl) (hpl:(backTo pos (starEach es X.env)).any (·.1)=false:=by rfl):PE X (.Call (.Name x p) (e::es) [] pos) (J7 r t):=by
 intro aa s σ H Q I h;refine wpAny_Call_Name_kw (fM I hg hm hv ?_ hn hdb);exact PyProof.Rows.callWith_builtin1 (bQ (ha pos aa s σ H _ I h) λ us s1 ⟨vs,H1,I1,r1,q1⟩=>hc aa s1 σ H1 vs us Q I1 r1 q1) he hpl
theorem gf (hc:bU X (.type T) r) (hg:Gl X x) (hm:X.mg x=none) (hv:bootBuiltins x=some (.type T)) (ha:PA X (e::es) t) (hn:x≠"__name__":=by decide) (hdb:(x==("__debug__":Str))=false:=by decide)
  (he:starEach (e::es) X.env=(false,eval e X.env)::starEach es X.env:=by rfl) (hpl:(backTo pos (starEach es X.env)).any (·.1)=false:=by rfl):PE X (.Call (.Name x p) (e::es) [] pos) (J7 r t):=by
 intro aa s σ H Q I h;refine wpAny_Call_Name_kw (fM I hg hm hv ?_ hn hdb);exact PyProof.Rows.callWith_type1 (bQ (ha pos aa s σ H _ I h) λ us s1 ⟨vs,H1,I1,r1,q1⟩=>hc aa s1 σ H1 vs us Q I1 r1 q1) he hpl
theorem p7 (hc:bU X (.type T) r) (hg:Gl X x) (hm:X.mg x=none) (hv:bootBuiltins x=some (.type T)) (hn:x≠"__name__":=by decide) (hdb:(x==("__debug__":Str))=false:=by decide) :
  PE X (.Call (.Name x p) [] [] pos) (J7 r C4):=by
 intro aa s σ H Q I h;refine wpAny_Call_Name_kw (fM I hg hm hv ?_ hn hdb);exact PyProof.Rows.callWith_type0 (hc aa s σ H [] [] Q I .nil h)
end
end L2
namespace HT
open PySem PyProof.Rows List
noncomputable def lexLt:List Int->List Int->Bool
 | [],[]=>false
 | [],_::_=>true
 | _::_,[]=>false
 | x::xs,y::ys=>if x=y then lexLt xs ys else decide (x < y)
section
open PySem.SeqAt List
open PySem.AutoSeq1 (wpAny_loadPart')
open PySem.MeetsSeq PySem.MeetsSeq2 PySem.MeetsSeq3 List
end
section
variable {prog:Program} {w:World} {A:Around} {E:Value->Shared->Prop} {s:Shared}
theorem zw {t b:Addr} {vs ws:List Value} {Q:Value->Shared->Prop} (ht:IsTup s.heap t vs.toArray) (hb:IsTup s.heap b ws.toArray) (hv:vs≠[])
  (h1:ws=[]->Q (.ref t) s) (h2:ws≠[]->Q (.ref s.heap.objs.size) {s with heap:=s.heap.push {cls:=.type "tuple",data:=.seq (vs++ws).toArray}})
  (hsz:vs.length+ws.length<=sizeLine):wpAny (model prog w) A (binaryOp .Add (.ref t) (.ref b)) Q E s:=by
 obtain ⟨⟨cls,dd,data,sl⟩,ho,hc,n,hd⟩:=id ht;obtain ⟨⟨cls2,dd2,data2,sl2⟩,ho2,hc2,n2,hd2⟩:=id hb;simp only at hc hd hc2 hd2;subst hc hd hc2 hd2;have e:vs.toArray++ws.toArray=(vs++ws).toArray:=by simp
 by_cases hw:ws=[]
 ·exact concat_meets ⟨_,ho,rfl⟩ ⟨_,ho2,rfl⟩ noFill_tuple_add seq_tuple_add PySem.F.slot_tuple_add PySem.F.entry_tuple_add (PySem.F.args_tuple_add_2 _ _)
   (tuple_addW1 t b vs.toArray ws.toArray n n2 dd dd2 sl sl2 (by simpa using hv) (by simp [hw])) ⟨ho,ho2,h1 hw⟩
 ·refine concat_meets ⟨_,ho,rfl⟩ ⟨_,ho2,rfl⟩ noFill_tuple_add seq_tuple_add PySem.F.slot_tuple_add PySem.F.entry_tuple_add (PySem.F.args_tuple_add_2 _ _)
   (tuple_addW2 t b vs.toArray ws.toArray n n2 dd dd2 sl sl2 (by simpa using hv) (by simpa using hw) (by rw [List.size_toArray,List.size_toArray]; exact hsz)) ⟨ho,ho2,?_⟩
  rw [e];exact h2 hw
noncomputable def bT (n d:Nat):Option Int->Nat
 | none=>d
 | some v=>if v < 0 then (v+(n:Int)).toNat else min v.toNat n
theorem jw (n d k:Nat):bT n d (some (k:Int))=min k n:=by
 show (if (k:Int) < 0 then ((k:Int)+(n:Int)).toNat else min (k:Int).toNat n)=min k n;rw [if_neg (by omega),Int.toNat_natCast]
theorem C7 (n d:Nat) (hd:d<=n) (o:Option Int):bT n d o<=n:=by
 cases o with
 | none=>exact hd
 | some v=>
  show (if v < 0 then (v+(n:Int)).toNat else min v.toNat n)<=n
  by_cases hv:v < 0
  ·rw [if_pos hv]; omega
  ·rw [if_neg hv]; exact Nat.min_le_right _ _
theorem rD (v:Int) (n d:Nat):(if v < 0 then max (v+(n:Int)) 0 else min v (n:Int))=((bT n d (some v):Nat):Int):=by
 show (if v < 0 then max (v+(n:Int)) 0 else min v (n:Int))=(((if v < 0 then (v+(n:Int)).toNat else min v.toNat n):Nat):Int)
 by_cases hv:v < 0
 ·simp only [if_pos hv]; omega
 ·simp only [if_neg hv]; omega
theorem p9 (lo hi:Option Int) (n:Nat):Builtin.Slice.sliceAdjust lo hi 1 (n:Int)=(((bT n 0 lo:Nat):Int),((bT n n hi:Nat):Int)):=by
 have h1:¬((1:Int) < 0):=by omega
 unfold Builtin.Slice.sliceAdjust;simp only [h1,if_false];refine Prod.ext ?_ ?_
 ·cases lo with
  | none=>rfl
  | some v=>exact rD v n 0
 ·cases hi with
  | none=>rfl
  | some v=>exact rD v n n
theorem qa (i j:Nat):Builtin.Slice.slicePlaces (i:Int) (j:Int) 1=j - i:=by
 unfold Builtin.Slice.slicePlaces;have h1:(1:Int)>0:=by omega
 simp only [h1,if_true,Int.ediv_one];split<;>omega
theorem jJ {v:Value} {o:Option Int} {Q:Option Int->Shared->Prop} (p:IsPart v o) (h:Q o s):wpAny (model prog w) A (Builtin.Slice.slicePartIndex v) Q E s:=by
 cases p with
 | none=>exact slicePart_none h
 | int i t=>exact slicePart_int h
theorem eO {sl:Addr} {vl vu:Value} {lo hi:Option Int} {n:Nat} {Q:Int×Int×Nat->Shared->Prop} (hs:s.heap.IsSliceOf sl vl vu .none) (pl:IsPart vl lo) (pu:IsPart vu hi)
  (h:Q (((bT n 0 lo:Nat):Int),1,bT n n hi - bT n 0 lo) s):wpAny (model prog w) A (Builtin.Slice.sliceApplied (.ref sl) (pure (n:Int))) Q E s:=by
 obtain ⟨os,hos,hcs,hds⟩:=id hs;unfold Builtin.Slice.sliceApplied Builtin.Slice.sliceFields;refine wpAny_bind (wpAny_bind (wpAny_field hos hds (x:=vl) rfl (wpAny_bind (wpAny_field hos hds (x:=vu) rfl (wpAny_bind (wpAny_field hos hds (x:=.none) rfl (wpAny_pure ?_)))))));refine wpAny_bind (slicePart_none ?_);show wpAny _ _ (if ((1:Int)==0)=true then _ else _) _ _ s;rw [if_neg (by decide)];refine wpAny_bind (jJ pl (wpAny_bind (jJ pu (wpAny_bind (wpAny_pure ?_)))));show wpAny _ _ (match Builtin.Slice.sliceAdjust lo hi 1 (n:Int) with | (lo,hi)=>pure (lo,(1:Int),Builtin.Slice.slicePlaces lo hi 1)) _ _ s;rw [p9 lo hi n];show wpAny _ _ (pure (((bT n 0 lo:Nat):Int),(1:Int),Builtin.Slice.slicePlaces ((bT n 0 lo:Nat):Int) ((bT n n hi:Nat):Int) 1)) _ _ s;rw [qa];exact wpAny_pure h
theorem vF (xs:Array Value) (i k:Nat):((List.range k).filterMap λ (m:Nat)=>xs[((i:Int)+(m:Int)*1).toNat]?).toArray=((xs.toList.drop i).take k).toArray:=by
 have e:(λ (m:Nat)=>xs[((i:Int)+(m:Int)*1).toNat]?)=λ m=>xs[i+m]?:=by
  funext m;have:((i:Int)+(m:Int)*1).toNat=i+m:=by omega
  rw [this]
 rw [e];have:=pick_run xs i k;rw [filterMap_map] at this;have e2:((λ x=>xs[x]?)∘λ x=>i+x)=λ m=>xs[i+m]?:=rfl;rw [e2] at this;rw [this]
theorem gV {t sl:Addr} {items:Array Value} {vl vu:Value} {lo hi:Option Int} {Q:Value->Shared->Prop} (ht:IsTup s.heap t items) (hs:s.heap.IsSliceOf sl vl vu .none) (pl:IsPart vl lo) (pu:IsPart vu hi)
  (hw:¬(bT items.size 0 lo=0/\bT items.size items.size hi=items.size))
  (h:Q (.ref s.heap.objs.size) {s with heap:=s.heap.push {cls:=.type "tuple",data:=.seq ((items.toList.drop (bT items.size 0 lo)).take (bT items.size items.size hi - bT items.size 0 lo)).toArray}})
  (hsz:items.size<=sizeLine):wpAny (model prog w) A (getItem (.ref t) (.ref sl)) Q E s:=by
 have rE:sizeOk (.seq ((items.toList.drop (bT items.size 0 lo)).take (bT items.size items.size hi - bT items.size 0 lo)).toArray):=by
  show ((items.toList.drop (bT items.size 0 lo)).take (bT items.size items.size hi - bT items.size 0 lo)).toArray.size<=sizeLine;rw [List.size_toArray,length_take,length_drop,Array.length_toList];omega
 have hj:bT items.size items.size hi<=items.size:=C7 _ _ (Nat.le_refl _) hi;obtain ⟨os,hos,hcs,hds⟩:=id hs;have J8:s.TypeIs (.ref sl) "slice":=⟨os,hos,hcs⟩;unfold getItem
 try with_reducible refine wpAny_holding ?_
 first | refine wpAny_bind (wpAny_pure ?_) | skip
 refine wpAny_bind (wpAny_sequenceKey ht.typeIs (by decide) ?_);refine wpAny_bind (wpAny_callSpecial?_slot (name:=Str.ofString "__getitem__") ht.typeIs PyProof.Rows.slot_tuple_getitem
  (wpAny_call_entry PyProof.Rows.slot_tuple_getitem ht.typeIs entry_tuple_getitem ?_ (args_tuple_getitem _ _)))
 show wpAny _ _ (Builtin.Tuple.tupleItemsOf (.ref t) >>= _) _ _ s;refine wpAny_bind (tupleItemsOf_ ht ?_);refine wpAny_bind (wpAny_typeOf J8 ?_);rw [if_pos (by decide)];refine wpAny_bind (eO hs pl pu ?_);have hno:¬((((bT items.size 0 lo:Nat):Int)==0&&(1:Int)==1&&(bT items.size items.size hi - bT items.size 0 lo)==items.size)=true):=by
  intro q;rw [Bool.and_eq_true,Bool.and_eq_true] at q;have q1:((bT items.size 0 lo:Nat):Int)=0:=eq_of_beq q.1.1;have q2:bT items.size items.size hi - bT items.size 0 lo=items.size:=eq_of_beq q.2;exact hw ⟨by omega,by omega⟩
 show wpAny _ _ (if (((bT items.size 0 lo:Nat):Int)==0&&(1:Int)==1&&(bT items.size items.size hi - bT items.size 0 lo)==items.size)=true then _ else _) _ _ s;rw [if_neg hno,vF]
 first
  | exact wpAny_bind (m:=Builtin.Tuple.tupleExact _) (wpAny_newObj_type (wpAny_pure ⟨_,rfl,wpAny_pure h⟩) rE)
  | exact wpAny_bind (m:=Builtin.Tuple.tupleExact _) (wpAny_newObj_type (wpAny_bind (wpAny_pure (wpAny_pure ⟨_,rfl,wpAny_pure h⟩))) rE)
  | exact wpAny_bind (wpAny_bind (m:=Builtin.Tuple.tupleExact _) (wpAny_newObj_type (wpAny_pure (wpAny_pure ⟨_,rfl,wpAny_pure h⟩)) rE))
  | exact wpAny_bind (wpAny_bind (m:=Builtin.Tuple.tupleExact _) (wpAny_newObj_type (wpAny_pure ⟨_,rfl,wpAny_pure h⟩) rE))
end
end HT
namespace L2
open PySem PySem.Spec PyProof.Rows List
abbrev TO:=St->Hp->(Option Int->Hp->Prop)->Prop
def PO (X:Cx) (e:Option Expr) (t:TO):Prop:=
 ∀(aa:List (Addr×Obj)) (s:Shared) (σ:St) (H:Hp) (Q:Option Int->Hp->Prop),Inv X aa σ H s->t σ H Q->
  wpAny (model X.prog X.w) X.A (evalPart e X.env) (λ u s'=>∃o H',Inv X aa σ H' s'/\IsPart u o/\Q o H') X.xe s
noncomputable def zx:TO:=λ _ H Q=>Q none H
noncomputable def Gj (t:TE):TO:=fun σ H Q=>t σ H λ x H1=>∃i,x=.int i/\Q (some i) H1
theorem intsAre_of {ns:List Int}:∀{us:List Value},Vals (ns.map V.int) us->IntsAre us ns:=by
 induction ns with
 | nil=>intro us r; rw [map_nil] at r; cases r; exact .nil
 | cons n ns ih=>
  intro us r;rw [map_cons] at r;cases r with
  | cons r1 r2=>
   obtain ⟨t,e⟩:=r1;subst e;exact .cons n t (ih r2)
section
variable {X:Cx} {e:Expr} {te:TE} {lo hi:Option Expr} {tl th:TO} {pos p2:Pos}
theorem zy:PO X none zx:=by
 intro aa s σ H Q I h;rw [evalPart_none];exact wpAny_pure ⟨none,H,I,.none,h⟩
theorem zz (h:PE X e te):PO X (some e) (Gj te):=by
 intro aa s σ H Q I hw;rw [evalPart_some];refine bQ (h aa s σ H _ I hw) λ u s1 ⟨x,H1,I1,r1,q1⟩=>?_;obtain ⟨i,rfl,q⟩:=q1;obtain ⟨t,rfl⟩:=r1;exact ⟨some i,H1,I1,.int i t,q⟩
def Fd (X:Cx) (r:V->Option Int->Option Int->Hp->VK->Prop):Prop:=
 ∀(aa:List (Addr×Obj)) (s:Shared) (σ:St) (H:Hp) (x:V) (v vl vu:Value) (lo hi:Option Int) (sl:Addr) (Q:VK),Inv X aa σ H s->RelV x v->s.heap.IsSliceOf sl vl vu .none->IsPart vl lo->IsPart vu hi->r x lo hi H Q->
  ∃T id,typeLookup (.type T) "__getitem__"=pure (some (.builtin id))/\s.TypeIs v T/\wpAny (model X.prog X.w) X.A (getItem v (.ref sl)) (EP X aa σ Q) X.xe s
noncomputable def Me (r:V->Option Int->Option Int->Hp->VK->Prop) (te:TE) (tl th:TO):TE:=fun σ H Q=>te σ H λ x H1=>tl σ H1 λ l H2=>th σ H2 λ u H3=>r x l u H3 Q
theorem vG {r:V->Option Int->Option Int->Hp->VK->Prop} (hr:Fd X r) (he:PE X e te) (hl:PO X lo tl) (hu:PO X hi th):PE X (.Subscript e (.Slice lo hi none p2) pos) (Me r te tl th):=by
 intro aa s σ H Q I h;refine Subscript_ (bQ (he aa s σ H _ I h) λ v s1 ⟨x,H1,I1,r1,q1⟩=>?_);refine wpAny_Slice (bQ (hl aa s1 σ H1 _ I1 q1) λ vl s2 ⟨l,H2,I2,pl,q2⟩=>bQ (hu aa s2 σ H2 _ I2 q2) λ vu s3 ⟨u,H3,I3,pu,q3⟩=>?_);rw [evalPart_none];refine wpAny_pure ?_;have I4:Inv X aa σ H3 {s3 with heap:=s3.heap.push {cls:=.type "slice",data:=.fields #[vl,vu,.none]}}:=I3.kept (t':=s3.toks) λ b ob q=>Heap.get?_push_of_some _ q;obtain ⟨T,id,hT,ht,hg⟩:=hr aa {s3 with heap:=s3.heap.push {cls:=.type "slice",data:=.fields #[vl,vu,.none]}} σ H3 x v vl vu l u s3.heap.objs.size Q I4 r1 (Heap.IsSliceOf.new ..) pl pu q3;show wpAny (model X.prog X.w) X.A (subscriptTail e (.Slice lo hi none p2) v (.ref s3.heap.objs.size)) (EP X aa σ Q) X.xe {s3 with heap:=s3.heap.push {cls:=.type "slice",data:=.fields #[vl,vu,.none]}};exact tail_any (ops:=[.ref s3.heap.objs.size,v]) ht hT hg (by with_unfolding_all rfl)
noncomputable def mh (xs:List V) (lo hi:Option Int):List V:=(xs.drop (HT.bT xs.length 0 lo)).take (HT.bT xs.length xs.length hi - HT.bT xs.length 0 lo)
theorem i6 (xs:List V) (lo hi:Option Int):(mh xs lo hi).length<=xs.length:=by
 unfold mh;rw [length_take,length_drop];omega
noncomputable def J9 (K:PySem.W.Frag):V->Option Int->Option Int->Hp->VK->Prop:=λ x lo hi H Q=>∃a xs,x=.ref a/\cL K H a xs/\
 ¬(HT.bT xs.length 0 lo=0/\HT.bT xs.length xs.length hi=xs.length)/\∀p,H p=none->Q (.ref p) (upd H p (.tup (mh xs lo hi)))
theorem C8:Fd X (J9 X.K):=by
 intro aa s σ H x v vl vu lo hi sl Q I rx hs pl pu h;obtain ⟨a,xs,rfl,hx,hw,q⟩:=h;cases rx;obtain ⟨its,r,ht,hz⟩:=I.tuple hx;have hlen:its.toArray.size=xs.length:=by rw [List.size_toArray]; exact r.length.symm
 refine ⟨"tuple",_,PyProof.Rows.slot_tuple_getitem.lookup,ht.typeIs,?_⟩;refine HT.gV ht hs pl pu (by rw [hlen]; exact hw) ?_ (by rw [hlen]; exact hz);rw [hlen];refine ⟨.ref s.heap.objs.size,_,I.laid (t':=s.toks) (o:=.tup (mh xs lo hi)) (λ b ob q=>Heap.get?_push_of_some _ q) (Nat.le_refl _) ?_,rfl,q _ (I.hok.fresh (Nat.le_refl _))⟩;exact ⟨Nat.le_trans (i6 xs lo hi) hz,_,(r.drop (HT.bT xs.length 0 lo)).take (HT.bT xs.length xs.length hi - HT.bT xs.length 0 lo),IsTup.new _ _⟩
noncomputable def Gk (K:PySem.W.Frag):R2:=λ x y H Q=>∃a b xs ys,x=.ref a/\y=.ref b/\cL K H a xs/\cL K H b ys/\xs≠[]/\xs.length+ys.length<=sizeLine/\
 (ys=[]->Q (.ref a) H)/\(ys≠[]->∀p,H p=none->Q (.ref p) (upd H p (.tup (xs++ys))))
theorem Vals.mj {xs:List V} {us:List Value} (r:Vals xs us):us=[]↔xs=[]:=by
 cases r with
 | nil=>simp
 | cons _ _=>simp
theorem zA:fj X (binaryOp .Add) (Gk X.K):=by
 intro aa s σ H x y v u Q I rx ry h;obtain ⟨a,b,xs,ys,rfl,rfl,ha,hb,hx,hz,q1,q2⟩:=h;cases rx;cases ry;obtain ⟨its,r1,p1,_⟩:=I.tuple ha;obtain ⟨its2,r2,p2,_⟩:=I.tuple hb;refine HT.zw p1 p2 (λ z=>hx (r1.mj.mp z)) (λ z=>⟨.ref a,H,I,rfl,q1 (r2.mj.mp z)⟩) (λ z=>?_) (by rw [<-r1.length,<-r2.length]; exact hz);refine ⟨.ref s.heap.objs.size,_,I.laid (t':=s.toks) (o:=.tup (xs++ys)) (λ b ob q=>Heap.get?_push_of_some _ q) (Nat.le_refl _) ?_,rfl,q2 (λ w=>z (r2.mj.mpr w)) _ (I.hok.fresh (Nat.le_refl _))⟩;exact ⟨by rw [length_append]; exact hz,_,r1.append r2,IsTup.new _ _⟩
end
end L2
namespace L2
open PySem PySem.Spec PyProof.Rows List
variable {H:Hp} {aa:List (Addr×Obj)} {s:Shared} {v:Value} {σ:St}
noncomputable def qb (n:Nat) (i:Int):Option Nat:=if 0<=i then (if i < n then some i.toNat else none) else if -(n:Int)<=i then some (i+n).toNat else none
noncomputable def nU {α:Type} (xs:List α) (i:Int):Option α:=(qb xs.length i).bind λ j=>xs[j]?
theorem rF {n:Nat} {i:Int} {j:Nat} (h:qb n i=some j):seqIndex? i n=some j/\j < n/\-(n:Int)<=i/\i < n:=by
 unfold qb at h
 by_cases h0:0<=i
 ·rw [if_pos h0] at h
  by_cases h1:i < n
  ·rw [if_pos h1] at h;have e:i.toNat=j:=Option.some.inj h;exact ⟨by rw [seqIndex_of h0 h1,e],by omega,by omega,h1⟩
  ·rw [if_neg h1] at h; cases h
 ·rw [if_neg h0] at h
  by_cases h1:-(n:Int)<=i
  ·rw [if_pos h1] at h;have e:(i+n).toNat=j:=Option.some.inj h;exact ⟨by rw [seqIndex_neg (by omega) h1,e],by omega,h1,by omega⟩
  ·rw [if_neg h1] at h; cases h
theorem mq {α:Type} {xs:List α} {i:Int} {v:α} (h:nU xs i=some v):∃j,seqIndex? i xs.length=some j/\xs[j]?=some v/\j < xs.length/\-(xs.length:Int)<=i/\i < xs.length:=by
 unfold nU at h;cases e:qb xs.length i with
 | none=>rw [e] at h; cases h
 | some j=>
  rw [e] at h;obtain ⟨h1,h2,h3,h4⟩:=rF e;exact ⟨j,h1,h,h2,h3,h4⟩
def jx (b:Expr):Prop:=∀o i,subscripted b false o i=operate [o,i] (getItem o i)
def C9 (X:Cx) (r:R2):Prop:=
 ∀(value slice:Expr) (aa:List (Addr×Obj)) (s:Shared) (σ:St) (H:Hp) (x y:V) (v u:Value) (Q:VK),Inv X aa σ H s->RelV x v->RelV y u->r x y H Q->
  subscripted slice false v u=operate [v,u] (getItem v u)->wpAny (model X.prog X.w) X.A (subscriptTail value slice v u) (EP X aa σ Q) X.xe s
def u6 (X:Cx) (id:String) (r:V->List V->Hp->VK->Prop):Prop:=
 ∀(aa:List (Addr×Obj)) (s:Shared) (σ:St) (H:Hp) (x:V) (xs:List V) (v:Value) (us:List Value) (Q:VK),Inv X aa σ H s->RelV x v->Vals xs us->r x xs H Q->
  wpAny (model X.prog X.w) X.A (call (.builtin id) (v::us)) (EP X aa σ Q) X.xe s
section
variable {X:Cx} {a b:Expr} {ta tb:TE} {pos:Pos}
theorem Br {r:R2} (hr:C9 X r) (ha:PE X a ta) (hb:PE X b tb) (hs:jx b):PE X (.Subscript a b pos) (Io r ta tb):=by
 intro aa s σ H Q I h;exact Subscript_ (CS ha hb I h λ v u s2 x y H2 I2 rx ry q=>hr a b aa s2 σ H2 x y v u Q I2 rx ry q (hs _ _))
noncomputable def Ka (K:PySem.W.Frag):R2:=λ x y H Q=>∃p xs i v,x=.ref p/\y=.int i/\fJ K H p xs/\nU xs i=some v/\Q v H
noncomputable def Kc (K:PySem.W.Frag):R2:=λ x y H Q=>∃p xs i v,x=.ref p/\y=.int i/\cL K H p xs/\nU xs i=some v/\Q v H
noncomputable def Ke:R2:=λ x y H Q=>∃z i c,x=.str z/\y=.int i/\z.length<=sizeLine/\nU z.cps.toList i=some c/\Q (.str ⟨#[c]⟩) H
theorem zB:C9 X (Ka X.K):=by
 intro value slice aa s σ H x y v u Q I rx ry h hs;obtain ⟨p,xs,i,z,rfl,rfl,hq,he,q⟩:=h;cases rx;obtain ⟨t,rfl⟩:=ry;obtain ⟨its,r,pl,hz⟩:=I.list hq;obtain ⟨j,h1,h2,h3,h4,h5⟩:=mq he;obtain ⟨w,ew,rw'⟩:=r.get h2;have hl:=r.length;have hn:=fO;have fin:EP X aa σ Q w s:=⟨z,H,I,rw',q⟩
 by_cases h0:0<=i
 ·have hj:i.toNat=j:=by
   rw [seqIndex_of h0 h5] at h1;exact Option.some.inj h1
  exact item_listR pl.isList h0 (by omega) (by rw [hj]; simpa using ew) fin hs
 ·have hj:(i+(its.toArray.size:Int)).toNat=j:=by
   rw [seqIndex_neg (by omega) h4] at h1;rw [List.size_toArray,<-hl];exact Option.some.inj h1
  exact subscriptTail_builtinR (x:=w) pl.isList.typeIs slot_list_getitem.lookup
   (wpAny_getItem_list_neg (Q:=λ r s'=>r=w/\EP X aa σ Q r s') pl.isList (by omega) (by rw [List.size_toArray]<;>omega) (by omega) (by rw [hj]; simpa using ew) ⟨rfl,fin⟩) hs
theorem Dc:C9 X (Kc X.K):=by
 intro value slice aa s σ H x y v u Q I rx ry h hs;obtain ⟨p,xs,i,z,rfl,rfl,hq,he,q⟩:=h;cases rx;obtain ⟨t,rfl⟩:=ry;obtain ⟨its,r,pl,hz⟩:=I.tuple hq;obtain ⟨j,h1,h2,h3,h4,h5⟩:=mq he;obtain ⟨w,ew,rw'⟩:=r.get h2;have hl:=r.length;have hn:=fO;have fin:EP X aa σ Q w s:=⟨z,H,I,rw',q⟩;exact subscriptTail_builtinR (x:=w) pl.typeIs slot_tuple_getitem.lookup
  (getItem_tuple (j:=j) (Q:=λ r s'=>r=w/\EP X aa σ Q r s') pl (by omega) (by omega) (by rw [List.size_toArray,<-hl]; exact h1) (by simpa using ew) ⟨rfl,fin⟩) hs
theorem De:C9 X Ke:=by
 intro value slice aa s σ H x y v u Q I rx ry h hs;obtain ⟨z,i,c,rfl,rfl,hz,he,q⟩:=h;obtain ⟨t,rfl⟩:=rx;obtain ⟨t',rfl⟩:=ry;obtain ⟨j,h1,h2,h3,h4,h5⟩:=mq he;have hl:z.cps.toList.length=z.length:=by simp [Str.length]
 rw [hl] at h1 h4 h5;have hn:=fO;exact tail_any (typeIs_str s z t) slot_str_getitem.lookup (getItem_str (c:=c) (by
  have e1:decide (i < -(2^63:Int))=false:=decide_eq_false (by omega);have e2:decide (i≥2^63)=false:=decide_eq_false (by omega);rw [e1,e2,Bool.or_false]) (by rw [h1]; simpa using h2) ⟨.str ⟨#[c]⟩,H,I.tok _,⟨_,rfl⟩,q⟩) hs
theorem qc (its:List Value) (n j:Nat) (u:Value):Obj.mapSeq (·.setIfInBounds j u) {cls:=.type "list",data:=.seq its.toArray n}={cls:=.type "list",data:=.seq (its.set j u).toArray n}:=by
 simp [Obj.mapSeq]
theorem Inv.lst {p:Addr} {xs:List V} (I:Inv X aa σ H s) (h:H p=some (.lst xs)) :
  ∃(its:List Value) (n:Nat),Vals xs its/\s.heap.get? p=some {cls:=.type "list",data:=.seq its.toArray n}/\xs.length<=sizeLine:=by
 obtain ⟨z,its,n,r,e⟩:=I.hok p _ h;exact ⟨its,n,r,e,z⟩
theorem Inv.Df {p:Addr} {xs ys:List V} {its its':List Value} {n n':Nat} {f:Obj->Obj} (I:Inv X aa σ H s) (h:H p=some (.lst xs))
  (ho:s.heap.get? p=some {cls:=.type "list",data:=.seq its.toArray n}) (hf:f {cls:=.type "list",data:=.seq its.toArray n}={cls:=.type "list",data:=.seq its'.toArray n'}) (r:Vals ys its') (hz:ys.length<=sizeLine) (t:Nat) :
  Inv X aa σ (upd H p (.lst ys)) {s with heap:=s.heap.update p f,toks:=t}:=by
 have e:(s.heap.update p f).get? p=some {cls:=.type "list",data:=.seq its'.toArray n'}:=by
  rw [Heap.get?_update_self f ho (by rw [hf]<;>rfl),hf]
 refine I.write (x:=p) (e:=p) (by rw [h]; trivial) (.inl rfl) (λ b u hb q=>(Heap.get?_update_other _ _ (Ne.symm hb)).trans q) ⟨_,e⟩ ?_;exact ⟨hz,its',n',r,e⟩
noncomputable def Gm:V->V->V->Hp->(Hp->Prop)->Prop:=λ o i v H Q=>∃p xs k j,o=.ref p/\i=.int k/\H p=some (.lst xs)/\qb xs.length k=some j/\Q (upd H p (.lst (xs.set j v)))
theorem set_list:CG X Gm:=by
 intro aa s σ H o i v ov iv u Q I ro ri rv h;obtain ⟨p,xs,k,j,rfl,rfl,hp,hj,q⟩:=h;cases ro;obtain ⟨t,rfl⟩:=ri;obtain ⟨its,n,r,ho,hz⟩:=I.lst hp;obtain ⟨h1,h2,h3,h4⟩:=rF hj;have hl:=r.length;have hn:=fO;have I':Inv X aa σ (upd H p (.lst (xs.set j v))) {s with heap:=s.heap.update p (Obj.mapSeq (·.setIfInBounds j u))}:=
  I.Df hp ho (qc its n j u) (r.set rv j) (by rw [length_set]; exact hz) s.toks
 by_cases h0:0<=k
 ·have hk:k.toNat=j:=by
   rw [seqIndex_of h0 h4] at h1;exact Option.some.inj h1
  exact PySem.W.ki_setAt ho h0 (by omega) (by rw [List.size_toArray,<-hl]; exact h4) (by rw [hk]; exact ⟨_,I',q⟩)
 ·have hk:(k+(its.toArray.size:Int)).toNat=j:=by
   rw [seqIndex_neg (by omega) h3] at h1;rw [List.size_toArray,<-hl];exact Option.some.inj h1
  exact PySem.W.ki_setBack ho (by omega) (by rw [List.size_toArray,<-hl]; exact h3) (by omega) (by rw [hk]; exact ⟨_,I',q⟩)
theorem mw (lo hi:Option Int) (n:Nat):(sliceBounds lo hi none n).1=((HT.bT n 0 lo:Nat):Int)/\(sliceBounds lo hi none n).2.1=((HT.bT n n hi:Nat):Int)/\(sliceBounds lo hi none n).2.2=1:=by
 refine ⟨?_,?_,rfl⟩
 ·cases lo with
  | none=>simp [sliceBounds,HT.bT]
  | some i=>
   simp only [sliceBounds,HT.bT,Option.getD_none,show (1:Int)>0 by decide,if_true]
   by_cases h:i < 0
   ·simp only [h,if_true]<;>omega
   ·simp only [h,if_false]<;>omega
 ·cases hi with
  | none=>simp [sliceBounds,HT.bT]
  | some i=>
   simp only [sliceBounds,HT.bT,Option.getD_none,show (1:Int)>0 by decide,if_true]
   by_cases h:i < 0
   ·simp only [h,if_true]<;>omega
   ·simp only [h,if_false]<;>omega
theorem kE (its:List Value) (lo hi:Option Int):slicePick its.toArray lo hi none=((its.drop (HT.bT its.length 0 lo)).take (HT.bT its.length its.length hi - HT.bT its.length 0 lo)).toArray:=by
 obtain ⟨h1,h2,h3⟩:=mw lo hi its.toArray.size;unfold slicePick;rw [h1,h2,h3];simp only [sliceRange_one,pick_run,List.size_toArray]<;>rfl
noncomputable def Kf (K:PySem.W.Frag):V->Option Int->Option Int->Hp->VK->Prop:=λ x lo hi H Q=>∃a xs,x=.ref a/\fJ K H a xs/\∀p,H p=none->Q (.ref p) (upd H p (.lst (mh xs lo hi)))
theorem zC:Fd X (Kf X.K):=by
 intro aa s σ H x v vl vu lo hi sl Q I rx hs pl pu h;obtain ⟨a,xs,rfl,hx,q⟩:=h;cases rx;obtain ⟨its,r,ht,hz⟩:=I.list hx;have hlen:=r.length;refine ⟨"list",_,slot_list_getitem.lookup,ht.isList.typeIs,?_⟩;refine wpAny_getItem_list_slice ht.isList hs pl pu .none (by simp) ?_ (by rw [List.size_toArray]<;>omega);rw [kE,<-hlen];refine ⟨.ref s.heap.objs.size,_,I.laid (t':=s.toks) (o:=.lst (mh xs lo hi)) (λ b ob q=>Heap.get?_push_of_some _ q) (Nat.le_refl _) ?_,rfl,q _ (I.hok.fresh (Nat.le_refl _))⟩;exact ⟨Nat.le_trans (i6 xs lo hi) hz,_,0,(r.drop (HT.bT xs.length 0 lo)).take (HT.bT xs.length xs.length hi - HT.bT xs.length 0 lo),Heap.get?_push_size _ rfl⟩
noncomputable def i7:V->Bool
 | .non=>true
 | .bl _=>true
 | .int _=>true
 | .str _=>true
 | _=>false
noncomputable def zD:V->V->Bool
 | .non,.non=>true
 | .bl a,.bl b=>a==b
 | .bl a,.int b=>(if a then 1 else 0)==b
 | .int a,.bl b=>a==(if b then 1 else 0)
 | .int a,.int b=>a==b
 | .str a,.str b=>a==b
 | _,_=>false
theorem Dg {A:Around} {y x:V} {u:Value} (ry:RelV y u) (rx:RelV x v) (fy:i7 y=true) (fx:i7 x=true):SeqAt.EqAt A s u v (zD y x):=by
 cases y with
 | non=>
  cases ry;cases x with
  | non=>cases rx; exact SeqAt.EqAt.same _
  | bl b=>cases rx; exact SeqAt.EqAt.none_bool b
  | int b=>obtain ⟨t,rfl⟩:=rx; exact SeqAt.EqAt.none_int b t
  | str b=>obtain ⟨t,rfl⟩:=rx; exact SeqAt.EqAt.none_str b t
  | _=>exact absurd (show false=true from fx) Bool.false_ne_true
 | bl a=>
  cases ry;cases x with
  | non=>cases rx; exact SeqAt.EqAt.bool_none a
  | bl b=>cases rx; exact SeqAt.EqAt.bool_bool a b
  | int b=>obtain ⟨t,rfl⟩:=rx; exact SeqAt.EqAt.bool_int a b t
  | str b=>obtain ⟨t,rfl⟩:=rx; exact SeqAt.EqAt.bool_str a b t
  | _=>exact absurd (show false=true from fx) Bool.false_ne_true
 | int a=>
  obtain ⟨t',rfl⟩:=ry;cases x with
  | non=>cases rx; exact SeqAt.EqAt.int_none a t'
  | bl b=>cases rx; exact SeqAt.EqAt.int_bool a t' b
  | int b=>obtain ⟨t,rfl⟩:=rx; exact SeqAt.EqAt.int_int a t' b t
  | str b=>obtain ⟨t,rfl⟩:=rx; exact SeqAt.EqAt.int_str a t' b t
  | _=>exact absurd (show false=true from fx) Bool.false_ne_true
 | str a=>
  obtain ⟨t',rfl⟩:=ry;cases x with
  | non=>cases rx; exact SeqAt.EqAt.str_none a t'
  | bl b=>cases rx; exact SeqAt.EqAt.str_bool a t' b
  | int b=>obtain ⟨t,rfl⟩:=rx; exact SeqAt.EqAt.str_int a t' b t
  | str b=>obtain ⟨t,rfl⟩:=rx; exact SeqAt.EqAt.str_str a t' b t
  | _=>exact absurd (show false=true from fx) Bool.false_ne_true
 | _=>exact absurd (show false=true from fy) Bool.false_ne_true
noncomputable def Iq (x:V) (u:Value):Bool:=match u with
 | .none=>zD .non x
 | .bool b=>zD (.bl b) x
 | .int i _=>zD (.int i) x
 | .str z _=>zD (.str z) x
 | _=>false
theorem vH {x y:V} {u:Value} (r:RelV y u) (f:i7 y=true):Iq x u=zD y x:=by
 cases y with
 | non=>cases r; rfl
 | bl b=>cases r; rfl
 | int i=>obtain ⟨t,rfl⟩:=r; rfl
 | str z=>obtain ⟨t,rfl⟩:=r; rfl
 | _=>exact absurd (show false=true from f) Bool.false_ne_true
theorem nV {A:Around} {x:V} (rx:RelV x v) (fx:i7 x=true):∀{xs:List V} {us:List Value},Vals xs us->xs.all i7=true->∀u∈us,SeqAt.EqAt A s u v (Iq x u)
 | _,_,.nil,_=>λ u hu=>by cases hu
 | y::xs,u::us,.cons r t,f=>λ u' hu=>by
  rw [all_cons,Bool.and_eq_true] at f;rcases List.mem_cons.mp hu with rfl | hu
  ·rw [vH r f.1]; exact Dg r rx f.1 fx
  ·exact nV rx fx t f.2 u' hu
theorem mz:bU X (.builtin "len") (λ xs H Q=>∃p ys,xs=[.ref p]/\(fJ X.K H p ys\/cL X.K H p ys)/\Q (.int ys.length) H):=by
 intro aa s σ H xs us Q I r h;obtain ⟨p,ys,rfl,hq,q⟩:=h;obtain ⟨u,rfl,rx⟩:=vals1 r;cases rx;have hn:=fO;rcases hq with hq | hq
 ·obtain ⟨its,r',pl,hz⟩:=I.list hq;have hlen:=r'.length;exact Calls.call_len_list pl.isList (by simp only [List.size_toArray]<;>omega) ⟨.int ys.length,H,I.tok _,⟨s.toks+1,by rw [List.size_toArray,hlen]⟩,q⟩
 ·obtain ⟨its,r',pl,hz⟩:=I.tuple hq;have hlen:=r'.length;exact len_tuple pl (by simp only [List.size_toArray]<;>omega) ⟨.int ys.length,H,I.tok _,⟨s.toks+1,by rw [List.size_toArray,hlen]⟩,q⟩
theorem mC:bU X (.builtin "len") (λ xs H Q=>∃z,xs=[.str z]/\z.length<=sizeLine/\Q (.int z.length) H):=by
 intro aa s σ H xs us Q I r h;obtain ⟨z,rfl,hz,q⟩:=h;obtain ⟨u,rfl,t,rfl⟩:=vals1 r;have hn:=fO;exact len_str (by omega) ⟨.int z.length,H,I.tok _,⟨_,rfl⟩,q⟩
theorem mD:bU X (.type "list") (λ xs H Q=>∃p ys,xs=[.ref p]/\(fJ X.K H p ys\/cL X.K H p ys)/\∀l,H l=none->Q (.ref l) (upd H l (.lst ys))):=by
 intro aa s σ H xs us Q I r h;obtain ⟨p,ys,rfl,hq,q⟩:=h;obtain ⟨u,rfl,rx⟩:=vals1 r;cases rx;have fin:∀(its:List Value),Vals ys its->ys.length<=sizeLine->∀(h':Heap) (c':Nat),(∀b o',s.heap.get? b=some o'->h'.get? b=some o')->
   h'.get? s.heap.objs.size=some {cls:=.type "list",dict:=none,data:=.seq its.toArray c',slots:=#[]}->EP X aa σ Q (.ref s.heap.objs.size) {s with heap:=h'}:=λ its r' hz h' c' kp e=>
  ⟨.ref s.heap.objs.size,_,I.laid (t':=s.toks) kp (Nat.le_refl _) (show bF X.prog X.w _ h' _ (.lst ys) from ⟨hz,its,c',r',e⟩),rfl,q _ (I.hok.fresh (Nat.le_refl _))⟩
 rcases hq with hq | hq
 ·obtain ⟨its,r',pl,hz⟩:=I.list hq;have hlen:=r'.length;obtain ⟨o,ho,hc,n,hd⟩:=pl.isList;exact call_list_seq p (.inl rfl) ho hc hd (λ h' c' kp e=>fin its r' hz h' c' kp e) (by simp only [List.size_toArray]<;>omega)
 ·obtain ⟨its,r',pl,hz⟩:=I.tuple hq;have hlen:=r'.length;obtain ⟨o,ho,hc,n,hd⟩:=pl;exact call_list_seq p (.inr rfl) ho hc hd (λ h' c' kp e=>fin its r' hz h' c' kp e) (by simp only [List.size_toArray]<;>omega)
theorem kG:bU X (.type "tuple") (λ xs H Q=>∃p ys,xs=[.ref p]/\((fJ X.K H p ys/\∀l,H l=none->Q (.ref l) (upd H l (.tup ys)))\/(cL X.K H p ys/\Q (.ref p) H))):=by
 intro aa s σ H xs us Q I r h;obtain ⟨p,ys,rfl,h⟩:=h;obtain ⟨u,rfl,rx⟩:=vals1 r;cases rx;rcases h with ⟨hq,q⟩ | ⟨hq,q⟩
 ·obtain ⟨its,r',pl,hz⟩:=I.list hq;have hlen:=r'.length;refine call_tuple_list pl.isList (λ h' kp=>?_) (by simp only [List.size_toArray]<;>omega);have I1:Inv X aa σ H {s with heap:=h'}:=I.kept (t':=s.toks) kp;have I2:Inv X aa σ (upd H h'.objs.size (.tup ys)) {s with heap:=h'.push {cls:=.type "tuple",data:=.seq its.toArray}}:=
   I1.laid (t':=s.toks) (λ b o e=>Heap.get?_push_of_some _ e) (Nat.le_refl _) (show bF X.prog X.w _ _ _ (.tup ys) from ⟨hz,its,r',IsTup.new _ _⟩)
  exact ⟨.ref h'.objs.size,_,I2,rfl,q _ (I1.hok.fresh (Nat.le_refl _))⟩
 ·obtain ⟨its,r',pl,hz⟩:=I.tuple hq;exact call_tuple_same pl ⟨.ref p,H,I,rfl,q⟩
def Mf (K:PySem.W.Frag) (T:String) (x:V) (H:Hp):Prop:=match x with
 | .str _=>T="str"
 | .int _=>T="int"
 | .ref p=>(T="list"/\∃xs,fJ K H p xs)\/(T="tuple"/\∃o,K.lookup p=some o/\o.cls=.type "tuple"/\o.dict=none)\/
   (T="dict"/\((∃kvs,H p=some (.dK kvs))\/∃kvs,H p=some (.dT kvs)))\/(T="set"/\∃S n,H p=some (.set S n))
 | _=>False
theorem vI {T:String} {x:V} (I:Inv X aa σ H s) (r:RelV x v) (ty:Mf X.K T x H) :
  s.TypeIs v T/\∀a,v=.ref a->∃ob,s.heap.get? a=some ob/\ob.dict=none:=by
 cases x with
 | str z=>
  obtain ⟨t,rfl⟩:=r;cases (show T="str" from ty);exact ⟨typeIs_str s z t,λ _ e=>nomatch e⟩
 | int i=>
  obtain ⟨t,rfl⟩:=r;cases (show T="int" from ty);exact ⟨typeIs_int s i t,λ _ e=>nomatch e⟩
 | ref p=>
  cases r;rcases ty with ⟨rfl,xs,hq⟩ | ⟨rfl,o,hk,hc,hd⟩ | ⟨rfl,hk⟩ | ⟨rfl,S,n,hk⟩
  ·obtain ⟨its,_,pl,_⟩:=I.list hq;refine ⟨pl.isList.typeIs,λ a e=>?_⟩;cases e;obtain ⟨o,n,e,c,hd,_⟩:=pl;exact ⟨o,e,hd⟩
  ·refine ⟨⟨o,I.gA p o hk,hc⟩,λ a e=>?_⟩;cases e;exact ⟨o,I.gA _ o hk,hd⟩
  ·have z:∃o,s.heap.get? p=some o/\o.ExactDict:=by
    rcases hk with ⟨kvs,hk⟩ | ⟨kvs,hk⟩
    ·obtain ⟨_,_,_,_,o,_,_,e,ex,_⟩:=I.hok p _ hk;exact ⟨o,e,ex⟩
    ·obtain ⟨_,_,_,_,o,_,_,e,ex,_⟩:=I.hok p _ hk;exact ⟨o,e,ex⟩
   obtain ⟨o,e,ex⟩:=z;refine ⟨⟨o,e,ex.1⟩,λ a e2=>?_⟩;cases e2;exact ⟨o,e,ex.2.1⟩
  ·obtain ⟨o,_,_,_,e,ex,_⟩:=I.hok p _ hk;refine ⟨⟨o,e,ex.1⟩,λ a e2=>?_⟩;cases e2;exact ⟨o,e,ex.2.1⟩
 | _=>exact False.elim ty
variable {o e:Expr} {es:List Expr} {to:TE} {t:TA} {name:Str} {apos cpos:Pos} {T id:String} {r:V->List V->Hp->VK->Prop}
end
end L2
namespace L2
open PySem PySem.Spec PyProof.Rows List
def yV (X:Cx) (id:String) (r:V->List V->Hp->VK->Prop):Prop:=
 ∀(aa:List (Addr×Obj)) (s:Shared) (σ:St) (H:Hp) (x:V) (xs:List V) (v:Value) (us:List Value) (Q:VK),Inv X aa σ H s->RelV x v->Vals xs us->r x xs H Q->
  wpAny (model X.prog X.w) X.A (call (.builtin id) (v::us)) (EP X aa σ Q) X.xe s
theorem Vals.one:∀{x:V} {us:List Value},Vals [x] us->∃u,us=[u]/\RelV x u
 | _,_,.cons r .nil=>⟨_,rfl,r⟩
theorem Vals.two:∀{x y:V} {us:List Value},Vals [x,y] us->∃u v,us=[u,v]/\RelV x u/\RelV y v
 | _,_,_,.cons r (.cons q .nil)=>⟨_,_,rfl,r,q⟩
theorem Vals.zero:∀{us:List Value},Vals [] us->us=[]
 | _,.nil=>rfl
theorem Vals.dropLast {xs:List V} {us:List Value} (h:Vals xs us):Vals xs.dropLast us.dropLast:=by
 induction h with
 | nil=>exact .nil
 | cons r t ih=>
  cases t with
  | nil=>exact .nil
  | cons q t'=>exact .cons r ih
theorem Vals.eraseIdx:∀{xs:List V} {us:List Value} (i:Nat),Vals xs us->Vals (xs.eraseIdx i) (us.eraseIdx i)
 | _,_,_,.nil=>.nil
 | _,_,0,.cons _ t=>t
 | _,_,i+1,.cons r t=>.cons r (Vals.eraseIdx i t)
theorem qd {α:Type} (l:List α):l.eraseIdx (l.length - 1)=l.dropLast:=by
 induction l with
 | nil=>rfl
 | cons a r ih=>
  cases r with
  | nil=>rfl
  | cons b r=>
   have e:(a::b::r).length - 1=((b::r).length - 1)+1:=by
    have h1:(a::b::r).length=r.length+2:=rfl;have h2:(b::r).length=r.length+1:=rfl;omega
   rw [e,eraseIdx_cons_succ,ih]
   all_goals rfl
theorem ly {α:Type}:∀(l:List α) (i:Nat),(l.eraseIdx i).length<=l.length
 | [],_=>Nat.le_refl _
 | _::_,0=>Nat.le_succ _
 | _::r,i+1=>Nat.succ_le_succ (ly r i)
section
variable {X:Cx} {aa:List (Addr×Obj)} {σ:St} {H:Hp} {s:Shared} {l b:Addr} {xs ys zs:List V}
theorem Inv.jK {its its':List Value} {n:Nat} {f:Array Value->Array Value} {t':Nat} (I:Inv X aa σ H s) (hH:H l=some (.lst xs))
  (e:s.heap.get? l=some {cls:=.type "list",data:=.seq its.toArray n}) (hf:f its.toArray=its'.toArray) (hv:Vals ys its') (hz:ys.length<=sizeLine) :
  Inv X aa σ (upd H l (.lst ys)) {s with heap:=s.heap.update l (Obj.mapSeq f),toks:=t'}:=by
 have q:=PySem.IsL.update e f;rw [hf] at q;refine I.write (x:=l) (e:=l) (by rw [hH]; exact trivial) (.inl rfl) (λ b' u hb hu=>(Heap.get?_update_other s.heap (Obj.mapSeq f) (Ne.symm hb)).trans hu) ⟨_,q⟩ ?_;exact ⟨hz,its',_,hv,q⟩
theorem Inv.Gn {its:List Value} {t':Nat} (I:Inv X aa σ H s) (hv:Vals ys its) (hz:ys.length<=sizeLine) :
  Inv X aa σ (upd H s.heap.objs.size (.lst ys)) {s with heap:=s.heap.push {cls:=.type "list",data:=.seq its.toArray},toks:=t'}:=
 I.laid (λ _ _ q=>Heap.get?_push_of_some _ q) (Nat.le_refl _) ⟨hz,its,0,hv,Heap.get?_push_size _ rfl⟩
theorem Inv.fresh (I:Inv X aa σ H s):H s.heap.objs.size=none:=I.hok.fresh (Nat.le_refl _)
theorem Inv.tY (I:Inv X aa σ H s) (hH:H l=some (.lst xs)):xs.length<=sizeLine/\∃(its:List Value) (n:Nat),Vals xs its/\xs.length=its.length/\s.heap.get? l=some {cls:=.type "list",data:=.seq its.toArray n}:=by
 obtain ⟨z,its,n,r,e⟩:=I.hok l _ hH;exact ⟨z,its,n,r,r.length,e⟩
end
section
variable {X:Cx}
noncomputable def zE:V->List V->Hp->VK->Prop:=λ x vs H Q=>∃l xs y,x=.ref l/\vs=[y]/\H l=some (.lst xs)/\xs.length < sizeLine/\Q .non (upd H l (.lst (xs++[y])))
theorem lA:yV X "list.append" zE:=by
 intro aa s σ H x vs v us Q I rx rv h;obtain ⟨l,xs,y,rfl,rfl,hH,hz,q⟩:=h;cases rx;obtain ⟨u,rfl,ru⟩:=rv.one;obtain ⟨z,its,n,r,hl,e⟩:=I.tY hH;refine call_meets F.slot_list_append ⟨_,e,rfl⟩ F.entry_list_append (F.args_list_append_2 _ _) (PySem.list_append l its.toArray n u (by rw [List.size_toArray]; omega)) ⟨e,?_⟩;refine ⟨.non,_,I.jK (its':=its++[u]) hH e (by simp) (r.append (.cons ru .nil)) ?_,rfl,q⟩;rw [length_append,length_singleton];omega
noncomputable def Kg:V->List V->Hp->VK->Prop:=λ x vs H Q=>∃l xs y,x=.ref l/\vs=[]/\H l=some (.lst xs)/\xs[xs.length - 1]?=some y/\Q y (upd H l (.lst xs.dropLast))
theorem Dh:yV X "list.pop" Kg:=by
 intro aa s σ H x vs v us Q I rx rv h;obtain ⟨l,xs,y,rfl,rfl,hH,hy,q⟩:=h;cases rx;have Kh:=rv.zero;subst Kh;obtain ⟨z,its,n,r,hl,e⟩:=I.tY hH;obtain ⟨u,hu,ru⟩:=r.get hy;have hy':its.toArray[its.toArray.size - 1]?=some u:=by
  show its.toArray[its.length - 1]?=some u;rw [<-Array.getElem?_toList,<-hl];exact hu
 refine call_meets F.slot_list_pop ⟨_,e,rfl⟩ F.entry_list_pop (F.args_list_pop_1 _) (MeetsSeq.list_pop_last l its.toArray n u hy' (by rw [List.size_toArray]; omega)) ⟨e,?_⟩;refine ⟨y,_,I.jK (its':=its.dropLast) hH e ?_ r.dropLast ?_,ru,q⟩
 ·show its.toArray.eraseIdxIfInBounds (its.toArray.size - 1)=its.dropLast.toArray;rw [List.size_toArray,eraseIdxIfInBounds_toArray,qd]
 ·rw [length_dropLast];omega
noncomputable def Di:V->List V->Hp->VK->Prop:=λ x vs H Q=>∃l xs i k y,x=.ref l/\vs=[.int i]/\H l=some (.lst xs)/\-(2^63)<=i/\i < 2^63/\seqIndex? i xs.length=some k/\xs[k]?=some y/\Q y (upd H l (.lst (xs.eraseIdx k)))
theorem vJ:yV X "list.pop" Di:=by
 intro aa s σ H x vs v us Q I rx rv h;obtain ⟨l,xs,i,k,y,rfl,rfl,hH,h1,h2,hk,hy,q⟩:=h;cases rx;obtain ⟨u,rfl,ru⟩:=rv.one;obtain ⟨t,rfl⟩:=ru;obtain ⟨z,its,n,r,hl,e⟩:=I.tY hH;obtain ⟨w,hw,rw'⟩:=r.get hy;refine call_meets F.slot_list_pop ⟨_,e,rfl⟩ F.entry_list_pop (F.args_list_pop_2 _ _)
  (MeetsSeq.list_pop_at l its.toArray n i t k w (fitsIndex_both h1 h2) (by rw [List.size_toArray,<-hl]; exact hk) (by rw [<-Array.getElem?_toList]; exact hw) (by rw [List.size_toArray]; omega)) ⟨e,?_⟩
 refine ⟨y,_,I.jK (its':=its.eraseIdx k) hH e ?_ (r.eraseIdx k) ?_,rw',q⟩
 ·show its.toArray.eraseIdxIfInBounds k=(its.eraseIdx k).toArray;rw [eraseIdxIfInBounds_toArray]
 ·have:=ly xs k;omega
noncomputable def Dj:V->List V->Hp->VK->Prop:=λ x vs H Q=>∃l xs,x=.ref l/\vs=[]/\H l=some (.lst xs)/\Q .non (upd H l (.lst []))
theorem vK:yV X "list.clear" Dj:=by
 intro aa s σ H x vs v us Q I rx rv h;obtain ⟨l,xs,rfl,rfl,hH,q⟩:=h;cases rx;have Kh:=rv.zero;subst Kh;obtain ⟨z,its,n,r,hl,e⟩:=I.tY hH;refine call_meets F.slot_list_clear ⟨_,e,rfl⟩ F.entry_list_clear (F.args_list_clear_1 _) (AutoSeq1.list_clear_list_0 l its.toArray n (by rw [List.size_toArray]; omega)) ⟨e,?_⟩;exact ⟨.non,_,I.jK (its':=[]) (ys:=[]) hH e rfl .nil (Nat.zero_le _),rfl,q⟩
end
end L2
namespace L2
open PySem PySem.Spec PyProof.Rows List
variable {H:Hp} {P:Program} {X:Cx} {kvs:List (Key×V)} {pos:Pos} {u:Value} {w:World}
section
variable {κ:Type} [DecidableEq κ]
noncomputable def jk (kvs:List (κ×V)) (k:κ):Option V:=(kvs.find? λ kv=>decide (kv.1=k)).map (·.2)
noncomputable def putK (kvs:List (κ×V)) (k:κ) (v:V):List (κ×V):=
 if (kvs.any λ kv=>decide (kv.1=k))=true then kvs.map (λ kv=>if kv.1=k then (kv.1,v) else kv) else kvs++[(k,v)]
theorem nW {p:κ×V} {r:List (κ×V)} {k:κ} (e:p.1=k):jk (p::r) k=some p.2:=by simp [jk,find?_cons,e]
theorem nX {p:κ×V} {r:List (κ×V)} {k:κ} (e:¬p.1=k):jk (p::r) k=jk r k:=by simp [jk,find?_cons,e]
theorem nY (kvs:List (κ×V)) (k:κ) (v:V):(putK kvs k v).length<=kvs.length+1:=by
 unfold putK;split
 ·rw [length_map]; omega
 ·rw [length_append,length_cons,length_nil]; omega
theorem eL.gg {o:Option V} {u:Option Value} (r:eL o u):o.isSome=u.isSome:=by
 cases o with
 | none=>cases u with
  | none=>rfl
  | some _=>exact (show False from r).elim
 | some _=>cases u with
  | none=>exact (show False from r).elim
  | some _=>rfl
theorem KV.val {kvs:List (κ×V)} {vs:List (κ×Value)} (r:KV kvs vs) (k:κ):eL (jk kvs k) (valueAt vs k):=by
 unfold KV at r
 induction r with
 | nil=>exact True.intro
 | @cons p q ps qs h t ih=>
  obtain ⟨h1,h2⟩:=h
  by_cases e:p.1=k
  ·have e':q.1=k:=h1.symm.trans e;have b:valueAt (q::qs) k=some q.2:=by simp [valueAt,find?_cons,e']
   rw [nW e,b]; exact h2
  ·have e':¬q.1=k:=λ z=>e (h1.trans z);have b:valueAt (q::qs) k=valueAt qs k:=by simp [valueAt,find?_cons,e']
   rw [nX e,b]; exact ih
theorem KV.any {kvs:List (κ×V)} {vs:List (κ×Value)} (r:KV kvs vs) (k:κ):(kvs.any λ kv=>decide (kv.1=k))=vs.any λ kv=>decide (kv.1=k):=by
 unfold KV at r
 induction r with
 | nil=>rfl
 | cons h t ih=>rw [any_cons,any_cons,ih,h.1]
theorem KV.repl {kvs:List (κ×V)} {vs:List (κ×Value)} (r:KV kvs vs) (k:κ) {y:V} (ry:RelV y u) :
  KV (kvs.map λ kv=>if kv.1=k then (kv.1,y) else kv) (vs.map λ kv=>if kv.1=k then (kv.1,u) else kv):=by
 unfold KV at r ⊢
 induction r with
 | nil=>exact .nil
 | @cons p q ps qs h t ih=>
  rw [map_cons,map_cons];refine .cons ?_ ih;obtain ⟨h1,h2⟩:=h
  by_cases e:p.1=k
  ·rw [if_pos e,if_pos (h1.symm.trans e)]; exact ⟨h1,ry⟩
  ·rw [if_neg e,if_neg (λ z=>e (h1.trans z))]; exact ⟨h1,h2⟩
theorem KV.put {kvs:List (κ×V)} {vs:List (κ×Value)} (r:KV kvs vs) (k:κ) {y:V} (ry:RelV y u):KV (putK kvs k y) (stored vs k u):=by
 unfold putK stored;rw [r.any k]
 by_cases e:(vs.any λ kv=>decide (kv.1=k))=true
 ·rw [if_pos e,if_pos e]; exact r.repl k ry
 ·rw [if_neg e,if_neg e]; exact Paired.snoc r ⟨rfl,ry⟩
end
theorem nZ {k:Key} (r:RelV (kV k) u):(bC P w).is k u=true:=by
 cases k with
 | inl i=>obtain ⟨t,e⟩:=(show ∃t,u=Value.int i t from r); subst e; exact nK P w i t
 | inr x=>obtain ⟨t,e⟩:=(show ∃t,u=Value.str x t from r); subst e; exact nL P w x t
theorem lB:∀{ks:List Key} {us:List Value},Vals (ks.map kV) us->ItemsAre (bC P w) ks us
 | [],_,r=>by rw [map_nil] at r; cases r; exact .nil
 | k::ks,_,r=>by
  rw [map_cons] at r;cases r with
  | cons h t=>exact .cons (nZ h) (lB t)
abbrev KT (H:Hp):List (List Key×V)->List (List Key×Addr×Value)->Prop:=Paired λ p q=>p.1=q.1/\H q.2.1=some (.tup (p.1.map kV))/\RelV p.2 q.2.2
theorem KT.val {kvs:List (List Key×V)} {xs:List (List Key×Addr×Value)} (r:KT H kvs xs) (k:List Key):eL (jk kvs k) ((atKey xs k).map (·.2)):=by
 induction r with
 | nil=>exact True.intro
 | @cons p q ps qs h t ih=>
  obtain ⟨h1,_,h2⟩:=h
  by_cases e:p.1=k
  ·have e':q.1=k:=h1.symm.trans e;have b:atKey (q::qs) k=some q.2:=by simp [atKey,find?_cons,e']
   rw [nW e,b]; exact h2
  ·have e':¬q.1=k:=λ z=>e (h1.trans z);have b:atKey (q::qs) k=atKey qs k:=by simp [atKey,find?_cons,e']
   rw [nX e,b]; exact ih
section
variable {P:Program} {w:World} {H:Hp} {h:Heap} {a:Addr}
theorem Bs {u:HO} (ok:fG P w H h) (e:Rd H a u):bF P w H h a u:=e.ok ok
theorem rG (ok:fG P w H h) (e:Rd H a (.dK kvs)):kvs.length<=sizeLine/\(a==sysModules)=false/\∃vs,KV kvs vs/\h.DictOf (bC P w) a vs:=
 show bF P w H h a (.dK kvs) from Bs ok e
theorem Gp (ok:fG P w H h) (e:H a=some (.dK kvs)):kvs.length<=sizeLine/\(a==sysModules)=false/\∃vs,KV kvs vs/\h.DictOf (bC P w) a vs:=rG ok (.inl e)
theorem qe {ks:List Key} (ok:fG P w H h) (e:H a=some (.tup (ks.map kV))):(tupleKind (bC P w)).is h ks a:=by
 obtain ⟨_,its,r,o,h1,h2,n,h3⟩:=(show bF P w H h a (.tup (ks.map kV)) from ok a _ e);exact ⟨o,its.toArray,n,h1,h2,h3,by simpa using lB r⟩
theorem Bt {kvs:List (List Key×V)} (ok:fG P w H h) (e:Rd H a (.dT kvs)):kvs.length<=sizeLine/\(a==sysModules)=false/\
  ∃xs,KT H kvs xs/\h.DictOfH (tupleKind (bC P w)) a xs:=by
 obtain ⟨z,y,xs,r,o,es,ep,h1,h2,h3,h4,h5⟩:=(show bF P w H h a (.dT kvs) from Bs ok e);refine ⟨z,y,xs,r,o,es,ep,h1,h2,h3,h4,λ x hx=>?_,h5⟩;have all:∀{l:List (List Key×V)} {m:List (List Key×Addr×Value)},KT H l m->∀x∈m,(tupleKind (bC P w)).is h x.1 x.2.1:=by
  intro l m q
  induction q with
  | nil=>intro x hx; exact nomatch hx
  | @cons p q ps qs hq t ih=>
   intro x hx;rcases List.mem_cons.mp hx with e | hx
   ·subst e;exact qe ok (by rw [<-hq.1]; exact hq.2.1)
   ·exact ih x hx
 exact all r x hx
end
def zF (H:Hp) (a:Addr) (y:V) (r:Option V):Prop:=
 (∃kvs k,Rd H a (.dK kvs)/\y=kV k/\r=jk kvs k)\/∃kvs k b,Rd H a (.dT kvs)/\y=.ref b/\H b=some (.tup (k.map kV))/\r=jk kvs k
theorem zF.k {a:Addr} {k:Key} (e:H a=some (.dK kvs)):zF H a (kV k) (jk kvs k):=.inl ⟨kvs,k,.inl e,rfl,rfl⟩
section
variable {X:Cx} {aa:List (Addr×Obj)} {σ:St} {H:Hp} {s:Shared} {a:Addr} {y v:V} {u r:Value} {o:Option V} {A:Around} {E:Value->Shared->Prop}
theorem Inv.big (I:Inv X aa σ H s):sysModules < s.heap.objs.size:=by
 have h:mainGlobals < s.heap.objs.size:=(I.mod.glob.keeps I.bk).lt;exact Nat.lt_trans (by decide) h
theorem Kl {Q:Value->Shared->Prop} (hu:A.units+1 < cLine) (I:Inv X aa σ H s) (g:zF H a y o) (ry:RelV y u) (h:∀s',Inv X aa σ H s'->Q (.bool o.isSome) s') :
  wpAny (model X.prog X.w) A (compareOp .In u (.ref a)) Q E s:=by
 rcases g with ⟨kvs,k,e,ey,l⟩ | ⟨kvs,k,b,e,ey,eb,l⟩
 ·subst ey;obtain ⟨z,hd,vs,rel,dd⟩:=rG I.hok e;refine wpAny_in_of (nZ ry) hd dd.mapOf ?_;rw [<-(rel.val k).gg,<-l];exact h _ (I.tok _)
 ·subst ey;cases (show u=Value.ref b from ry);obtain ⟨z,hd,xs,rel,dd⟩:=Bt I.hok e;refine wpAny_in_heap (tupleKind_room_in1 hu) (qe I.hok eb) hd dd ?_;have q:=(rel.val k).gg;rw [Option.isSome_map] at q;rw [<-q,<-l];exact h _ (I.tok _)
theorem zG {Q:Value->Shared->Prop} (hu:A.units+1 < cLine) (I:Inv X aa σ H s) (g:zF H a y o) (ry:RelV y u) (h:∀s',Inv X aa σ H s'->Q (.bool (!o.isSome)) s') :
  wpAny (model X.prog X.w) A (compareOp .NotIn u (.ref a)) Q E s:=by
 rcases g with ⟨kvs,k,e,ey,l⟩ | ⟨kvs,k,b,e,ey,eb,l⟩
 ·subst ey;obtain ⟨z,hd,vs,rel,dd⟩:=rG I.hok e;refine wpAny_notIn_of (nZ ry) hd dd.mapOf ?_;rw [<-(rel.val k).gg,<-l];exact h _ (I.tok _)
 ·subst ey;cases (show u=Value.ref b from ry);obtain ⟨z,hd,xs,rel,dd⟩:=Bt I.hok e;refine wpAny_notIn_heap (tupleKind_room_in1 hu) (qe I.hok eb) hd dd ?_;have q:=(rel.val k).gg;rw [Option.isSome_map] at q;rw [<-q,<-l];exact h _ (I.tok _)
theorem zH {h':Heap} {t':Nat} {ob:HO} (I:Inv X aa σ H s) (mu:Fy (H a)) (hs:Heap.SameBut a s.heap h') (he:∃q,h'.get? a=some q) (new:bF X.prog X.w (upd H a ob) h' a ob) :
  Inv X aa σ (upd H a ob) {s with heap:=h',toks:=t'}:=
 I.write (x:=a) (e:=a) mu (.inl rfl) (λ b q hb z=>(hs.2 b hb).trans z) he new
theorem Dk {H':Hp} {h':Heap} {vs:List (Key×Value)} (z:kvs.length<=sizeLine) (hd:(a==sysModules)=false) (rel:KV kvs vs) (dd:h'.DictOf (bC P w) a vs) :
  bF P w H' h' a (.dK kvs):=⟨z,hd,vs,rel,dd⟩
end
theorem vL (h:Heap) (hb:sysModules < h.objs.size):bF P w H (h.push {cls:=.type "dict",data:=.dict #[]}) h.objs.size (.dK []):=
 ⟨Nat.zero_le _,beq_eq_false_iff_ne.mpr (Ne.symm (Nat.ne_of_lt hb)),[],.nil,Heap.DictOf.new h⟩
noncomputable def mE:List (TE×TE)->St->Hp->(List (V×V)->Hp->Prop)->Prop
 | [],_,H,Q=>Q [] H
 | (tk,tv)::r,σ,H,Q=>tk σ H λ x H1=>tv σ H1 λ y H2=>mE r σ H2 λ ps H3=>Q ((x,y)::ps) H3
abbrev VV:List (V×V)->List (Value×Value)->Prop:=Paired λ p q=>RelV p.1 q.1/\RelV p.2 q.2
def Fe (X:Cx) (pos:Pos) (keys:List (Option Expr)) (values:List Expr) (zI:List (TE×TE)):Prop:=
 ∀(aa:List (Addr×Obj)) (s:Shared) (σ:St) (H:Hp) (Q:List (V×V)->Hp->Prop),Inv X aa σ H s->mE zI σ H Q->
  wpAny (model X.prog X.w) X.A (evalPairs (pairTrees keys values X.env pos)) (λ vs s'=>∃ps H',Inv X aa σ H' s'/\VV ps vs/\Q ps H') X.xe s
theorem zJ:Fe X pos [] [] []:=λ aa s σ H Q I h=>pairTrees_nil_walk ⟨[],H,I,.nil,h⟩
theorem vM {k v:Expr} {ks:List (Option Expr)} {vs:List Expr} {tk tv:TE} {zI:List (TE×TE)} (hk:PE X k tk) (hv:PE X v tv) (hr:Fe X pos ks vs zI) :
  Fe X pos (some k::ks) (v::vs) ((tk,tv)::zI):=λ aa s σ H Q I h=>
 pairTrees_cons_walk (bQ (hk aa s σ H _ I h) λ u s1 ⟨x,H1,I1,rx,q1⟩=>bQ (hv aa s1 σ H1 _ I1 q1) λ w2 s2 ⟨y,H2,I2,ry,q2⟩=>
  bQ (hr aa s2 σ H2 _ I2 q2) λ ws s3 ⟨ps,H3,I3,rel,q3⟩=>⟨(x,y)::ps,H3,I3,.cons ⟨rx,ry⟩ rel,q3⟩)
noncomputable def fk (kvs more:List (Key×V)):List (Key×V):=more.foldl (λ acc kv=>putK acc kv.1 kv.2) kvs
theorem KV.merge:∀{more:List (Key×V)} {rs:List (Key×Value)} {kvs:List (Key×V)} {vs:List (Key×Value)},KV more rs->KV kvs vs->KV (fk kvs more) (merged vs rs):=by
 intro more rs kvs vs r;unfold KV at r
 induction r generalizing kvs vs with
 | nil=>intro q; exact q
 | @cons p q ps qs h t ih=>
  intro r0;have e:KV (putK kvs p.1 p.2) (stored vs q.1 q.2):=by
   have:=r0.put p.1 h.2;rw [<-h.1]; exact this
  exact ih e
theorem gB:∀(more kvs:List (Key×V)),(fk kvs more).length<=kvs.length+more.length
 | [],kvs=>by show kvs.length<=kvs.length+0; omega
 | p::r,kvs=>by
  have h1:=gB r (putK kvs p.1 p.2);have h2:=nY kvs p.1 p.2;show (fk (putK kvs p.1 p.2) r).length<=_;rw [length_cons]; omega
theorem jL {P:Program} {w:World}:∀{kvs:List (Key×V)} {ws:List (Value×Value)},VV (kvs.map λ kv=>(kV kv.1,kv.2)) ws->∃rs,Carries (bC P w) ws rs/\KV kvs rs
 | [],_,r=>by rw [map_nil] at r; cases r; exact ⟨[],True.intro,.nil⟩
 | p::kvs,_,r=>by
  rw [map_cons] at r;cases r with
  | @cons a b as bs h t=>
   obtain ⟨rs,c,q⟩:=jL (P:=P) (w:=w) t;obtain ⟨b1,b2⟩:=b;exact ⟨(p.1,b2)::rs,⟨nZ h.1,rfl,c⟩,.cons ⟨rfl,h.2⟩ q⟩
noncomputable def Gq (zI:List (TE×TE)):TE:=fun σ H Q=>∀p,H p=none->mE zI σ (upd H p (.dK [])) λ ps H2=>H2 p=some (.dK [])/\∃kvs:List (Key×V),ps=kvs.map (λ kv=>(kV kv.1,kv.2))/\kvs.length<=15/\Q (.ref p) (upd H2 p (.dK (fk [] kvs)))
theorem zK {keys:List (Option Expr)} {values:List Expr} {zI:List (TE×TE)} (h:Fe X pos keys values zI) (hall:keys.all (·.isSome)=true) (hl:keys.length=values.length) (h0:keys≠[])
  (Km:keys.length<=15):PE X (.Dict keys values pos) (Gq zI):=by
 intro aa s σ H Q I q;have hn:=I.hok.fresh (Nat.le_refl s.heap.objs.size);have I1:=I.laid (a:=s.heap.objs.size) (o:=.dK []) (h':=s.heap.push {cls:=.type "dict",data:=.dict #[]}) (t':=s.toks) (λ _ _ q=>Heap.get?_push_of_some _ q) (Nat.le_refl _) (vL s.heap I.big);refine wpAny_Dict_walk (knd:=bC X.prog X.w) hall hl h0 Km (bQ (h aa _ σ _ _ I1 (q _ hn)) λ ws s2 ⟨ps,H2,I2,rel,e,kvs,ep,lk,q2⟩=>?_);subst ep;obtain ⟨rs,c,rk⟩:=jL (P:=X.prog) (w:=X.w) rel;obtain ⟨z,hd,vs0,r0,dd⟩:=Gp I2.hok e;cases r0;refine ⟨rs,c,dd,λ h' dd' hs=>⟨.ref s.heap.objs.size,_,?_,rfl,q2⟩⟩;have hz:(fk [] kvs).length<=sizeLine:=by
  have h1:=gB kvs [];rw [length_nil] at h1;rw [sizeLine_eq]; omega
 have he:∃q,h'.get? s.heap.objs.size=some q:=let ⟨q,_,_,hq,_⟩:=dd'; ⟨q,hq⟩;exact zH I2 (by rw [e]; exact True.intro) hs he (Dk hz hd (rk.merge .nil) dd')
end L2
namespace Att
open PySem PySem.W PySem.Calls PyProof.Rows List
theorem jl {P:Params} {h:Heap}:∀(ns:List Int) (vs:List Value),WellAll P h vs (ns.map WData.int)->IntsAre vs ns:=by
 intro ns
 induction ns with
 | nil=>
  intro vs w;rw [map_nil] at w;cases w;exact .nil
 | cons n ns ih=>
  intro vs w;rw [map_cons] at w;cases w with
  | cons a b=>
   cases a;exact .cons _ _ (ih _ b)
theorem tZ {l:OpenLaw} {n:Nat} (hn:l.most=some n) {P:Params} {h:Heap} {args:List WData} {vals:List Value}
  (hpre:l.row.toRowW.claim.pre args=true) (hwl:WellAll P h vals args) :
  ∃a vs ns,vals=[Value.ref a]/\args=[WData.list (ns.map WData.int)]/\h.get? a=some {cls:=.type "list",data:=.seq vs.toArray}/\IntsAre vs ns/\ns.length<=n:=by
 have hsh:WShape.hasAll [] args [.list .int]=true:=(pre_splitW hpre).1;have hc:l.pre.holds [] {args:=args}=true:=(pre_splitW hpre).2;obtain ⟨d,r,rfl,h1,h2⟩:=hasAllW_cons hsh;obtain rfl:=hasAllW_nil h2;obtain ⟨xs,rfl,h3⟩:=hasW_list h1;obtain ⟨ns,rfl⟩:=items_int h3;have hlen:ns.length<=n:=by
  unfold OpenLaw.pre at hc;have h4:(WTm.not (.lt (.lit (.int (n:Int))) (.len (.arg 0)))).holds [] {args:=[.list (ns.map .int)]}=true:=by
   have h4:=(holds_andW hc).1;rw [hn] at h4;exact h4
  have h5:=condW_of h4 (w_not (w_lt w_lit (w_len_list (w_arg rfl))));rw [length_map] at h5;refine Nat.le_of_not_lt λ q=>?_;have q':(n:Int) < ((ns.length:Nat):Int):=by omega
  first
   | (rw [decide_eq_true q'] at h5; exact absurd h5 (by decide))
   | (simp at h5; omega)
 cases hwl with
 | cons w1 w2=>
  cases w2;cases w1 with
  | list ho hall=>exact ⟨_,_,ns,rfl,rfl,ho,jl ns _ hall,hlen⟩
theorem t6 (l:OpenLaw) (args:List WData):l.row.toRowW.claim.post args (.bool true) args=true:=
 postW_of (r:=l.row.toRowW) (X:=(true==true))
  (show WShape.has [] (.bool true) .bool=true by first | rfl | decide | simp [WShape.has,WShape.arms,WShape.armsAll])
  (show (WTm.eq .res (.lit (.bool true))).value [] {args:=args,res:=some (.bool true),after:=args}=some (.bool (true==true)) from w_eq_bool (w_res rfl) w_lit) rfl
theorem n5 {l:OpenLaw} {n:Nat} {q:Program} {loose:List Str} {XP:(Str->Option Value)->Heap->Prop} {YP:World->Heap->Prop} {d:DefRec}
  (hn:l.most=some n) (hdf:d.params.defaults=[])
  (call:∀(w:World) (s₀ s₁:Shared) (mg mb:Str->Option Value) (fa:Addr) (o:Obj) (pm cd doc:Value) (a:Addr) (vs:List Value) (ns:List Int),
   Ground q loose [] XP w s₀ mg mb s₁.heap->YP w s₁.heap->
   s₁.heap.get? fa=some o->o.data=.func (docDef d.name d.params d.body d.scope pm cd doc)->s₁.heap.CodeRec cd d.name->mg d.name=some (.ref fa)->
   s₁.heap.get? a=some {cls:=.type "list",data:=.seq vs.toArray}->IntsAre vs ns->ns.length<=n->s₁.gens=#[]->
   codeAny (model l.prog w) callerA (.call (.ref fa) ⟨[.ref a],[]⟩) (λ r s'=>r=.ok (.ret (.bool true))/\OldK s₁.heap s'.heap/\s'.os=s₁.os/\AllBare s'.gens) s₁) :
  WalkO q loose XP YP l.row.toRowW d [] (λ f vs=>PySem.call f vs):=by
 intro w s₀ s₁ mg mb G Y fa o pm cd doc dV kV ho hd hcd hD hmg hg args vals as hpre hlay hrd hwl hlo;obtain rfl:dV=.none:=Dflts.none hD hdf;obtain rfl:kV=.none:=Dflts.noKw hD;obtain ⟨a,vs,ns,rfl,rfl,hobj,hints,hlen⟩:=tZ hn hpre hwl;refine enter_call (codeAny_mono (call w s₀ s₁ mg mb fa o pm cd doc a vs ns G Y ho (fd_plain hd) hcd hmg hobj hints hlen hg) λ r s' hq=>?_);obtain ⟨rfl,h2,h3,h4⟩:=hq;exact ⟨.inl ⟨.bool true,.bool true,[],rfl,λ _=>rfl,.bool true,t6 l _,λ _=>⟨List.Pairwise.nil,λ _ hm=>(nomatch hm)⟩⟩,h2,h3,h4⟩
end Att
namespace L2
open PySem PySem.Spec PyProof.Rows List
theorem lC:∀{vs:List Value} {ns:List Int},IntsAre vs ns->Vals (ns.map V.int) vs
 | _,_,.nil=>.nil
 | _,_,.cons n t h=>.cons ⟨t,rfl⟩ (lC h)
def Dm (H:Hp):Prop:=∀b,H b=none\/∃o xs,H b=some (.frz o (.lst xs))
theorem vN {P:Program} {w:World} {K:PySem.W.Frag} {mg mb:Str->Option Value} {CX:zp} {k:Nat} {fa a:Addr} {fd:FuncData} {x:Str} {sp:Sp} {s₁:Shared} {vs:List Value} {ns:List Int}
  (KX:K.In s₁.heap) (hns:s₁.heap.Ns mainGlobals mg) (hb:s₁.heap.Ns builtinsNs mb) (Ly:∀x:Str,x≠"__name__"->mb x=bootBuiltins x) (hlim:s₁.heap.NoLimit) (hg:s₁.gens=#[])
  (ha:s₁.heap.get? a=some {cls:=.type "list",data:=.seq vs.toArray}) (hi:IntsAre vs ns) (hl:ns.length<=sizeLine) (hr:cX k callerA)
  (F:∀base:Heap,K.In base->base.Ns mainGlobals mg->eN P w K mg base CX k fa fd [x] sp) (hbind:∀(s:Shared) (u:Value),BindsTo s fd ⟨[u],[]⟩ [(x,u)])
  (tX:∀H:Hp,Dm H->fJ K H a (ns.map V.int)->sp [.ref a] H (λ v _=>v=.bl true) λ _ _ _=>False)
  (Kn:∀H e s',CX [] H s₁ (λ _ _ _=>False) e s'->False) :
  codeAny (model P w) callerA (.call (.ref fa) ⟨[.ref a],[]⟩) (λ r s'=>r=.ok (.ret (.bool true))/\OldK s₁.heap s'.heap/\s'.os=s₁.os/\AllBare s'.gens) s₁:=by
 have rv:=lC hi;have Ko:=hi.length;have core:∀H:Hp,Dm H->fJ K H a (ns.map V.int)->fG P w H s₁.heap->(∀b,H b≠none->b=a)->(H a≠none->K.lookup a=none)->
   codeAny (model P w) callerA (.call (.ref fa) ⟨[.ref a],[]⟩) (λ r s'=>r=.ok (.ret (.bool true))/\OldK s₁.heap s'.heap/\s'.os=s₁.os/\AllBare s'.gens) s₁:=by
  intro H hO hS hok hA hK;have rH:∀{b:Addr} {o:Obj},s₁.heap.get? b=some o->H b=none->(lU s₁.heap H).get? b=some o:=λ e n=>vc e n;have Gh:∀{b:Addr} {o:Obj} {es:Array DictEntry} {ep:Nat},s₁.heap.get? b=some o->o.data=.dict es ep->H b=none:=λ {b o es ep} e d=>by
   cases q:H b with
   | none=>rfl
   | some u=>
    have e':b=a:=hA b (by rw [q]; simp);subst e';rw [ha] at e; cases e;have d':Data.seq vs.toArray _=Data.dict es ep:=d;cases d'
  have Ir:∀{b:Addr} {m:Str->Option Value},s₁.heap.Ns b m->(lU s₁.heap H).Ns b m:=λ {b m} ⟨o,es,ep,e,d,r⟩=>⟨o,es,ep,rH e (Gh e d),d,r⟩;have Lz:K.In (lU s₁.heap H):=λ b o e=>rH (KX b o e) (by
   cases q:H b with
   | none=>rfl
   | some u=>
    have e':b=a:=hA b (by rw [q]; simp);subst e';rw [hK (by rw [q]; simp)] at e; cases e)
  have hM:Mod K mg (lU s₁.heap H):=⟨Lz,Ir hns,⟨mb,Ir hb,Ly⟩,let ⟨mc,h1,h2⟩:=hlim; ⟨mc,Ir h1,h2⟩⟩;have e0:p5 P w K mg (lU s₁.heap H) callerA [] s₁ H:=⟨rfl,hM,λ b o e=>yY e,Nat.le_of_eq (tL _ _),trivial,λ b hb=>absurd (show b∈([]:List Addr) from hb) (by simp),hok,.of_eq hg⟩;refine codeAny_mono ((F _ Lz (Ir hns)).run callerA [] s₁ H ⟨[.ref a],[]⟩ [.ref a] [.ref a] _ _ hr e0 (hbind s₁ (.ref a)) (.cons rfl .nil) (tX H hO hS)) λ r s' h=>?_;cases r with
  | error e=>exact (Kn H e s' h).elim
  | ok fl=>
   cases fl with
   | next=>exact False.elim h
   | brk=>exact False.elim h
   | cont=>exact False.elim h
   | ret u=>
    obtain ⟨v,H',os,bare,un,hok',r',q⟩:=h;have q':v=.bl true:=q;subst q';obtain rfl:u=Value.bool true:=r';refine ⟨rfl,OldK.of_keep λ b o e=>?_,os,bare⟩;cases q:H b with
    | none=>exact un.keep b o e q (by intro z; exact absurd (show b∈([]:List Addr) from z) (by simp)) (by simp)
    | some u=>
     rcases hO b with z | ⟨ob,xs,z⟩
     ·rw [q] at z; cases z
     ·have z2:=un.jh b ob _ z;obtain ⟨e1,_⟩:=hok b _ z;obtain ⟨e2,_⟩:=hok' b _ z2;rw [e] at e1; cases e1;exact e2
 cases hk:K.lookup a with
 | some o=>
  have e:=KX a o hk;rw [ha] at e;cases e;refine core (λ _=>none) (λ _=>.inl rfl) (.inr ⟨_,vs.toArray,_,hk,rfl,rfl,rfl,by rw [List.size_toArray,Ko]; exact hl,by simpa using rv⟩) (λ b u z=>by have z':(none:Option HO)=some u:=z; cases z') (λ b z=>absurd rfl z) λ z=>absurd rfl z
 | none=>
  refine core (λ b=>if b=a then some (.frz {cls:=.type "list",data:=.seq vs.toArray} (.lst (ns.map V.int))) else none) (λ b=>?_) (.inl (.inr ⟨{cls:=.type "list",data:=.seq vs.toArray},if_pos rfl⟩)) (λ b u z=>?_) (λ b z=>?_) λ _=>hk
  ·by_cases hb:b=a
   ·exact .inr ⟨_,_,if_pos hb⟩
   ·exact .inl (if_neg hb)
  ·by_cases hb:b=a
   ·have z':=(if_pos hb).symm.trans z;cases z';subst hb;exact ⟨ha,by rw [length_map]; exact hl,vs,_,rv,ha⟩
   ·have z':=(if_neg hb).symm.trans z;cases z'
  ·by_cases hb:b=a
   ·exact hb
   ·exact absurd (if_neg hb) z
end L2
namespace L2
open PySem PySem.Spec PyProof.Rows List
theorem zL {l:PySem.W.OpenLaw} {n k:Nat} {q:Program} {loose:List Str} {XP:(Str->Option Value)->Heap->Prop} {YP:World->Heap->Prop} {d:DefRec} {K:Params->PySem.W.Frag} {CX:World->zp} {sp:World->Sp} {x:Str}
  (hn:l.most=some n) (hn2:n<=sizeLine) (hdf:d.params.defaults=[]) (hr:cX k callerA)
  (hY:∀(w:World) (h:Heap),YP w h->(K w.params).In h)
  (F:∀(w:World) (mg:Str->Option Value) (fa:Addr) (h:Heap),(K w.params).In h->h.Ns mainGlobals mg->mg d.name=some (.ref fa)->
   ∃fd:FuncData,(∀(s:Shared) (u:Value),BindsTo s fd ⟨[u],[]⟩ [(x,u)])/\
    ∀base:Heap,(K w.params).In base->base.Ns mainGlobals mg->eN l.prog w (K w.params) mg base (CX w) k fa fd [x] (sp w))
  (tX:∀(w:World) (H:Hp) (a:Addr) (ns:List Int),ns.length<=n->Dm H->fJ (K w.params) H a (ns.map V.int)->sp w [.ref a] H (λ v _=>v=.bl true) λ _ _ _=>False)
  (Kn:∀(w:World) (H:Hp) (s:Shared) (e:Value) (s':Shared),CX w [] H s (λ _ _ _=>False) e s'->False) :
  PySem.W.WalkO q loose XP YP l.row.toRowW d [] (λ f vs=>PySem.call f vs):=by
 refine Att.n5 hn hdf λ w s₀ s₁ mg mb fa o pm cd doc a vs ns G Y ho hd hcd hmg hobj hints hlen hg=>?_;have KX:=hY w _ Y;obtain ⟨fd,hb,hF⟩:=F w mg fa _ KX G.T.g hmg;exact vN KX G.T.g G.T.b G.T.builtins G.T.nolimit hg hobj hints (Nat.le_trans hlen hn2) hr hF hb (λ H hO hS=>tX w H a ns hlen hO hS) λ H e s'=>Kn w H s₁ e s'
end L2
namespace L2
open PySem PySem.Spec PyProof.Rows List
noncomputable def inClass (s:Stmt) (j:Nat):Stmt:=match s with
 | .ClassDef _ _ _ body _ _ _ _ _ _ _=>body.getD j (.Pass ⟨0,0,0,0⟩)
 | _=>.Pass ⟨0,0,0,0⟩
noncomputable def gh (s:Stmt):Arguments:=match s with
 | .FunctionDef _ a _ _ _ _ _ _ _ _=>a
 | _=>{posonlyargs:=[],args:=[],vararg:=none,kwonlyargs:=[],kw_defaults:=[],kwarg:=none,defaults:=[]}
noncomputable def dN (s:Stmt):List Stmt:=match s with
 | .FunctionDef _ _ b _ _ _ _ _ _ _=>b
 | _=>[]
noncomputable def bB (s:Stmt):Scope:=match s with
 | .FunctionDef _ _ _ _ _ _ sc _ _ _=>sc
 | _=>{kind:=.function,names:=[],isGenerator:=false,isCoroutine:=false}
abbrev t7:zp:=λ _ _ _ _ _ _=>False
abbrev E0:XK:=λ _ _ _=>False
theorem n8 {X:Cx}:Passes t7 X E0:=λ _ _ _ _ _ _ _ h=>h.elim
structure Iu (K:PySem.W.Frag) (x qual:Str) (st:Stmt) (f:Addr) (fd:FuncData):Prop where
 ex:∃(oc:Value) (od:Option Addr) (kV doc pm:Value) (an:Option Addr) (cdv ct:Value) (osl:Array (Option Value)),
  fd=PySem.W.fnOf x qual (gh st) (dN st) (bB st) .none kV doc pm an cdv ct/\K.lookup f=some ⟨oc,od,.func fd,osl⟩/\PySem.W.codeIn K cdv qual=true
 kp:PySem.W.keepIn K (.ref f)=true
section
variable {P:Program} {w:World} {K:PySem.W.Frag} {mg:Str->Option Value} {base:Heap}
theorem Iu.ok {x qual:Str} {st:Stmt} {f:Addr} {fd:FuncData} {N ps:List Str} {k:Nat} {sp:Sp} (F:Iu K x qual st f fd) (S:jv N ps (bB st)) (len:∀vs H Q E,sp vs H Q E->vs.length=ps.length)
  (hbody:∀(cdv:Value) (A:Around) (outer:List Env) (s:Shared) (H:Hp) (vs:List V) (Q:VK) (E:XK),cX k (A.deeper (envOfC qual (bB st) s.heap.objs.size f cdv))->sp vs H Q E->
   ∃t,iX (p6 t7 P w K mg base N qual (bB st) f cdv A outer s H E).FO (dN st) t/\t {nx:=λ _ H'=>Q .non H',rt:=Q} (start N vs) H):eN P w K mg base t7 (k+1) f fd ps sp:=by
 obtain ⟨oc,od,kV,doc,pm,an,cdv,ct,osl,rfl,lk,hcd⟩:=F.ex;refine Gi lk hcd S len λ A outer s H vs Q E hr tX=>?_;obtain ⟨t,h,q⟩:=hbody cdv A outer s H vs Q E hr tX;exact ⟨t,h.FO,q⟩
theorem Dn {x qual:Str} {st:Stmt} {f:Addr} {oc:Value} {od an:Option Addr} {osl:Array (Option Value)} {kV doc pm cdv ct:Value} (l:K.lookup f=some ⟨oc,od,.func (PySem.W.fnOf x qual (gh st) (dN st) (bB st) .none kV doc pm an cdv ct),osl⟩)
  (c:PySem.W.codeIn K cdv qual=true) (k:PySem.W.keepIn K (.ref f)=true):Iu K x qual st f (PySem.W.fnOf x qual (gh st) (dN st) (bB st) .none kV doc pm an cdv ct):=⟨⟨oc,od,kV,doc,pm,an,cdv,ct,osl,rfl,l,c⟩,k⟩
end
end L2
end
section
namespace L2
open PySem PySem.Spec PyProof.Rows List
variable {P:Program} {env:Env} {its:Array Value} {n:Nat} {w:World}
noncomputable def bY:List Nat->St->St
 | [],σ=>σ
 | j::r,σ=>bY r (σ.set j none)
theorem rJ:∀(js:List Nat) (σ:St),(bY js σ).length=σ.length
 | [],_=>rfl
 | j::r,σ=>by rw [bY,rJ r,length_set]
theorem n9:∀{js:List Nat} {σ:St} {i:Nat} {v:V},(bY js σ)[i]?=some (some v)->σ[i]?=some (some v)/\i∉js
 | [],_,_,_,h=>⟨h,by simp⟩
 | j::r,σ,i,v,h=>by
  obtain ⟨h1,h2⟩:=n9 (js:=r) h
  by_cases e:j=i
  ·subst e;rw [getElem?_set] at h1;rw [if_pos rfl] at h1;split at h1<;>cases h1
  ·rw [getElem?_set_ne e] at h1;exact ⟨h1,λ hm=>(List.mem_cons.mp hm).elim (λ q=>e q.symm) h2⟩
noncomputable def cY (env:Env):List (Str×NameKind)->List (Str×Addr)->List (Str×Addr)
 | [],acc=>acc
 | (n,k)::r,acc=>cY env r (if k==.free then (match env.cells.lookup n with | some c=>(n,c)::acc | none=>acc) else acc)
theorem gC:∀(names:List (Str×NameKind)) (acc:List (Str×Addr)),(∀y∈names,y.2=.free->∃c,env.cells.lookup y.1=some c)->
  (forIn (m:=Sem) names acc λ x r=>match x with | (name,kind)=>if (kind==NameKind.free)=true then do let a <-cellOf env name; pure (ForInStep.yield ((name,a)::r)) else pure (ForInStep.yield r))=pure (cY env names acc)
 | [],acc,_=>rfl
 | (n,k)::r,acc,h=>by
  rw [forIn_cons];have hr:=λ acc=>gC r acc λ y hy=>h y (mem_cons_of_mem _ hy)
  by_cases hk:k=.free
  ·subst hk;obtain ⟨c,e⟩:=h (n,.free) mem_cons_self rfl;have e:env.cells.lookup n=some c:=e;simp only [beq_self_eq_true,if_true,cellOf,e,pure_bind,cY];exact hr _
  ·have hb:(k==NameKind.free)=false:=by simpa using hk
   simp only [hb,Bool.false_eq_true,if_false,pure_bind,cY];exact hr _
theorem kH {scope:Scope} (h:∀y∈scope.names,y.2=.free->∃c,env.cells.lookup y.1=some c):closureFor scope env=pure (cY env scope.names []):=by
 have q:=gC (env:=env) scope.names [] h;simp only [closureFor]
 first
  | (rw [q]; rfl)
  | (simp only [pure_bind,bind_pure_comp,map_pure] at q ⊢; rw [q]; rfl)
  | exact (congrArg (· >>= pure) q)
  | trace_state
theorem iG {x:Str} {c:Addr}:∀(names:List (Str×NameKind)) (acc:List (Str×Addr)),(∀c,acc.lookup x=some c->env.cells.lookup x=some c)->(cY env names acc).lookup x=some c->env.cells.lookup x=some c
 | [],acc,h,e=>h _ e
 | (n,k)::r,acc,h,e=>by
  refine iG r _ ?_ e;intro c' e';split at e'
  ·split at e'
   ·rename_i c2 e2
    by_cases hx:x=n
    ·subst hx;simp only [lookup_cons,beq_self_eq_true] at e';cases e';exact e2
    ·have hb:(x==n)=false:=by simpa using hx
     simp only [lookup_cons,hb] at e';exact h _ e'
   ·exact h _ e'
  ·exact h _ e'
theorem lD {x:Str}:∀(names:List (Str×NameKind)) (acc:List (Str×Addr)),(∃c,acc.lookup x=some c)->∃c,(cY env names acc).lookup x=some c
 | [],acc,h=>h
 | (n,k)::r,acc,h=>by
  refine lD r _ ?_;split
  ·split
   ·rename_i c2 e2
    by_cases hx:x=n
    ·subst hx;exact ⟨c2,by simp [lookup_cons]⟩
    ·have hb:(x==n)=false:=by simpa using hx
     obtain ⟨c,e⟩:=h;exact ⟨c,by simp only [lookup_cons,hb]; exact e⟩
   ·exact h
  ·exact h
theorem iH {x:Str}:∀(names:List (Str×NameKind)) (acc:List (Str×Addr)),(x,NameKind.free)∈names->(∃c,env.cells.lookup x=some c)->∃c,(cY env names acc).lookup x=some c
 | (n,k)::r,acc,hm,⟨c,e⟩=>by
  rcases List.mem_cons.mp hm with q | q
  ·cases q;refine lD r _ ⟨c,?_⟩;simp only [beq_self_eq_true,if_true,e,lookup_cons]
  ·exact iH r _ q ⟨c,e⟩
structure gI (N:List Str) (js:List Nat) (scope LA:Scope):Prop where
 kind:scope.kind=.function
 cell:∀y∈scope.names,y.2=.cell->scope.names.lookup y.1=some .cell
 loc:∀y∈scope.names,y.2=.local->scope.names.lookup y.1=some .local
 own:∀p∈N.zipIdx,(scope.names.lookup p.1=some .local\/scope.names.lookup p.1=some .cell)->p.2∈js
 free:∀y∈scope.names,y.2=.free->LA.names.lookup y.1=some .cell\/LA.names.lookup y.1=some .free
theorem dP {env:Env}:∀{names:List (Str×NameKind)} {x:Str} {k':NameKind},
  (names.map λ (n,k)=>if (k==NameKind.free&&env.scope.kind==.function&&env.kindOf n==some .cell) then (n,NameKind.cell) else (n,k)).lookup x=some k'->
  ∃k,names.lookup x=some k/\(k'=k\/(k=.free/\k'=.cell))
 | [],_,_,h=>by simp at h
 | (n,k)::r,x,k',h=>by
  have ih:=@dP env r x k';have h:List.lookup x ((if (k==NameKind.free&&env.scope.kind==.function&&env.kindOf n==some .cell)=true then (n,NameKind.cell) else (n,k))::(r.map λ (n,k)=>if (k==NameKind.free&&env.scope.kind==.function&&env.kindOf n==some .cell) then (n,NameKind.cell) else (n,k)))=some k':=h
  by_cases hc:(k==NameKind.free&&env.scope.kind==.function&&env.kindOf n==some .cell)=true
  ·rw [if_pos hc] at h;have hk:k=.free:=by
    simp only [Bool.and_eq_true] at hc;simpa using hc.1.1
   cases hx:x==n with
   | true=>
    simp only [lookup_cons,hx] at h;cases h;exact ⟨k,by simp [lookup_cons,hx],.inr ⟨hk,rfl⟩⟩
   | false=>
    simp only [lookup_cons,hx] at h;obtain ⟨k2,e,r2⟩:=ih h;exact ⟨k2,by simp only [lookup_cons,hx]; exact e,r2⟩
  ·rw [if_neg hc] at h;cases hx:x==n with
   | true=>
    simp only [lookup_cons,hx] at h;cases h;exact ⟨k,by simp [lookup_cons,hx],.inl rfl⟩
   | false=>
    simp only [lookup_cons,hx] at h;obtain ⟨k2,e,r2⟩:=ih h;exact ⟨k2,by simp only [lookup_cons,hx]; exact e,r2⟩
abbrev Cx.comp (X:Cx) (scope:Scope) (cl:List (Str×Addr)) (s₀:Shared) (H₀:Hp) (fp:List Addr) (aa:List (Addr×Obj)):Cx:=
 {X with s₀:=s₀,H₀:=H₀,env:=compEnvC scope cl s₀.heap.objs.size X.env,outer:=X.stack,stack:=X.stack,ex:=fp,fn:=λ x=>scope.names.lookup x==some .cell,pn:=X.pn++aa,xe:=λ _ _=>False}
section
variable {X:Cx} {aa:List (Addr×Obj)} {σ:St} {H:Hp} {s:Shared} {scope:Scope} {js:List Nat} {fp:List Addr}
theorem jM (ok:gI X.N js scope X.env.scope) {x:Str} (hx:(relabel scope X.env).names.lookup x=some .cell\/(relabel scope X.env).names.lookup x=some .free) :
  scope.names.lookup x=some .cell\/(scope.names.lookup x=some .free/\(x,NameKind.free)∈scope.names/\(X.env.kindOf x=some .cell\/X.env.kindOf x=some .free)):=by
 have k:∃k',(relabel scope X.env).names.lookup x=some k'/\(k'=.cell\/k'=.free):=by
  rcases hx with h | h
  ·exact ⟨_,h,.inl rfl⟩
  ·exact ⟨_,h,.inr rfl⟩
 obtain ⟨k',h,hk⟩:=k;obtain ⟨k,e,r⟩:=dP h;have fr:k=.free->scope.names.lookup x=some .cell\/(scope.names.lookup x=some .free/\(x,NameKind.free)∈scope.names/\(X.env.kindOf x=some .cell\/X.env.kindOf x=some .free)):=λ hf=>by
  subst hf;exact .inr ⟨e,PySem.mem_of_lookup e,ok.free _ (PySem.mem_of_lookup e) rfl⟩
 rcases r with r | r
 ·subst r;rcases hk with z | z
  ·subst z; exact .inl e
  ·exact fr z
 ·exact fr r.1
theorem Dp {x:Str}:∀{names:List (Str×NameKind)} {n:Nat} {acc:List (Str×Addr)},(∀y∈names,y.2=.cell->y.1≠x)->(cellsFrom n names acc).lookup x=acc.lookup x:=by
 intro names
 induction names with
 | nil=>intro n acc _; rw [cellsFrom.eq_def]
 | cons y r ih=>
  intro n acc h;rw [cellsFrom.eq_def];obtain ⟨nm,k⟩:=y;have hr:=λ y hy=>h y (mem_cons_of_mem _ hy)
  by_cases hk:k=.cell
  ·have hb:(k==NameKind.cell)=true:=by simpa using hk
   simp only [hb,if_true];rw [ih hr];have:=h (nm,k) mem_cons_self hk;have hx:(x==nm)=false:=by simpa using this.symm
   simp only [lookup_cons,hx]
  ·have hb:(k==NameKind.cell)=false:=by simpa using hk
   simp only [hb,Bool.false_eq_true,if_false];exact ih hr
structure vO (n:Nat) (h:Heap) (cells:List (Str×Addr)):Prop where
 below:∀x c,cells.lookup x=some c->c < n
 inj:∀x y c,cells.lookup x=some c->cells.lookup y=some c->x=y
 cell:∀x c,cells.lookup x=some c->∃v,h.IsCell c v
theorem Gr {lo:Nat} {base:List (Str×Addr)}:∀{names:List (Str×NameKind)} {h:Heap} {acc:List (Str×Addr)},vO h.objs.size h acc->lo<=h.objs.size->(∀x c,acc.lookup x=some c->base.lookup x=some c\/lo<=c)->
  vO (pushCells h names).objs.size (pushCells h names) (cellsFrom h.objs.size names acc)/\∀x c,(cellsFrom h.objs.size names acc).lookup x=some c->base.lookup x=some c\/lo<=c:=by
 intro names
 induction names with
 | nil=>intro h acc F _ hb; rw [cellsFrom.eq_def,pushCells.eq_def]; exact ⟨F,hb⟩
 | cons y r ih=>
  intro h acc F hlo hb;rw [cellsFrom.eq_def,pushCells.eq_def];obtain ⟨nm,k⟩:=y
  by_cases hk:k=.cell
  ·have Kp:(k==NameKind.cell)=true:=by simpa using hk
   simp only [Kp,if_true];have hsz:(h.push {cls:=.type "cell",data:=.cell none}).objs.size=h.objs.size+1:=Heap.size_push ..;rw [<-hsz];refine ih ⟨λ x c e=>?_,λ x y c e1 e2=>?_,λ x c e=>?_⟩ (by rw [hsz]; omega) λ x c e=>?_
   ·rw [hsz]
    by_cases hx:x=nm
    ·subst hx; simp only [lookup_cons,beq_self_eq_true] at e; cases e; exact Nat.lt_succ_self _
    ·have hx:(x==nm)=false:=by simpa using hx
     simp only [lookup_cons,hx] at e;exact Nat.lt_succ_of_lt (F.below x c e)
   ·by_cases hx:x=nm
    ·by_cases hy:y=nm
     ·exact hx.trans hy.symm
     ·subst hx;have hy:(y==x)=false:=by simpa using hy
      simp only [lookup_cons,beq_self_eq_true] at e1;simp only [lookup_cons,hy] at e2;cases e1;exact absurd (F.below y _ e2) (Nat.lt_irrefl _)
    ·have hx':(x==nm)=false:=by simpa using hx
     simp only [lookup_cons,hx'] at e1
     by_cases hy:y=nm
     ·subst hy;simp only [lookup_cons,beq_self_eq_true] at e2;cases e2;exact absurd (F.below x _ e1) (Nat.lt_irrefl _)
     ·have hy:(y==nm)=false:=by simpa using hy
      simp only [lookup_cons,hy] at e2;exact F.inj x y c e1 e2
   ·by_cases hx:x=nm
    ·subst hx; simp only [lookup_cons,beq_self_eq_true] at e; cases e;exact ⟨none,_,Heap.get?_push_size _ rfl,rfl⟩
    ·have hx:(x==nm)=false:=by simpa using hx
     simp only [lookup_cons,hx] at e;obtain ⟨v,o,ho,hd⟩:=F.cell x c e;exact ⟨v,o,Heap.get?_push_of_some _ ho,hd⟩
   ·by_cases hx:x=nm
    ·subst hx; simp only [lookup_cons,beq_self_eq_true] at e; cases e; exact .inr hlo
    ·have hx:(x==nm)=false:=by simpa using hx
     simp only [lookup_cons,hx] at e;exact hb x c e
  ·have Kp:(k==NameKind.cell)=false:=by simpa using hk
   simp only [Kp,Bool.false_eq_true,if_false];exact ih F hlo hb
theorem Dq {x:Str} {lo:Nat}:∀{names:List (Str×NameKind)} {n:Nat} {acc:List (Str×Addr)} {c:Addr},lo<=n->((x,NameKind.cell)∈names\/∀c,acc.lookup x=some c->lo<=c)->(cellsFrom n names acc).lookup x=some c->lo<=c:=by
 intro names
 induction names with
 | nil=>intro n acc c _ h e; rw [cellsFrom.eq_def] at e; exact (h.resolve_left (by simp)) c e
 | cons y r ih=>
  intro n acc c hn h e;rw [cellsFrom.eq_def] at e;obtain ⟨nm,k⟩:=y
  by_cases hk:k=.cell
  ·have hb:(k==NameKind.cell)=true:=by simpa using hk
   simp only [hb,if_true] at e;refine ih (Nat.le_succ_of_le hn) ?_ e
   by_cases hx:x=nm
   ·subst hx;refine .inr λ c e=>?_;simp only [lookup_cons,beq_self_eq_true] at e;cases e; exact hn
   ·rcases h with h | h
    ·rcases List.mem_cons.mp h with q | q
     ·cases q; exact absurd rfl hx
     ·exact .inl q
    ·refine .inr λ c e=>h c ?_;have hx:(x==nm)=false:=by simpa using hx
     simpa only [lookup_cons,hx] using e
  ·have hb:(k==NameKind.cell)=false:=by simpa using hk
   simp only [hb,Bool.false_eq_true,if_false] at e;refine ih hn ?_ e;rcases h with h | h
   ·rcases List.mem_cons.mp h with q | q
    ·cases q; exact absurd rfl hk
    ·exact .inl q
   ·exact .inr h
structure CF (X:Cx) (scope:Scope) (n:Nat) (h:Heap) (cells:List (Str×Addr)):Prop where
 inj:∀x y c,cells.lookup x=some c->cells.lookup y=some c->x=y
 cell:∀x c,cells.lookup x=some c->∃v,h.IsCell c v
 old:∀x c,cells.lookup x=some c->X.env.cells.lookup x=some c\/n < c
 has:∀x,scope.names.lookup x=some .cell->∃c,cells.lookup x=some c
 out:∀x,scope.names.lookup x=some .free->cells.lookup x=(cY X.env scope.names []).lookup x
 own:∀x c,scope.names.lookup x=some .cell->cells.lookup x=some c->n<=c
theorem Inv.comp (I:Inv X aa σ H s) (ok:gI X.N js scope X.env.scope) (hf:∀b∈fp,gv X aa H b) {h₁:Heap} {m₁:Str->Option Value} {tk:Nat} {cells:List (Str×Addr)}
  (hfs:∀b∈fp,b < s.heap.objs.size) (hn:h₁.Ns s.heap.objs.size m₁) (hk:∀b o,s.heap.get? b=some o->h₁.get? b=some o) (hm:∀x,m₁ x=none) (F:CF X scope s.heap.objs.size h₁ cells) :
  Inv (X.comp scope cells s H fp aa) [] (bY js σ) H {s with heap:=h₁,toks:=tk}:=by
 have has:∀x,(x,NameKind.free)∈scope.names->∃c,X.env.cells.lookup x=some c:=λ x hx=>I.ok.has x (ok.free _ hx rfl);have sub:∀x c,(cY X.env scope.names []).lookup x=some c->X.env.cells.lookup x=some c:=λ x c e=>iG _ _ (by simp) e;have stk:=I.lV;have hlt:=I.lt;refine ⟨⟨I.mod,ok.kind,I.ok.glob,I.ok.blt,Nat.le_refl _,F.inj,λ x hx=>?_,λ x c z e=>F.own x c (by simpa using z) e,I.ok.hd,I.ok.frames,.inl rfl,λ b hb=>⟨Nat.ne_of_lt (hfs b hb),λ x c e=>?_⟩,
  λ b o e=>I.bs b o e,Nat.le_trans I.ok.bsz I.sz,λ b o e hb=>?_,λ b hb z=>?_,I.stack,λ b hb=>I.rz b hb⟩,rfl,I.bare,Un.kept hk,⟨m₁,hn,λ i x v e1 e2 e3=>?_⟩,λ x c e=>F.cell x c e,I.hok.fresh (Nat.le_refl _),λ x c e=>?_,λ p hp=>?_,I.hok.kept hk,?_⟩
 ·rcases jM ok hx with h1 | ⟨h1,h2,h3⟩
  ·exact F.has x h1
  ·show ∃c,cells.lookup x=some c;rw [F.out x h1];exact iH _ _ h2 (has x h2)
 ·rcases F.old x c e with e | e
  ·exact (hf b hb).2.2.2.2.1 x c e
  ·exact Nat.ne_of_gt (Nat.lt_trans (hfs b hb) e)
 ·have q:=(hf b hb).2.2.2.1;rcases q with q | q
  ·exact I.ok.noex b o e q
  ·exact absurd (Heap.lt_size e) (Nat.not_lt.mpr (Nat.le_trans I.ok.bsz q))
 ·rcases List.mem_cons.mp (stk b z) with q | q
  ·exact (hf b hb).2.1 q
  ·exact (hf b hb).2.2.1 q
 ·obtain ⟨c1,c2⟩:=n9 e2;have e3:(relabel scope X.env).names.lookup x=some .local\/(relabel scope X.env).names.lookup x=some .cell\/(relabel scope X.env).names.lookup x=some .free:=e3;have Bu:∀{P:Prop},(scope.names.lookup x=some .local\/scope.names.lookup x=some .cell)->P:=λ ek=>absurd (ok.own (x,i) (by rw [mem_zipIdx_iff_getElem?]; exact e1) ek) c2;rcases e3 with e3 | e3
  ·obtain ⟨k,ek,r⟩:=dP e3;have:k=.local:=by
    rcases r with r | ⟨_,r⟩
    ·exact r.symm
    ·cases r
   subst this;exact Bu (.inl ek)
  ·rcases jM ok e3 with h1 | ⟨h1,h2,h3⟩
   ·exact Bu (.inr h1)
   obtain ⟨m,hm0,hl⟩:=I.loc;obtain ⟨u,ru,lu⟩:=hl i x v e1 c1 (.inr h3);refine ⟨u,ru,.inr ⟨e3,?_⟩⟩;rcases lu with ⟨q,_⟩ | ⟨_,c,q1,q2⟩
   ·rcases h3 with z | z<;>(rw [z] at q; cases q)
   ·obtain ⟨c',ec⟩:=iH _ [] h2 (has x h2);have:=sub _ _ ec;rw [q1] at this;cases this;exact ⟨c,(F.out x h1).trans ec,q2.keeps hk⟩
 ·rcases F.old x c e with e | e
  ·exact I.freeC x c e
  ·exact I.hok.fresh (Nat.le_of_lt e)
 ·rw [append_nil] at hp;obtain ⟨h1,h2,h3,h4,h5⟩:=I.pin p hp;refine ⟨hk _ _ h1,h2,Nat.ne_of_lt (Heap.lt_size h1),λ z=>?_,h5⟩;rcases List.mem_cons.mp (stk _ z) with q | q
  ·exact h3 q
  ·exact h4 q
 ·rw [rJ]; exact I.len
theorem Inv.enter (I:Inv X aa σ H s) (ok:gI X.N js scope X.env.scope) (hf:∀b∈fp,gv X aa H b) (hfs:∀b∈fp,b < s.heap.objs.size) {Q:Env->Shared->Prop} {E:Value->Shared->Prop}
  (h:∀(cells:List (Str×Addr)) (h₁:Heap),(∀b o,s.heap.get? b=some o->h₁.get? b=some o)->CF X scope s.heap.objs.size h₁ cells->Inv (X.comp scope cells s H fp aa) [] (bY js σ) H {s with heap:=h₁}->
   Q {scope:=scope,locals:=s.heap.objs.size,globals:=X.env.globals,cells:=cells,qual:=X.env.qual,func:=none,code:=X.env.code,frame:=X.env.frame,builtins:=X.env.builtins} {s with heap:=h₁}) :
  wpAny (model X.prog X.w) X.A (newFunctionEnv scope X.env.globals (cY X.env scope.names []) [] X.env.qual none .none (some X.env)) Q E s:=by
 unfold newFunctionEnv;refine wpAny_bind (wpAny_alloc ?_);refine wpAny_bind (wpAny_layCells _ (λ _ _ _=>rfl) _ _ _ _ ?_);refine wpAny_bind (wpAny_pure (wpAny_pure ?_));have hsz:(s.heap.push {cls:=.type (if (some X.env).isSome=true then "dict" else "frame"),data:=.dict #[]}).objs.size=s.heap.objs.size+1:=Heap.size_push ..;have sub:∀x c,(cY X.env scope.names []).lookup x=some c->X.env.cells.lookup x=some c:=λ x c e=>iG _ _ (by simp) e;have cl:∀x c,(cY X.env scope.names []).lookup x=some c->∃v,s.heap.IsCell c v:=λ x c e=>I.cell x c (sub x c e);have F0:vO (s.heap.push {cls:=.type (if (some X.env).isSome=true then "dict" else "frame"),data:=.dict #[]}).objs.size (s.heap.push {cls:=.type (if (some X.env).isSome=true then "dict" else "frame"),data:=.dict #[]}) (cY X.env scope.names []):=by
  refine ⟨λ x c e=>?_,λ x y c e1 e2=>I.ok.inj x y c (sub _ _ e1) (sub _ _ e2),λ x c e=>?_⟩
  ·obtain ⟨v,o,ho,_⟩:=cl x c e;rw [hsz]; exact Nat.lt_succ_of_lt (Heap.lt_size ho)
  ·obtain ⟨v,o,ho,hd⟩:=cl x c e;exact ⟨v,o,Heap.get?_push_of_some _ ho,hd⟩
 obtain ⟨F1,F2⟩:=Gr (lo:=s.heap.objs.size+1) (base:=X.env.cells) (names:=scope.names) F0 (by rw [hsz]; exact Nat.le_refl _) (λ x c e=>.inl (sub x c e));have old:∀b o,s.heap.get? b=some o->(pushCells (s.heap.push {cls:=.type (if (some X.env).isSome=true then "dict" else "frame"),data:=.dict #[]}) scope.names).get? b=some o:=λ b o e=>pushCells_keeps _ _ _ _ (Heap.get?_push_of_some _ e);have own:∀x,scope.names.lookup x=some .cell->∀c,(cellsFrom (s.heap.push {cls:=.type (if (some X.env).isSome=true then "dict" else "frame"),data:=.dict #[]}).objs.size scope.names (cY X.env scope.names [])).lookup x=some c->s.heap.objs.size<=c:=λ x hx c e=>Dq (by rw [hsz]; exact Nat.le_succ _) (.inl (PySem.mem_of_lookup hx)) e;have F:CF X scope s.heap.objs.size (pushCells (s.heap.push {cls:=.type (if (some X.env).isSome=true then "dict" else "frame"),data:=.dict #[]}) scope.names) (cellsFrom (s.heap.push {cls:=.type (if (some X.env).isSome=true then "dict" else "frame"),data:=.dict #[]}).objs.size scope.names (cY X.env scope.names [])):=by
  refine ⟨F1.inj,F1.cell,λ x c e=>?_,λ x hx=>?_,λ x hx=>?_,λ x c hx e=>own x hx c e⟩
  ·rcases F2 x c e with q | q
   ·exact .inl q
   ·exact .inr q
  ·have:=PySem.W.cellsFrom_some scope.names (s.heap.push {cls:=.type (if (some X.env).isSome=true then "dict" else "frame"),data:=.dict #[]}).objs.size (cY X.env scope.names []) (.inl hx);exact Option.isSome_iff_exists.mp this
  ·refine Dp λ y hy hk e=>?_;have:=ok.cell y hy hk;rw [e,hx] at this;cases this
 have hns:(pushCells (s.heap.push {cls:=.type (if (some X.env).isSome=true then "dict" else "frame"),data:=.dict #[]}) scope.names).Ns s.heap.objs.size λ _=>none:=by
  have g:(s.heap.push {cls:=.type (if (some X.env).isSome=true then "dict" else "frame"),data:=.dict #[]}).get? s.heap.objs.size=some {cls:=.type (if (some X.env).isSome=true then "dict" else "frame"),data:=.dict #[]}:=Heap.get?_push_size _ rfl;refine ⟨_,_,_,pushCells_keeps _ _ _ _ g,rfl,?_,?_⟩
  ·intro e he; simp at he
  ·intro nm; rfl
 exact h _ _ old F (I.comp (tk:=s.toks) ok hf hfs hns old (λ _=>rfl) F)
theorem fG.off {h h':Heap} {C:Addr} (x:fG P w H h) (hn:H C=none) (k:∀b o,b≠C->h.get? b=some o->h'.get? b=some o):fG P w H h':=λ a o e=>
 (x a o e).stay (λ b u hb q=>k b u (by
  rintro rfl;rcases hb with z | z
  ·rw [z,e] at hn; cases hn
  ·rw [z] at hn; cases hn) q) (λ _ q=>q) λ _ _ q=>q
theorem Inv.Dr (I:Inv X aa σ H s) {σ':St} {H':Hp} {s':Shared} {cl:List (Str×Addr)} (hf:∀b∈fp,gv X aa H b) (J:Inv (X.comp scope cl s H fp aa) [] σ' H' s') {h':Heap}
  (hk:∀b o,b≠s.heap.objs.size->s'.heap.get? b=some o->h'.get? b=some o):Inv X aa σ H' {s' with heap:=h'}:=by
 have nC:H' s.heap.objs.size=none:=J.free;have nb:∀b o,s.heap.get? b=some o->b≠s.heap.objs.size:=λ b o e=>Nat.ne_of_lt (Heap.lt_size e);have u:=J.base;refine I.FG (ch:=fp) J.os ⟨λ b o e n h1 h2=>hk b o (nb b o e) (u.keep b o e n h1 h2),λ b o e n h1 h2=>?_,u.free,λ b o e h2=>?_,u.tups,u.jh,u.jE⟩ (J.hok.off nC hk) J.bare λ b hb=>⟨(hf b hb).2.2.2.1,(hf b hb).2.1,(hf b hb).2.2.2.2.1,(hf b hb).2.2.2.2.2⟩
 ·obtain ⟨sl,q⟩:=u.slot b o e n h1 h2;exact ⟨sl,hk _ _ (nb b o e) q⟩
 ·obtain ⟨o',q⟩:=u.there b o e h2;exact ⟨o',hk _ _ (nb b o e) q⟩
end
def kI (X:Cx) (ifs:List Expr) (t:TT):Prop:=
 ∀(aa:List (Addr×Obj)) (s:Shared) (σ:St) (H:Hp) (Q:Bool->Hp->Prop),Inv X aa σ H s->t σ H Q->
  wpAny (model X.prog X.w) X.A (forIn ifs true λ c r=>if r=true then do let ok <-isTrue c X.env (eval c X.env); pure (ForInStep.yield ok) else pure (ForInStep.yield r)) (TP X aa σ Q) X.xe s
noncomputable def Kq:TT:=λ _ H Q=>Q true H
theorem vP {X:Cx}:kI X [] Kq:=λ aa s σ H Q I h=>wpAny_tests_nil ⟨H,I,h⟩
theorem vQ {X:Cx} {c:Expr} {t:TT} (h:PT X c t):kI X [c] t:=λ aa s σ H Q I q=>wpAny_tests_one (h aa s σ H Q I q)
mutual
inductive Dt (K:PySem.W.Frag) (H:Hp):V->PyData->Prop
 | non:Dt K H .non .none
 | bl (b):Dt K H (.bl b) (.bool b)
 | int (i):Dt K H (.int i) (.int i)
 | str (x):Dt K H (.str x) (.str x)
 | lst {a xs ds}:fJ K H a xs->Bv K H xs ds->Dt K H (.ref a) (.list ds)
 | tup {a xs ds}:cL K H a xs->Bv K H xs ds->Dt K H (.ref a) (.tuple ds)
inductive Bv (K:PySem.W.Frag) (H:Hp):List V->List PyData->Prop
 | nil:Bv K H [] []
 | cons {x xs d ds}:Dt K H x d->Bv K H xs ds->Bv K H (x::xs) (d::ds)
end
section
variable {X:Cx} {aa:List (Addr×Obj)} {σ:St} {H:Hp} {s:Shared}
mutual
theorem Inv.reads (I:Inv X aa σ H s):∀{v:V} {d:PyData} {u:Value},Dt X.K H v d->RelV v u->∃as,Reads s.heap u d as
 | _,_,_,.non,r=>by cases r; exact ⟨_,.none⟩
 | _,_,_,.bl b,r=>by cases r; exact ⟨_,.bool b⟩
 | _,_,_,.int i,r=>by obtain ⟨t,rfl⟩:=r; exact ⟨_,.int i t⟩
 | _,_,_,.str x,r=>by obtain ⟨t,rfl⟩:=r; exact ⟨_,.str x t⟩
 | _,_,_,.lst h t,r=>by
  cases r;obtain ⟨its,rv,p,hz⟩:=I.list h;obtain ⟨o,ho,hc,n,hd⟩:=p.isList;obtain ⟨as,ra⟩:=I.readsAll t rv;exact ⟨_,.list ho hc hd (by simpa using ra)⟩
 | _,_,_,.tup h t,r=>by
  cases r;obtain ⟨its,rv,p,hz⟩:=I.tuple h;obtain ⟨o,ho,hc,n,hd⟩:=p;obtain ⟨as,ra⟩:=I.readsAll t rv;exact ⟨_,.tuple ho hc hd (by simpa using ra)⟩
theorem Inv.readsAll (I:Inv X aa σ H s):∀{v:List V} {d:List PyData} {u:List Value},Bv X.K H v d->Vals v u->∃as,ReadsAll s.heap u d as
 | _,_,_,.nil,.nil=>⟨_,.nil⟩
 | _,_,_,.cons h t,.cons r rs=>by
  obtain ⟨as,a⟩:=I.reads h r;obtain ⟨bs,b⟩:=I.readsAll t rs;exact ⟨_,.cons a b⟩
end
theorem t8 (hg:X.A.guards=some []) (hu:X.A.units+64 < cLine):bU X (.builtin "repr") (λ xs H Q=>∃a d,xs=[.ref a]/\Dt X.K H (.ref a) d/\d.layable0=true/\d.intsShort 13=true/\d.showable=true/\d.hasDict=false/\d.depth<=60/\Q (.str d.shown) H):=by
 intro aa s σ H xs us Q I r h;obtain ⟨a,d,rfl,hd,h1,h2,h3,h4,h5,q⟩:=h;obtain ⟨u,rfl,rx⟩:=vals1 r;obtain ⟨as,ra⟩:=I.reads hd rx;cases rx;refine repr_of_reads' ra h3 (by rw [h4]; simp) hg (by omega) (λ _ _ e=>e) (λ h' u tk hk=>⟨.str d.shown,H,I.kept hk,⟨_,rfl⟩,q⟩) ?_;have:=shown_le13 h1 h2;exact Nat.le_trans this (by decide)
noncomputable def Kr (K:PySem.W.Frag):R2:=λ x y H Q=>∃d e,Dt K H x d/\Dt K H y e/\d.canLay0=true/\e.canLay0=true/\d.depth<=60/\Q (.bl (PyData.eqv d e)) H
noncomputable def Ks (K:PySem.W.Frag):R2:=λ x y H Q=>∃d e,Dt K H x d/\Dt K H y e/\d.canLay0=true/\e.canLay0=true/\d.depth<=60/\Q (.bl (!PyData.eqv d e)) H
theorem Ds (hu:X.A.units+64 < cLine):fj X (compareOp .Eq) (Kr X.K):=by
 intro aa s σ H x y v u Q I rx ry h;obtain ⟨d,e,h1,h2,h3,h4,h5,q⟩:=h;obtain ⟨as,ra⟩:=I.reads h1 rx;obtain ⟨bs,rb⟩:=I.reads h2 ry;exact PySem.SeqAt.compareEq_reads ra rb h3 h4 (by have:min d.depth e.depth<=d.depth:=Nat.min_le_left _ _; omega) ⟨.bl _,H,I,rfl,q⟩
theorem Du (hu:X.A.units+64 < cLine):fj X (compareOp .NotEq) (Ks X.K):=by
 intro aa s σ H x y v u Q I rx ry h;obtain ⟨d,e,h1,h2,h3,h4,h5,q⟩:=h;obtain ⟨as,ra⟩:=I.reads h1 rx;obtain ⟨bs,rb⟩:=I.reads h2 ry;exact PySem.SeqAt.compareNe_reads ra rb h3 h4 (by have:min d.depth e.depth<=d.depth:=Nat.min_le_left _ _; omega) ⟨.bl _,H,I,rfl,q⟩
end
section
variable {X:Cx}
theorem vR (bs:List Bool):((List.range bs.length).all λ i=>bs.getD i true)=bs.all id:=by
 induction bs with
 | nil=>rfl
 | cons b r ih=>
  rw [length_cons,range_succ_eq_map,all_cons,all_map,all_cons];show (b&&_)=(b&&_);rw [<-ih];rfl
theorem vS (hh:X.A.handled=none):bU X (.builtin "all") (λ xs H Q=>∃(p:Addr) (bs:List Bool),xs=[.ref p]/\fJ X.K H p (bs.map V.bl)/\Q (.bl (bs.all id)) H):=by
 intro aa s σ H xs us Q I r h;obtain ⟨p,bs,rfl,hq,q⟩:=h;obtain ⟨u,rfl,rx⟩:=vals1 r;cases rx;obtain ⟨its,rv,pl,hz⟩:=I.list hq;have hl:=pl.isList;have hlt:p < s.heap.objs.size:=by obtain ⟨_,e,_⟩:=hl; exact Heap.lt_size e
 have len:=rv.length;rw [length_map] at len;refine call_all_walk (wpAny_pyIter_list hl ?_);refine ⟨_,_,_,_,_,_,(λ i=>bs.getD i true),rfl,Walks.list (A:=X.A.in1) hh s.heap.objs.size p (Nat.ne_of_lt hlt) its.toArray,⟨⟨_,Heap.get?_push_size _ rfl,rfl,rfl⟩,hl.push _⟩,?_,?_⟩
 ·intro i v s' Q' E' hv hq';have hv:its[i]?=some v:=by simpa using hv
  have hi:i < its.length:=(List.getElem?_eq_some_iff.mp hv).1;have hb:i < bs.length:=by omega
  have e:(bs.map V.bl)[i]?=some (V.bl (bs[i])):=by simp [hb]
  obtain ⟨u,hu,ru⟩:=rv.get e;rw [hv] at hu;cases hu;cases ru;have:bs.getD i true=bs[i]:=by simp [List.getD,hb]
  dsimp only at hq';rw [this] at hq';exact wpAny_truthy_bool hq'
 ·intro h' tk hk;have e:((List.range its.toArray.size).all λ i=>bs.getD i true)=bs.all id:=by
   rw [List.size_toArray,<-len];exact vR bs
  rw [e];refine ⟨.bl _,H,I.kept (t':=tk) λ b o eb=>hk b o (λ z=>?_) (Heap.get?_push_of_some _ eb),rfl,q⟩;rw [mem_singleton] at z;exact Nat.ne_of_lt (Heap.lt_size eb) z
noncomputable def Dv:V->List V->Hp->VK->Prop:=λ x vs H Q=>∃l xs y,x=.ref l/\vs=[y]/\H l=some (.lst xs)/\i7 y=true/\xs.all i7=true/\Q (.int (xs.countP λ z=>zD z y)) H
theorem lE {x:V}:∀{xs:List V} {us:List Value},Vals xs us->xs.all i7=true->us.countP (Iq x)=xs.countP λ y=>zD y x
 | _,_,.nil,_=>rfl
 | _,_,.cons r t,h=>by
  simp only [all_cons,Bool.and_eq_true] at h;rw [countP_cons,countP_cons,lE t h.2,vH r h.1]
theorem vU:yV X "list.count" Dv:=by
 intro aa s σ H x vs v us Q I rx rv h;obtain ⟨l,xs,y,rfl,rfl,hH,fy,fx,q⟩:=h;cases rx;obtain ⟨u,rfl,ru⟩:=rv.one;obtain ⟨z,its,n,r,hl,e⟩:=I.tY hH;refine call_meets F.slot_list_count ⟨_,e,rfl⟩ F.entry_list_count (F.args_list_count_2 _ _) (SeqAt.list_countAt l its.toArray n none #[] u (Iq y)) ⟨e,λ w hw=>nV ru fy r fx w (by simpa using hw),?_⟩;refine ⟨.int _,H,I.tok _,⟨_,rfl⟩,?_⟩;rw [show its.toArray.toList=its by simp,lE r fx];exact q
noncomputable def zM:V->List V->Hp->VK->Prop:=λ x vs H Q=>∃l xs i y,x=.ref l/\vs=[.int i,y]/\H l=some (.lst xs)/\0<=i/\i<=xs.length/\xs.length < sizeLine/\Q .non (upd H l (.lst (xs.take i.toNat++[y]++xs.drop i.toNat)))
theorem t9:yV X "list.insert" zM:=by
 intro aa s σ H x vs v us Q I rx rv h;obtain ⟨l,xs,i,y,rfl,rfl,hH,h0,h1,hz,q⟩:=h;cases rx;obtain ⟨u,v,rfl,ru,rw'⟩:=rv.two;obtain ⟨t,rfl⟩:=ru;obtain ⟨z,its,n,r,hl,e⟩:=I.tY hH;have sl:(sizeLine:Nat) < 2^63:=fO;refine call_meets F.slot_list_insert ⟨_,e,rfl⟩ F.entry_list_insert (F.args_list_insert_3 _ _ _) (PySem.AutoListH.list_insert_list_int_val_1 l its.toArray n i t v ?_ (by rw [List.size_toArray]; omega)) ⟨e,?_⟩
 ·simp [Builtin.List.listFitsIndex];omega
 ·refine ⟨.non,_,I.jK (its':=its.take i.toNat++[v]++its.drop i.toNat) hH e ?_ (((r.take _).append (.cons rw' .nil)).append (r.drop _)) ?_,rfl,q⟩
  ·have hi:¬i < 0:=by omega
   simp only [hi,if_false,List.size_toArray];have:min i.toNat its.length=i.toNat:=by omega
   rw [this];apply Array.ext';simp [take_of_length_le]
  ·simp only [length_append,length_take,length_drop,length_singleton];omega
theorem qf {ns:List Str}:∀{us:List Value},Vals (ns.map V.str) us->StrsAre us ns:=by
 induction ns with
 | nil=>intro us r; cases r; exact .nil
 | cons n r ih=>intro us rv; cases rv with | cons q t=>obtain ⟨k,rfl⟩:=q; exact .cons _ _ (ih t)
noncomputable def rJoin (K:PySem.W.Frag):V->List V->Hp->VK->Prop:=λ x vs H Q=>∃z l ys,x=.str z/\vs=[.ref l]/\fJ K H l (ys.map V.str)/\(ys.map (·.length)).sum+ys.length*z.length<=16777216/\Q (.str (Txt.join z ys)) H
theorem zN:yV X "str.join" (rJoin X.K):=by
 intro aa s σ H x vs v us Q I rx rv h;obtain ⟨z,l,ys,rfl,rfl,hq,hz,q⟩:=h;obtain ⟨t,rfl⟩:=rx;obtain ⟨u,rfl,ru⟩:=rv.one;cases ru;obtain ⟨its,r,pl,hl⟩:=I.list hq;exact join_list pl.isList (by simpa using qf r) hz λ t' k=>⟨.str _,H,I.tok _,⟨_,rfl⟩,q⟩
end
noncomputable def asc (z:Str):Bool:=z.cps.all (· < 128)
noncomputable def Ku (z:Str):It:=⟨λ i _=>i < z.cps.size,λ i H x H'=>H'=H/\∃c,z.cps[i]?=some c/\x=.str ⟨#[c]⟩,λ i _=>z.cps.size<=i⟩
theorem vW {K:PySem.W.Frag} {tg:Expr} (z:Str) (t:Tok) (it:Addr):Turn P w K tg (Ku z) [it] it (λ i h=>h.IsStrIter it "str_ascii_iterator" z t i) where
 mem:=by simp
 obj:=λ i h st b hb=>by
  obtain rfl:b=it:=by simpa using hb
  obtain ⟨o,e,c,d⟩:=st;exact ⟨o,e,λ v q=>by rw [d] at q; cases q⟩
 keep:=λ i h h' st k=>let ⟨o,e,r⟩:=st; ⟨o,k it (by simp) o e,r⟩
 item:=by
  intro X hP hw hK hc i aa s σ H E I hf st hg;subst hP hw hK;have hg:i < z.cps.size:=hg;obtain ⟨f0,f1,f2,f3,f4,f5⟩:=hf it (by simp);refine wpAny_pyNext_ascii_item st (c:=z.cps[i]) (by simp [hg]) λ h' st' sb=>?_;have I1:Inv X aa σ H {s with heap:=h',toks:=s.toks+1}:=I.turned (λ b o hb e=>(sb.2 b hb).trans e) f0 f1 f3 f4 f5;obtain ⟨o,e,c,d⟩:=id st';exact ⟨_,rfl,rB (s:={s with heap:=h',toks:=s.toks+1}) e c d (by decide) ⟨.str ⟨#[z.cps[i]]⟩,H,I1,⟨_,rfl⟩,⟨rfl,_,by simp [hg],rfl⟩,st',λ b hb=>(hf b hb).1⟩⟩
 done:=by
  intro X hP hw hK hc i aa s σ H E I hf st hg;subst hP hw hK;have hg:z.cps.size<=i:=hg;obtain ⟨f0,f1,f2,f3,f4,f5⟩:=hf it (by simp);exact wpAny_pyNext_ascii_end (I.ok.hd hc) st (by simp [hg]) λ h' eb=>⟨rfl,I.turned (t':=s.toks) (λ b o hb e=>eb b o hb e) f0 f1 f3 f4 f5⟩
 self:=λ _ _ _ _ _ st h=>wpAny_pyIter_striter_ascii st h
section
variable {X:Cx} {tg:Expr}
noncomputable def Kv (tl:TE):TI:=fun σ H R=>tl σ H λ x H1=>∃z,x=.str z/\asc z=true/\R (Ku z) H1
theorem Dw {l:Expr} {tl:TE} (hl:PE X l tl):PI X tg l (Kv tl):=by
 intro aa s σ H R I h;refine bQ (hl aa s σ H _ I h) λ v s1 ⟨x,H1,I1,r1,q1⟩=>?_;obtain ⟨z,rfl,ha,q⟩:=q1;obtain ⟨t,rfl⟩:=r1;refine wpAny_pyIter_ascii ha ?_;refine ⟨s1.heap.objs.size,[s1.heap.objs.size],_,_,H1,rfl,I1.kept (t':=s1.toks) λ b o e=>Heap.get?_push_of_some _ e,vW z t _,⟨_,Heap.get?_push_size _ rfl,rfl,rfl⟩,λ b hb=>?_,q⟩;obtain rfl:b=s1.heap.objs.size:=by simpa using hb
 exact I1.lW (Nat.le_refl _) (I1.hok.fresh (Nat.le_refl _))
end
noncomputable def Iv (K:PySem.W.Frag) (a:Addr):It:=
 ⟨λ i H=>∃xs x,fJ K H a xs/\xs[i]?=some x,λ i H x H'=>∃p v,H p=none/\x=.ref p/\H'=upd H p (.tup [.int i,v])/\∀xs,fJ K H a xs->xs[i]?=some v,λ i H=>∃xs,fJ K H a xs/\xs.length<=i⟩
theorem ua {K:PySem.W.Frag} {elts:List Expr} {x1} {pos:Pos} (a e it:Addr) (hne:e≠it) :
  Turn P w K (.Tuple elts x1 pos) (Iv K a) [e,it] e (λ i h=>(∃old,IsEnum h e it (i:Int) old)/\h.IsListIter it a i) where
 mem:=by simp
 obj:=λ i h st b hb=>by
  obtain ⟨⟨old,he⟩,o,ho,hc,hd⟩:=st;rcases List.mem_cons.mp hb with rfl | hb
  ·refine ⟨_,he,λ v q=>?_⟩;have q':Data.fields _=Data.cell v:=q;cases q'
  ·obtain rfl:b=it:=by simpa using hb
   exact ⟨o,ho,λ v q=>by rw [hd] at q; cases q⟩
 keep:=λ i h h' st k=>by
  obtain ⟨⟨old,he⟩,o,ho,r⟩:=st;exact ⟨⟨old,k e (by simp) _ he⟩,o,k it (by simp) o ho,r⟩
 item:=by
  intro X hP hw hK hc i aa s σ H E I hf st hg;subst hP hw hK;obtain ⟨xs,x,hq,hx⟩:=hg;obtain ⟨⟨old,he⟩,hit⟩:=st;obtain ⟨its,rv,p,hz⟩:=I.list hq;obtain ⟨u,hu,ru⟩:=rv.get hx;obtain ⟨f0,f1,f2,f3,f4,f5⟩:=hf e (by simp);obtain ⟨g0,g1,g2,g3,g4,g5⟩:=hf it (by simp);refine wpAny_pyNext_enum_item he hit p.isList (x:=u) (by simpa using hu) hne λ h1 ho hi ht hs k1=>⟨_,rfl,?_⟩;have he':e < s.heap.objs.size:=Heap.lt_size he;have hi':it < s.heap.objs.size:=by obtain ⟨o,q,_⟩:=hit; exact Heap.lt_size q
  refine wpAny_letOwnedTupleGo_enum (s:={s with heap:=h1,toks:=s.toks+1}) ho λ h2 hE sb=>?_;have k2:∀b o,b≠e->b≠it->s.heap.get? b=some o->h2.get? b=some o:=λ b o n1 n2 q=>sb.extBut b o n1 (k1 b o n1 n2 q);have Kw:h2.get? s.heap.objs.size=some {cls:=.type "tuple",data:=.seq #[.int i s.toks,u]}:=sb.extBut _ _ (Nat.ne_of_gt he') ht;have hsz2:h2.objs.size=s.heap.objs.size+1:=by rw [sb.1]; exact hs
  have kJ:H s.heap.objs.size=none:=I.hok.fresh (Nat.le_refl _);have nt:∀b o,H b=some o->b≠e/\b≠it:=λ b o q=>⟨(λ z=>by rw [z,f0] at q; cases q),(λ z=>by rw [z,g0] at q; cases q)⟩;have hok:fG X.prog X.w (upd H s.heap.objs.size (.tup [.int i,x])) h2:=by
   have lift:∀b o,H b=some o->bF X.prog X.w (upd H s.heap.objs.size (.tup [.int i,x])) h2 b o:=λ b o q=>
    (I.hok b o q).stay (λ c v hcv r=>k2 c v (by
     rcases hcv with z | z
     ·rw [z]; exact (nt b o q).1
     ·exact (nt c _ z).1) (by
     rcases hcv with z | z
     ·rw [z]; exact (nt b o q).2
     ·exact (nt c _ z).2) r) (λ c r=>by rw [av (aB r kJ)]; exact r) λ c ys r=>by rw [av (aB r kJ)]; exact r
   intro b o q
   by_cases eb:b=s.heap.objs.size
   ·subst eb;rw [aG] at q;cases q;exact ⟨by show 2<=sizeLine; decide,[.int i s.toks,u],.cons ⟨_,rfl⟩ (.cons ru .nil),⟨_,Kw,rfl,_,rfl⟩⟩
   ·rw [av eb] at q;exact lift b o q
  have I2:Inv X aa σ (upd H s.heap.objs.size (.tup [.int i,x])) {s with heap:=h2,toks:=s.toks+1}:=by
   refine I.step (g':=s.gens) (d':=s.drawn) (ch:=[e,it]) (λ b hb=>?_) (λ b o hL hb hcb q n=>?_) (λ b o hL hb hcb q n=>?_) (λ b o hcb q n=>?_) (λ b o hcb q=>?_) (λ b ys q=>by rw [av (aB q kJ)]; exact q) (λ b o u q=>by rw [av (aB q kJ)]; exact q)
    (λ b ps q=>⟨#[],by rw [av (aB q kJ),q]; simp⟩) (λ m hm=>?_) hok I.bare
   ·rcases List.mem_cons.mp hb with rfl | hb
    ·exact ⟨f3,f1,f4,f5⟩
    ·obtain rfl:b=it:=by simpa using hb
     exact ⟨g3,g1,g4,g5⟩
   ·simp only [mem_cons,not_mem_nil,or_false,not_or] at hcb;exact k2 b o hcb.1 hcb.2 q
   ·simp only [mem_cons,not_mem_nil,or_false,not_or] at hcb;exact ⟨o.slots,k2 b o hcb.1 hcb.2 q⟩
   ·rw [av (Nat.ne_of_lt (Heap.lt_size q))]; exact n
   ·simp only [mem_cons,not_mem_nil,or_false,not_or] at hcb;exact ⟨o,k2 b o hcb.1 hcb.2 q⟩
   ·obtain ⟨o,es,ep,q,r⟩:=hm;exact ⟨o,es,ep,k2 _ o (Ne.symm f1) (Ne.symm g1) q,r⟩
  refine ⟨.ref s.heap.objs.size,_,I2,rfl,⟨_,x,kJ,rfl,rfl,λ ys hy=>by rw [I.jF hy hq]; exact hx⟩,⟨⟨_,by have:=hE; rw [show ((i:Int)+1)=((i+1:Nat):Int) by omega] at this; exact this⟩,?_⟩,λ b hb=>?_⟩
  ·obtain ⟨o,q,r⟩:=hi;exact ⟨o,sb.extBut _ _ (Ne.symm hne) q,r⟩
  ·rcases List.mem_cons.mp hb with rfl | hb
   ·rw [av (Nat.ne_of_lt he')]; exact f0
   ·obtain rfl:b=it:=by simpa using hb
    rw [av (Nat.ne_of_lt hi')]; exact g0
 done:=by
  intro X hP hw hK hc i aa s σ H E I hf st hg;subst hP hw hK;obtain ⟨xs,hq,hx⟩:=hg;obtain ⟨⟨old,he⟩,hit⟩:=st;obtain ⟨its,rv,p,hz⟩:=I.list hq;obtain ⟨g0,g1,g2,g3,g4,g5⟩:=hf it (by simp);have hl:=rv.length;exact wpAny_pyNext_enum_end (I.ok.hd hc) he hit p.isList (by simp; omega) λ h' eb=>⟨rfl,I.turned (t':=s.toks) (λ b o hb q=>eb b o hb q) g0 g1 g3 g4 g5⟩
 self:=λ _ _ _ _ _ st h=>by
  obtain ⟨⟨old,he⟩,_⟩:=st;exact wpAny_pyIter_enum he h
section
variable {X:Cx}
noncomputable def Gs (K:PySem.W.Frag) (ta:TA):TI:=fun σ H R=>ta σ H λ vs H1=>∃a,vs=[.ref a]/\(∃xs,fJ K H1 a xs)/\R (Iv K a) H1
theorem zO {l:Expr} {ta:TA} {p pos tpos:Pos} {elts:List Expr} {x1} (hg:Gl X "enumerate") (hm:X.mg "enumerate"=none) (ha:PA X [l] ta) (hs:starEach [l] X.env=[(false,eval l X.env)]:=by rfl) :
  PI X (.Tuple elts x1 tpos) (.Call (.Name "enumerate" p) [l] [] pos) (Gs X.K ta):=by
 intro aa s σ H R I h;refine Call_ (fM I hg hm (u:=.type "enumerate") (by decide +kernel) (PyProof.Rows.callWith_type1 (bQ (ha pos aa s σ H _ I h) λ us s1 ⟨vs,H1,I1,r1,q1⟩=>?_) hs rfl));obtain ⟨a,rfl,⟨xs,hq⟩,q⟩:=q1;obtain ⟨u,rfl,ru⟩:=vals1 r1;cases ru;obtain ⟨its,rv,pl,hz⟩:=I1.list hq;refine call_enumerate_list pl.isList λ h' he hit hsz hk=>?_;refine wpAny_pyIter_enum he ?_;have I2:Inv X aa σ H1 {s1 with heap:=h'}:=I1.kept (t':=s1.toks) hk;refine ⟨_,_,_,_,H1,rfl,I2,ua a (s1.heap.objs.size+1) s1.heap.objs.size (Nat.succ_ne_self _),⟨⟨_,he⟩,hit⟩,λ b hb=>?_,q⟩;rcases List.mem_cons.mp hb with rfl | hb
 ·exact I1.lW (Nat.le_succ _) (I1.hok.fresh (Nat.le_succ _))
 ·obtain rfl:b=s1.heap.objs.size:=by simpa using hb
  exact I1.lW (Nat.le_refl _) (I1.hok.fresh (Nat.le_refl _))
end
theorem Gu:isSubtype (.type "tuple") (.type "set")=pure false:=by rw [isSubtype_type]; kernel_rfl
theorem Gv:isSubtype (.type "tuple") (.type "frozenset")=pure false:=by rw [isSubtype_type]; kernel_rfl
section
variable {prog:Program} {w:World} {A:Around} {E:Value->Shared->Prop} {s:Shared}
set_option maxHeartbeats 3200000 in
theorem jN {l:Addr} {ns:List Int} {Q:Value->Shared->Prop}
  (hh:A.handled=none) (hl:s.heap.IsTuple l its) (hi:IntsAre its.toList ns) (hb:its.size+1 < scanBound)
  (h:∀(h':Heap) (tk:Nat),h'.SetOf (intKind prog w) s.heap.objs.size (λ j=>(firstMet (λ i=>ns.getD i 0) its.size).any (·==j)) (firstMet (λ i=>ns.getD i 0) its.size).length->
   (∀b o,b < s.heap.objs.size->s.heap.get? b=some o->h'.get? b=some o)->Q (.ref s.heap.objs.size) {s with heap:=h',toks:=tk}) :
  wpAny (model prog w) A (call (.type "set") [.ref l]) Q E s:=by
 obtain ⟨cc,tl,hmro⟩:=F.called_set.mro;have hmade:=F.called_set.made;have hsub:=F.called_set.sub;refine wpAny_call (codeAny_of_tree ?_);show wpAny _ _ (callAny (.type "set") _) _ _ _;refine wpAny_pure ⟨Code.quiet_builtin _ (by decide +kernel),codeAny_builtin F.entry_type_call ?_⟩;rw [Around.under_plain (weight_type_call_type "set" [.ref l] []) rfl];have k1:=F.called_set.notType;have k2:=F.called_set.canCreate;have k3:=F.typeCall_set_1 (.ref l)
 repeat (any_goals (first | assumption | wp_step))
 refine codeAny_mono (code_set_new_1 (.ref l) (E:=E) (Q₁:=λ ob t₁=>∃led:Bool,ob=.ref s.heap.objs.size/\t₁={s with heap:=s.heap.push {cls:=.type "set",dict:=none,data:=.set #[] 0 (.fresh 0 0 led)}}) λ led=>⟨led,rfl,rfl⟩) λ r t₁ hr=>?_;cases r with
 | error e=>exact hr
 | ok fl=>
  cases fl with
  | ret ob=>
   obtain ⟨led,rfl,rfl⟩:=hr;have gS:(s.heap.push {cls:=.type "set",dict:=none,data:=.set #[] 0 (.fresh 0 0 led)}).get? s.heap.objs.size=some {cls:=.type "set",dict:=none,data:=.set #[] 0 (.fresh 0 0 led)}:=Heap.get?_push_size _ rfl;have gT:Shared.TypeIs {s with heap:=s.heap.push {cls:=.type "set",dict:=none,data:=.set #[] 0 (.fresh 0 0 led)}} (.ref s.heap.objs.size) "set":=⟨_,gS,rfl⟩;have k4:=F.called_set.init.lookup;have k5:=F.called_set.init.bind (.ref s.heap.objs.size)
   repeat (any_goals (first | assumption | wp_step))
   refine codeAny_mono (codeAny_call_builtin (R:=wants (λ r t₂=>r=.none/\∃h' tk,t₂={s with heap:=h',toks:=tk}/\
     h'.SetOf (intKind prog w) s.heap.objs.size (λ j=>(firstMet (λ i=>ns.getD i 0) its.size).any (·==j)) (firstMet (λ i=>ns.getD i 0) its.size).length/\
     (∀b o,b < s.heap.objs.size->s.heap.get? b=some o->h'.get? b=some o)) E) F.called_set.init.plain F.entry_set_init (check_set_init_1 gT ?_)) λ r₂ t₂ hr₂=>?_
   ·obtain ⟨ol,hol,hcl,nl,hdl⟩:=hl;obtain ⟨ocls,odict,odata,oslots⟩:=ol;simp only at hcl hdl;subst hcl; subst hdl;have Mg:(s.heap.push {cls:=.type "set",dict:=none,data:=.set #[] 0 (.fresh 0 0 led)}).get? l=some {cls:=.type "tuple",dict:=odict,data:=.seq its nl,slots:=oslots}:=Heap.get?_push_of_some _ hol;have k6:=Gu;have k7:=Gv;have k8:(Value.type "tuple"==Value.type "dict")=false:=by decide
    have gl:(s.heap.push {cls:=.type "set",dict:=none,data:=.set #[] 0 (.fresh 0 0 led)}).IsTuple l its:=⟨_,Mg,rfl,nl,rfl⟩;unfold Builtin.«set.__init__» noKeywords Builtin.Frozenset.updateFrom;generalize gPI:pyIter=PI
    wp_walk
    subst gPI;refine wpAny_pyIter_tuple gl ?_;refine wpAny_bind (wpAny_runValue ?_);have lS:l < s.heap.objs.size:=Heap.lt_size hol;have h3:A.in1.in1.in1.handled=none:=by simp [hh]
    have nI:l≠(s.heap.push {cls:=.type "set",dict:=none,data:=.set #[] 0 (.fresh 0 0 led)}).objs.size:=by
     rw [Heap.size_push]; exact Nat.ne_of_lt (Nat.lt_succ_of_lt lS)
    have nS:s.heap.objs.size∉[(s.heap.push {cls:=.type "set",dict:=none,data:=.set #[] 0 (.fresh 0 0 led)}).objs.size,l]:=by
     rw [Heap.size_push]; simp only [mem_cons,mem_singleton,not_mem_nil,or_false,not_or];exact ⟨Nat.ne_of_lt (Nat.lt_succ_self _),Nat.ne_of_gt lS⟩
    have hv:∀(i:Nat) (v:Value),its[i]?=some v->∃t,v=.int ((λ i=>ns.getD i 0) i) t:=λ i v hv=>
     IntsAre.int_at hi i v (by rw [Array.getElem?_toList]; exact hv)
    refine codeAny_set_update_loopS ((Walks.tuple h3 _ l nI its).toS) s.heap.objs.size
     nS (λ i=>ns.getD i 0) hv hb (its.size - 0) 0 _ (by omega) (Nat.zero_le _)
     ⟨⟨_,Heap.get?_push_size _ rfl,rfl,rfl⟩,(gl.push _)⟩ ?hS0 ?hR
    case hS0=>
     have hget:((s.heap.push {cls:=.type "set",dict:=none,data:=.set #[] 0 (.fresh 0 0 led)}).push {cls:=.type "tuple_iterator",data:=.fields #[.ref l,.int 0 0]}).get? s.heap.objs.size
       = some {cls:=.type "set",dict:=none,data:=.set #[] 0 (.fresh 0 0 led)}:=Heap.get?_push_of_some _ gS
     exact SetOf_congr ((setObjOf_fresh (knd:=intKind prog w) led).setOf hget (by unfold scanBound; omega)) (λ _=>rfl) rfl
    case hR=>
     intro s' hm hS';obtain ⟨h',g',d',tk',os'⟩:=s';have eg:g'=s.gens:=hm.gens;have ed:d'=s.drawn:=hm.drawn;have eo:os'=s.os:=hm.os;subst eg; subst ed; subst eo;show wpAny _ _ _ _ _ _;refine wpAny_pure ?_;show wpAny _ _ (ret Value.none) _ _ _;refine wpAny_pure ⟨rfl,h',tk',rfl,hS',λ b o hb e=>?_⟩;have hb1:b≠s.heap.objs.size:=Nat.ne_of_lt hb;have hb2:b≠(s.heap.push {cls:=.type "set",dict:=none,data:=.set #[] 0 (.fresh 0 0 led)}).objs.size:=by
      rw [Heap.size_push]; exact Nat.ne_of_lt (Nat.lt_succ_of_lt hb)
     exact hm.heap b o (by simp only [mem_cons,mem_singleton,not_mem_nil,or_false,not_or]; exact ⟨hb1,hb2⟩) (Heap.get?_push_of_some _ (Heap.get?_push_of_some _ e))
   ·cases r₂ with
    | error e=>exact hr₂
    | ok fl₂=>
     cases fl₂ with
     | ret r=>
      obtain ⟨rfl,h',tk,rfl,hS',hk'⟩:=hr₂
      repeat (any_goals (first | assumption | wp_step))
      exact h _ _ hS' hk'
     | _=>exact hr₂.elim
  | _=>exact hr.elim
end
section
variable {X:Cx}
noncomputable def unlike (ns:List Int):Nat:=(firstMet (λ i=>ns.getD i 0) ns.length).length
theorem uc (hh:X.A.handled=none):bU X (.type "set") (λ xs H Q=>∃(a:Addr) (ns:List Int),xs=[.ref a]/\cL X.K H a (ns.map V.int)/\ns.length<=4000/\∀p S,H p=none->Q (.ref p) (upd H p (.set S (unlike ns)))):=by
 intro aa s σ H xs us Q I r h;obtain ⟨a,ns,rfl,hq,hz,q⟩:=h;obtain ⟨u,rfl,rx⟩:=vals1 r;cases rx;obtain ⟨its,rv,ht,hl⟩:=I.tuple hq;have len:=rv.length;rw [length_map] at len;refine jN hh (show s.heap.IsTuple a its.toArray from ht) (by simpa using intsAre_of rv) (by rw [List.size_toArray]; unfold scanBound; omega) λ h' tk hS hk=>?_;rw [show its.toArray.size=ns.length by simp [len]] at hS;have kp:∀b o,s.heap.get? b=some o->h'.get? b=some o:=λ b o e=>hk b o (Heap.lt_size e) e;exact ⟨.ref s.heap.objs.size,_,I.laid (t':=tk) (o:=.set _ (unlike ns)) kp (Nat.le_refl _) hS,rfl,q _ _ (I.hok.fresh (Nat.le_refl _))⟩
theorem kK:bU X (.builtin "len") (λ xs H Q=>∃(a:Addr) (S:Int->Bool) (n:Nat),xs=[.ref a]/\H a=some (.set S n)/\Q (.int n) H):=by
 intro aa s σ H xs us Q I r h;obtain ⟨a,S,n,rfl,hq,q⟩:=h;obtain ⟨u,rfl,rx⟩:=vals1 r;cases rx;obtain ⟨o,es,ep,t,h1,h2,h3,h4,h5,h6,h7,h8⟩:=I.hok _ _ hq;subst h8;refine call_len_set h1 h2 h3 h7 (by have:es.size < 4096:=h6; omega) ⟨.int _,H,I.tok _,⟨_,rfl⟩,q⟩
noncomputable def jO (P:Program) (w:World) (a:Addr) (S:Key->Bool) (n:Nat):HO:=.ext λ h=>h.SetOf (bC P w) a S n
theorem rK {H:Hp} {h:Heap} {a:Addr} {S:Key->Bool} (x:h.SetOf (bC P w) a S n):bF P w H h a (jO P w a S n):=by
 obtain ⟨o,r⟩:=id x;obtain ⟨es,ep,t,e,r⟩:=r;refine ⟨x,⟨o,e⟩,λ h1 h2 ⟨o1,es1,ep1,t1,e1,r1⟩ k=>⟨o1,es1,ep1,t1,k _ e1,r1⟩⟩
theorem ud:bU X (.type "set") (λ xs H Q=>xs=[]/\∀p,H p=none->Q (.ref p) (upd H p (jO X.prog X.w p (λ _=>false) 0))):=by
 intro aa s σ H xs us Q I r h;obtain ⟨rfl,q⟩:=h;cases r;refine call_set_0 λ led=>?_;have hget:(s.heap.push {cls:=.type "set",dict:=none,data:=.set #[] 0 (.fresh 0 0 led)}).get? s.heap.objs.size=some {cls:=.type "set",dict:=none,data:=.set #[] 0 (.fresh 0 0 led)}:=Heap.get?_push_size _ rfl;refine ⟨.ref s.heap.objs.size,_,I.laid (t':=s.toks) (o:=jO X.prog X.w s.heap.objs.size (λ _=>false) 0) (λ b o e=>Heap.get?_push_of_some _ e) (Nat.le_refl _) (rK ?_),rfl,q _ (I.hok.fresh (Nat.le_refl _))⟩
 letI:BEq Key:=⟨λ a b=>decide (a=b)⟩
 haveI:LawfulBEq Key:={eq_of_beq:=λ h=>of_decide_eq_true h,rfl:=decide_eq_true rfl}
 exact SetOf_congr ((setObjOf_fresh (knd:=bC X.prog X.w) led).setOf hget (by unfold scanBound; omega)) (λ _=>rfl) rfl
theorem vX {k:Key} {u:Value} (r:RelV (kV k) u):jD k u=true/\u.scannable=true:=by
 cases k with
 | inl i=>obtain ⟨t,rfl⟩:=r; exact ⟨kT i t,rfl⟩
 | inr x=>obtain ⟨t,rfl⟩:=r; exact ⟨kU x t,rfl⟩
noncomputable def Dy (P:Program) (w:World):R2:=λ x y H Q=>∃a S n k,y=.ref a/\x=kV k/\H a=some (jO P w a S n)/\Q (.bl (S k)) H
theorem ue:fj X (compareOp .In) (Dy X.prog X.w):=by
 intro aa s σ H x y v u Q I rx ry h;obtain ⟨a,S,n,k,rfl,rfl,ha,q⟩:=h;cases ry;obtain ⟨h1,h2⟩:=vX rx;obtain ⟨hS,_⟩:=I.hok _ _ ha;exact wpAny_inSet_of (knd:=bC X.prog X.w) h1 h2 hS ⟨.bl _,H,I.tok _,rfl,q⟩
noncomputable def zP (P:Program) (w:World):V->List V->Hp->VK->Prop:=λ x vs H Q=>∃a S n k,x=.ref a/\vs=[kV k]/\H a=some (jO P w a S n)/\n < 4000/\Q .non (upd H a (jO P w a (λ j=>S j||decide (j=k)) (if S k then n else n+1)))
theorem qg:yV X "set.add" (zP X.prog X.w):=by
 intro aa s σ H x vs v us Q I rx rv h;obtain ⟨a,S,n,k,rfl,rfl,ha,hz,q⟩:=h;cases rx;obtain ⟨u,rfl,ru⟩:=rv.one;obtain ⟨h1,h2⟩:=vX ru;obtain ⟨hS,_⟩:=id (I.hok _ _ ha);refine call_set_add (knd:=bC X.prog X.w) h1 h2 hS (by unfold scanBound; omega) λ h' sb hS'=>?_;have he:∃u,h'.get? a=some u:=by obtain ⟨o,es,ep,t,e,_⟩:=hS'; exact ⟨o,e⟩
 exact ⟨.non,_,I.write (x:=a) (e:=a) (t':=s.toks+1) (by rw [ha]; trivial) (.inl rfl) (λ b o hb e=>sb.extBut b o hb e) he (rK hS'),rfl,q⟩
end
section
variable {prog:Program} {w:World} {A:Around} {E:Value->Shared->Prop}
theorem Bw {it l:Addr} (ne:l≠it):∀(n i:Nat) (s:Shared) (Q:List Value->Shared->Prop),s.heap.IsListIter it l i->s.heap.IsList l its->i+n<=its.size->
  (∀h',h'.IsListIter it l (i+n)->Heap.SameBut it s.heap h'->Q ((its.toList.drop i).take n) {s with heap:=h'})->wpAny (model prog w) A (draw (.ref it) n) Q E s
 | 0,i,s,Q,a,_,_,q=>by
  show wpAny _ _ (pure []) Q E s;exact wpAny_pure (by simpa using q s.heap a (Heap.SameBut.refl ..))
 | n+1,i,s,Q,a,b,le,q=>by
  have lt:i < its.size:=by omega
  show wpAny _ _ (pyNext (.ref it) >>= _) Q E s;refine wpAny_bind (wpAny_pyNext_list_item a b (x:=its[i]) (by simp [lt]) λ h1 a1 s1=>?_);refine wpAny_bind (wpAny_holding (Bw ne n (i+1) _ _ a1 (b.extBut s1.extBut ne) (by omega) λ h2 a2 s2=>wpAny_pure ?_));have e:its.toList.drop i=its[i]::its.toList.drop (i+1):=by simp [drop_eq_getElem_cons,lt]
  have z:=q h2 (by rw [show i+(n+1)=i+1+n by omega]; exact a2) (s1.trans s2);rw [e,take_succ_cons] at z;exact z
theorem zQ {s:Shared} {t:Addr} {Iw:List (Bool×(Value->Sem Unit))} {Q:Unit->Shared->Prop} (hh:A.handled=none) (ht:s.heap.IsList t its)
  (hn:Iw.length=its.size) (hst:Iw.findIdx? (·.1)=none)
  (h:∀h',Heap.ExtBut s.heap.objs.size s.heap h'->wpAny (model prog w) A (assignInOrder (Iw.map (·.2)) its.toList) Q E {s with heap:=h'}) :
  wpAny (model prog w) A (unpack (.ref t) Iw) Q E s:=by
 have ne:t≠s.heap.objs.size:=by obtain ⟨o,ho,_⟩:=ht; exact Nat.ne_of_lt (Heap.lt_size ho)
 unfold unpack;rw [hn,hst];refine wpAny_bind (wpAny_holding ?_);unfold unpackItems;refine wpAny_bind ?_
 ·unfold notIterableAtAll;refine wpAny_bind (wpAny_specialOf ht.typeIs slot_list_iter.lookup (wpAny_pure ?_));simp only [Bool.false_eq_true,if_false];refine wpAny_bind (wpAny_holding (wpAny_pyIter_list ht ?_));refine wpAny_bind (wpAny_holding (Bw ne its.size 0 _ _ ⟨_,Heap.get?_push_size _ rfl,rfl,rfl⟩ (ht.push _) (by omega) λ h1 a1 s1=>?_));have all:List.take its.size (List.drop 0 its.toList)=its.toList:=by rw [drop_zero]; exact take_of_length_le (by simp)
  rw [all,if_neg (by simp)];have b1:h1.IsList t its:=(ht.push _).extBut s1.extBut ne;refine wpAny_bind (wpAny_holding (wpAny_pyNext_list_end hh a1 b1 (by simp) λ h2 e2=>?_));simp only [Option.isSome_none,Bool.false_eq_true,if_false];exact wpAny_pure (h h2 λ b o hb e=>e2 b o hb (s1.extBut b o hb (Heap.get?_push_of_some _ e)))
end
section
variable {X:Cx} {pos:Pos}
noncomputable def Ky (K:PySem.W.Frag) (n:Nat) (t:vm):TG:=λ v σ H Q=>∃a xs,v=.ref a/\fJ K H a xs/\xs.length=n/\t xs σ H Q
theorem Dz {es:List Expr} {k:Nat} {t:vm} (hc:X.calm=true) (h:pP X es t)
  (hn:(assignEach es X.env).length=n:=by rfl) (hst:(assignEach es X.env).findIdx? (·.1)=none:=by rfl):PG X (.Tuple es k pos) (Ky X.K n t):=by
 intro aa s σ H v u Q I r hw;obtain ⟨a,xs,rfl,hq,hl,hw⟩:=hw;cases r;obtain ⟨its,rv,pl,hz⟩:=I.list hq;rw [assign_Tuple];refine wpAny_bind (wpAny_standAt (zQ (I.ok.hd hc) pl.isList (by simp [hn,<-hl,rv.length]) hst λ h' hx=>?_));have I1:Inv X aa σ H {s with heap:=h'}:=I.kept (t':=s.toks) λ b o e=>hx b o (Nat.ne_of_lt (Heap.lt_size e)) e;exact h aa _ σ H xs _ Q I1 (by simpa using rv) hw
theorem uf:fj X (compareOp .LtE) (λ x y H Q=>∃i j,x=.str i/\y=.str j/\Q (.bl (!decide (j.cps.toList < i.cps.toList))) H):=by
 intro aa s σ H x y v u Q I rx ry h;obtain ⟨i,j,rfl,rfl,q⟩:=h;obtain ⟨t,rfl⟩:=rx;obtain ⟨t',rfl⟩:=ry;exact PySem.P.le_str (jH I q rfl)
theorem DA:Fd X (λ x lo hi H Q=>∃z,x=.str z/\z.length<=sizeLine/\Q (.str (Txt.slice z lo hi)) H):=by
 intro aa s σ H x v vl vu lo hi sl Q I rx hs pl pu h;obtain ⟨z,rfl,hz,q⟩:=h;obtain ⟨t,rfl⟩:=rx;have fin:∀t' k,EP X aa σ Q (.str (Txt.slice z lo hi) t') {s with toks:=k}:=λ t' k=>⟨.str _,H,I.tok k,⟨_,rfl⟩,q⟩;have hle:=Nat.le_trans (Txt.slice_le z lo hi) hz;refine ⟨"str",_,F.slot_str_getitem.lookup,typeIs_str _ _ _,?_⟩;cases pl with
 | none=>
  cases pu with
  | none=>exact wpAny_getItem_str_slice (l:=none) (u:=none) (st:=none) hs rfl (post_val_or_str ⟨hle,fin⟩)
  | int j uj=>exact wpAny_getItem_str_slice (l:=none) (u:=some (j,uj)) (st:=none) hs rfl (post_val_or_str ⟨hle,fin⟩)
 | int i ui=>
  cases pu with
  | none=>exact wpAny_getItem_str_slice (l:=some (i,ui)) (u:=none) (st:=none) hs rfl (post_val_or_str ⟨hle,fin⟩)
  | int j uj=>exact wpAny_getItem_str_slice (l:=some (i,ui)) (u:=some (j,uj)) (st:=none) hs rfl (post_val_or_str ⟨hle,fin⟩)
theorem vY:bU X (.type "range") (λ xs H Q=>∃n:Int,xs=[.int n]/\∀p,H p=none->Q (.ref p) (upd H p (.rng 0 n))):=by
 intro aa s σ H xs us Q I r h;obtain ⟨n,rfl,q⟩:=h;obtain ⟨u,rfl,rx⟩:=vals1 r;obtain ⟨t,rfl⟩:=rx;exact call_range_1 ⟨.ref s.heap.objs.size,_,I.laid (o:=.rng 0 n) (λ b o e=>Heap.get?_push_of_some _ e) (Nat.le_refl _) ⟨_,_,_,Heap.get?_push_size _ rfl⟩,rfl,q _ (I.hok.fresh (Nat.le_refl _))⟩
noncomputable def upTo (n:Nat):List V:=(List.range n).map λ i=>V.int (i:Nat)
theorem ug {acc:Array Value} (h:ItemsOf (λ i v=>∃t,v=.int (0+(i:Int)*1) t) acc n):Vals (upTo n) acc.toList:=by
 obtain ⟨h1,h2⟩:=h;have key:∀(l:List Value) (k:Nat),(∀(j:Nat) v,l[j]?=some v->∃t,v=.int ((k+j:Nat):Int) t)->Vals ((List.range' k l.length).map λ i=>V.int (i:Nat)) l:=by
  intro l
  induction l with
  | nil=>intro k _; exact .nil
  | cons v r ih=>
   intro k hv;rw [length_cons,range'_succ,map_cons];refine .cons (hv 0 v rfl) (ih (k+1) λ j u hj=>?_);obtain ⟨t,e⟩:=hv (j+1) u (by simpa using hj);exact ⟨t,by rw [e,show k+(j+1)=k+1+j by omega]⟩
 have q:=key acc.toList 0 λ j v hj=>by
  obtain ⟨t,e⟩:=h2 j v (by simpa using hj);exact ⟨t,by rw [e]; congr 1; omega⟩
 rw [Array.length_toList,h1,<-range_eq_range'] at q;exact q
theorem kL (hh:X.A.handled=none):bU X (.type "list") (λ xs H Q=>∃(a:Addr) (n:Nat),xs=[.ref a]/\H a=some (.rng 0 n)/\n<=1000000/\∀p,H p=none->Q (.ref p) (upd H p (.lst (upTo n)))):=by
 intro aa s σ H xs us Q I r h;obtain ⟨a,n,rfl,ha,hz,q⟩:=h;obtain ⟨u,rfl,rx⟩:=vals1 r;cases rx;obtain ⟨t,u,v,e⟩:=I.hok _ _ ha;have hn:Builtin.Range.rangeSize 0 n 1=(n:Int):=by rw [rangeSize_one]; split<;>omega
 refine call_list_range (n:=n) hh (show IsRange s.heap a 0 n 1 t u v from e) (small_one (by omega) (by omega) (by omega) (by omega)) hn (Nat.le_trans hz (by decide)) λ h' tk acc c kp eo hi=>?_;refine ⟨.ref s.heap.objs.size,_,I.laid (t':=tk) (o:=.lst (upTo n)) kp (Nat.le_refl _) ⟨?_,acc.toList,c,ug hi,eo⟩,rfl,q _ (I.hok.fresh (Nat.le_refl _))⟩;unfold upTo;rw [length_map,length_range];exact Nat.le_trans hz (by decide)
end
end L2
end
section
namespace L2
open PySem PySem.Spec PyProof.Rows List
open AutoSeq1 (wpAny_loadPart')
variable {Q:Value->Shared->Prop} {i:Nat} {it:Addr} {its:Array Value}
section
variable {prog:Program} {w:World} {A:Around} {E:Value->Shared->Prop} {s:Shared}
theorem nextT {l:Addr} {x:Value} (a:s.heap.IsTupleIter it l i) (b:s.heap.IsTuple l its) (hx:its[i]?=some x)
  (q:∀h',h'.IsTupleIter it l (i+1)->Heap.SameBut it s.heap h'->Q x {s with heap:=h'}):wpAny (model prog w) A (Builtin.SmallTypes.nextOf (.ref it)) Q E s:=by
 obtain ⟨o,o1,o2,o3⟩:=id a;obtain ⟨p,p1,_,n,p2⟩:=b;unfold Builtin.SmallTypes.nextOf;refine wpAny_bind (wpAny_callSpecial?_slot (name:=Str.ofString "__next__") a.typeIs F.slot_tuple_iterator_next (wpAny_call_entry F.slot_tuple_iterator_next a.typeIs F.entry_tuple_iterator_next ?_ (F.args_tuple_iterator_next_1 _)));show wpAny _ _ (field (.ref it) 0 >>= _) _ _ s;refine wpAny_bind (wpAny_field o1 o3 (x:=.ref l) rfl ?_);show wpAny _ _ (if (Value.ref l==Value.none)=true then _ else _) _ _ s;rw [if_neg (show ¬((Value.ref l==Value.none)=true) from Bool.false_ne_true)];show wpAny _ _ (field (.ref it) 1 >>= _) _ _ s;refine wpAny_bind (wpAny_field o1 o3 (x:=.int i 0) rfl ?_);show wpAny _ _ (seqItems? (.ref l) >>= _) _ _ s;refine wpAny_bind (wpAny_seqItems p1 p2 ?_);simp only [Int.toNat_natCast,hx];refine wpAny_bind (wpAny_setField o1 o3 (by simp) (wpAny_pure ⟨x,rfl,wpAny_pure (q _ ?_ (Heap.SameBut.update ..))⟩));exact ⟨_,Heap.get?_update_self _ o1 (Obj.isFreed_of_fields (Obj.data_mapFields o3 _)),(Obj.cls_mapFields ..).trans o2,by rw [Obj.data_mapFields o3]; simp [rawInt]⟩
theorem oh {l:Addr} (hh:A.handled=none) (a:s.heap.IsTupleIter it l i) (b:s.heap.IsTuple l its) (hx:its[i]?=none)
  (q:∀h' e,Heap.ExtBut it s.heap h'->(∃o,h'.get? e=some o/\o.cls=.type "StopIteration")->E (.ref e) {s with heap:=h'}):wpAny (model prog w) A (Builtin.SmallTypes.nextOf (.ref it)) Q E s:=by
 obtain ⟨o,o1,o2,o3⟩:=id a;obtain ⟨p,p1,_,n,p2⟩:=b;unfold Builtin.SmallTypes.nextOf;refine wpAny_bind (wpAny_callSpecial?_slot (name:=Str.ofString "__next__") a.typeIs F.slot_tuple_iterator_next (wpAny_call_entry F.slot_tuple_iterator_next a.typeIs F.entry_tuple_iterator_next ?_ (F.args_tuple_iterator_next_1 _)));show wpAny _ _ (field (.ref it) 0 >>= _) _ _ s;refine wpAny_bind (wpAny_field o1 o3 (x:=.ref l) rfl ?_);show wpAny _ _ (if (Value.ref l==Value.none)=true then _ else _) _ _ s;rw [if_neg (show ¬((Value.ref l==Value.none)=true) from Bool.false_ne_true)];show wpAny _ _ (field (.ref it) 1 >>= _) _ _ s;refine wpAny_bind (wpAny_field o1 o3 (x:=.int i 0) rfl ?_);show wpAny _ _ (seqItems? (.ref l) >>= _) _ _ s;refine wpAny_bind (wpAny_seqItems p1 p2 ?_);simp only [Int.toNat_natCast,hx];refine wpAny_bind (wpAny_rule (wpAny_bind (wpAny_setField o1 o3 (by simp) ?_)));show wpAny _ _ (newExc (.type "StopIteration") [] >>= _) _ _ _;refine wpAny_bind ?_;simp only [newExc,newTuple];refine wpAny_bind (wpAny_newObj_type ?_ (by size_fits));refine wpAny_bind (m:=firstArgMember _ _) (wpAny_of_eq (a:=Value.none) (by first | rfl | (simp only [firstArgMember]; rfl)) ?_);refine wpAny_newObj_type ?_ (by size_fits);simp only [raiseNew];refine wpAny_bind (wpAny_handled ?_)
 first | rw [show A.in1.handled=none from hh] | rw [hh]
 refine wpAny_bind (wpAny_pure (wpAny_throw ?_));refine q _ _ (λ b o hb e=>?_) ⟨_,Heap.get?_push_size _ rfl,rfl⟩;exact Heap.get?_push_of_some _ (Heap.get?_push_of_some _ ((Heap.SameBut.update ..).extBut b o hb e))
theorem qh {e l:Addr} {x old:Value} {Q:Option Value->Shared->Prop}
  (he:IsEnum s.heap e it i old) (a:s.heap.IsTupleIter it l i) (b:s.heap.IsTuple l its) (hx:its[i]?=some x) (ne:e≠it)
  (q:∀h',IsEnumOut h' e it ((i:Int)+1) x s.heap.objs.size->h'.IsTupleIter it l (i+1)->
   h'.get? s.heap.objs.size=some {cls:=.type "tuple",data:=.seq #[.int i s.toks,x]}->h'.objs.size=s.heap.objs.size+1->
   (∀b o,b≠e->b≠it->s.heap.get? b=some o->h'.get? b=some o)->Q (some (.ref s.heap.objs.size)) {s with heap:=h',toks:=s.toks+1}) :
  wpAny (model prog w) A (pyNext (.ref e)) Q E s:=by
 have hT:s.TypeIs (.ref e) "enumerate":=⟨_,he,rfl⟩;unfold pyNext;refine wpAny_bind (wpAny_attempt (wpAny_callSpecial?_slot (name:=Str.ofString "__next__") hT F.slot_enumerate_next (wpAny_call_entry F.slot_enumerate_next hT F.entry_enumerate_next ?_ (F.args_enumerate_next_1 _))));obtain ⟨hp,g,d,tk,os⟩:=s;show wpAny _ _ (field (.ref e) 2 >>= _) _ _ _;refine wpAny_bind (wpAny_field he rfl (x:=.ref it) rfl ?_);refine wpAny_bind (nextT a b hx λ h1 a1 s1=>?_);replace s1:Heap.SameBut it hp h1:=s1;have e1:IsEnum h1 e it i old:=(s1.2 e ne).trans he;show wpAny _ _ (field (.ref e) 3 >>= _) _ _ ⟨h1,g,d,tk,os⟩;refine wpAny_bind (wpAny_field e1 rfl (x:=rawInt i) rfl ?_);show wpAny _ _ (field (.ref e) 4 >>= _) _ _ ⟨h1,g,d,tk,os⟩;refine wpAny_bind (wpAny_field e1 rfl (x:=.none) rfl ?_);show wpAny _ _ (mkInt i >>= _) _ _ ⟨h1,g,d,tk,os⟩;refine wpAny_bind (wpAny_mkInt ?_);show wpAny _ _ (setField (.ref e) 3 (rawInt ((i:Int)+1)) >>= _) _ _ ⟨h1,g,d,tk+1,os⟩;refine wpAny_bind (wpAny_setField_rec e1 (by simp) λ h2 e2 s2=>?_);replace s2:Heap.SameBut e h1 h2:=s2;replace e2:IsEnum h2 e it ((i:Int)+1) old:=e2;show wpAny _ _ (setField (.ref e) 4 .none >>= _) _ _ ⟨h2,g,d,tk+1,os⟩;refine wpAny_bind (wpAny_setField_rec e2 (by simp) λ h3 e3 s3=>?_);replace s3:Heap.SameBut e h2 h3:=s3;replace e3:IsEnum h3 e it ((i:Int)+1) old:=e3;show wpAny _ _ (newTuple [.int i tk,x] >>= _) _ _ ⟨h3,g,d,tk+1,os⟩;refine wpAny_bind (wpAny_newTuple ?_);have e4:IsEnum (h3.push {cls:=.type "tuple",data:=.seq #[.int i tk,x]}) e it ((i:Int)+1) old:=Heap.get?_push_of_some _ e3;generalize hh4:h3.push {cls:=.type "tuple",data:=.seq #[.int i tk,x]}=h4 at e4;have sz:h3.objs.size=hp.objs.size:=by rw [s3.1,s2.1,s1.1]
 have el:e < hp.objs.size:=Heap.lt_size he;have t4:h4.get? hp.objs.size=some {cls:=.type "tuple",data:=.seq #[.int i tk,x]}:=by rw [<-hh4,<-sz]; exact Heap.get?_push_size _ rfl
 have z4:h4.objs.size=hp.objs.size+1:=by rw [<-hh4,Heap.size_push,sz]
 have k4:∀b o,b≠e->b≠it->hp.get? b=some o->h4.get? b=some o:=λ b o n1 n2 hb=>by
  rw [<-hh4]; exact Heap.get?_push_of_some _ (s3.extBut b o n1 (s2.extBut b o n1 (s1.extBut b o n2 hb)))
 have a4:h4.IsTupleIter it l (i+1):=by
  rw [<-hh4]; obtain ⟨o,ho,r⟩:=(a1.extBut s2.extBut (Ne.symm ne)).extBut s3.extBut (Ne.symm ne); exact ⟨o,Heap.get?_push_of_some _ ho,r⟩
 show wpAny _ _ (Builtin.SmallTypes.ownedTupleIsFree (.ref e) >>= _) _ _ ⟨h4,g,d,tk+1,os⟩;rw [sz];clear hh4 e3 s3 e2 s2 e1 s1 a1 sz h3 h2 h1;refine wpAny_bind ?_;unfold Builtin.SmallTypes.ownedTupleIsFree;refine wpAny_bind (wpAny_field e4 rfl (x:=.none) rfl (wpAny_pure ?_));simp only [if_true];refine wpAny_bind (wpAny_rule ?_);refine wpAny_bind (wpAny_field e4 rfl (x:=old) rfl ?_);refine wpAny_bind (wpAny_setField_rec e4 (by simp) λ h5 e5 s5=>?_);replace s5:Heap.SameBut e h4 h5:=s5;replace e5:IsEnum h5 e it ((i:Int)+1) x:=e5;show wpAny _ _ (Builtin.SmallTypes.ownedTupleHandOut (.ref e) (.ref hp.objs.size) >>= _) _ _ ⟨h5,g,d,tk+1,os⟩;refine wpAny_bind ?_;unfold Builtin.SmallTypes.ownedTupleHandOut;refine wpAny_bind (wpAny_setField_rec e5 (by simp) λ h6 e6 s6=>?_);replace s6:Heap.SameBut e h5 h6:=s6;replace e6:IsEnumOut h6 e it ((i:Int)+1) x hp.objs.size:=e6;refine wpAny_setField_rec e6 (by simp) λ h7 e7 s7=>?_;replace s7:Heap.SameBut e h6 h7:=s7;replace e7:IsEnumOut h7 e it ((i:Int)+1) x hp.objs.size:=e7;refine wpAny_bind (wpAny_letGo (wpAny_pure ⟨_,rfl,wpAny_pure (q h7 e7 ?_ ?_ ?_ ?_)⟩))
 ·exact ((a4.extBut s5.extBut (Ne.symm ne)).extBut s6.extBut (Ne.symm ne)).extBut s7.extBut (Ne.symm ne)
 ·exact s7.extBut _ _ (Nat.ne_of_gt el) (s6.extBut _ _ (Nat.ne_of_gt el) (s5.extBut _ _ (Nat.ne_of_gt el) t4))
 ·rw [s7.1,s6.1,s5.1,z4]
 ·exact λ b o n1 n2 hb=>s7.extBut b o n1 (s6.extBut b o n1 (s5.extBut b o n1 (k4 b o n1 n2 hb)))
theorem uh {e l:Addr} {old:Value} {Q:Option Value->Shared->Prop} (hh:A.handled=none)
  (he:IsEnum s.heap e it i old) (a:s.heap.IsTupleIter it l i) (b:s.heap.IsTuple l its) (hx:its[i]?=none)
  (q:∀h',Heap.ExtBut it s.heap h'->Q none {s with heap:=h'}):wpAny (model prog w) A (pyNext (.ref e)) Q E s:=by
 have hT:s.TypeIs (.ref e) "enumerate":=⟨_,he,rfl⟩;unfold pyNext;refine wpAny_bind (wpAny_attempt (wpAny_callSpecial?_slot (name:=Str.ofString "__next__") hT F.slot_enumerate_next (wpAny_call_entry F.slot_enumerate_next hT F.entry_enumerate_next ?_ (F.args_enumerate_next_1 _))));show wpAny _ _ (field (.ref e) 2 >>= _) _ _ _;refine wpAny_bind (wpAny_field he rfl (x:=.ref it) rfl ?_);refine wpAny_bind (oh hh a b hx λ h' x k1 k2=>?_);obtain ⟨o,o1,o2⟩:=k2;refine wpAny_bind (wpAny_isInstance (T:="StopIteration") (b:=true) ⟨o,o1,o2⟩ isSubtype_stop ?_);exact wpAny_pure (q _ k1)
theorem um (l:Addr) (its:Array Value) (n:Nat) (dct:Option Addr) (sl:Array (Option Value)) :
  Meets (Builtin.«enumerate.__new__» ⟨[.type "enumerate",.ref l],[]⟩) (λ _ R s=>s.heap.get? l=some {cls:=.type "tuple",dict:=dct,data:=.seq its n,slots:=sl}/\
   R (.ok (.ret (.ref (s.heap.push {cls:=.type "tuple_iterator",data:=.fields #[.ref l,.int 0 0]}).objs.size)))
    {s with heap:=(s.heap.push {cls:=.type "tuple_iterator",data:=.fields #[.ref l,.int 0 0]}).push {cls:=.type "enumerate",data:=.fields #[.none,.bool false,.ref s.heap.objs.size,rawInt 0,.none,.none]}}):=
 .of_wp λ prog w A R s h=>by
  obtain ⟨hp,g,d,tk,os⟩:=s; obtain ⟨hl,h⟩:=h;have hsub:=sub_enumerate;have hL:Heap.IsTuple (Shared.heap ⟨hp,g,d,tk,os⟩) l its:=⟨_,hl,rfl,n,rfl⟩
  wp_walk using wpAny_loadPart' hl
  refine wpAny_stack_any λ st=>wpAny_pure ?_;split
  ·rename_i c _ _ _ _ _;cases (c==Value.type "enumerate")
   all_goals
    wp_walk using wpAny_loadPart' hl,wpAny_pyIter_tuple hL
    exact ⟨_,rfl,h⟩
  ·wp_walk using wpAny_loadPart' hl,wpAny_pyIter_tuple hL
   exact ⟨_,rfl,h⟩
theorem qj {l:Addr} (hL:s.heap.IsTuple l its)
  (h:∀h',IsEnum h' (s.heap.objs.size+1) s.heap.objs.size 0 .none->h'.IsTupleIter s.heap.objs.size l 0->h'.objs.size=s.heap.objs.size+2->
   (∀b o,s.heap.get? b=some o->h'.get? b=some o)->Q (.ref (s.heap.objs.size+1)) {s with heap:=h'}) :
  wpAny (model prog w) A (call (.type "enumerate") [.ref l]) Q E s:=by
 obtain ⟨⟨c,dct,dt,sl⟩,hl,hc,n,hd⟩:=hL;replace hc:c=.type "tuple":=hc;replace hd:dt=.seq its n:=hd;subst hc hd;refine callType_new F.called_enumerate (by decide) (F.typeCall_enumerate_1 _) (F.newCall_enumerate_1 _) (λ obj=>F.args_object_init_2 obj _) F.entry_enumerate_new (um l its n dct sl) ⟨hl,?_⟩;have hz:(s.heap.push {cls:=.type "tuple_iterator",data:=.fields #[.ref l,.int 0 0]}).objs.size=s.heap.objs.size+1:=Heap.size_push ..;show _/\_;rw [hz];have he:IsEnum ((s.heap.push {cls:=.type "tuple_iterator",data:=.fields #[.ref l,.int 0 0]}).push
   {cls:=.type "enumerate",data:=.fields #[.none,.bool false,.ref s.heap.objs.size,rawInt 0,.none,.none]}) (s.heap.objs.size+1) s.heap.objs.size 0 .none:=by
  have:=Heap.get?_push_size (s.heap.push {cls:=.type "tuple_iterator",data:=.fields #[.ref l,.int 0 0]})
   (o:={cls:=.type "enumerate",data:=.fields #[.none,.bool false,.ref s.heap.objs.size,rawInt 0,.none,.none]}) rfl
  rw [hz] at this; exact this
 refine ⟨⟨_,he,rfl⟩,h _ he ⟨_,Heap.get?_push_of_some _ (Heap.get?_push_size _ rfl),rfl,rfl⟩ (by rw [Heap.size_push,hz]) λ b o x=>Heap.get?_push_of_some _ (Heap.get?_push_of_some _ x)⟩
end
end L2
end
section
namespace L2
open PySem PySem.Spec PyProof.Rows List
noncomputable def Kz (K:PySem.W.Frag) (a:Addr):It:=
 ⟨λ i H=>∃xs x,cL K H a xs/\xs[i]?=some x,λ i H x H'=>∃p v,H p=none/\x=.ref p/\H'=upd H p (.tup [.int i,v])/\∀xs,cL K H a xs->xs[i]?=some v,λ i H=>∃xs,cL K H a xs/\xs.length<=i⟩
theorem qk {P:Program} {w:World} {K:PySem.W.Frag} {elts:List Expr} {x1} {pos:Pos} (a e it:Addr) (hne:e≠it) :
  Turn P w K (.Tuple elts x1 pos) (Kz K a) [e,it] e (λ i h=>(∃old,IsEnum h e it (i:Int) old)/\h.IsTupleIter it a i) where
 mem:=by simp
 obj:=λ i h st b hb=>by
  obtain ⟨⟨old,he⟩,o,ho,hc,hd⟩:=st;rcases List.mem_cons.mp hb with rfl | hb
  ·refine ⟨_,he,λ v q=>?_⟩;have q':Data.fields _=Data.cell v:=q;cases q'
  ·obtain rfl:b=it:=by simpa using hb
   exact ⟨o,ho,λ v q=>by rw [hd] at q; cases q⟩
 keep:=λ i h h' st k=>by
  obtain ⟨⟨old,he⟩,o,ho,r⟩:=st;exact ⟨⟨old,k e (by simp) _ he⟩,o,k it (by simp) o ho,r⟩
 item:=by
  intro X hP hw hK hc i aa s σ H E I hf st hg;subst hP hw hK;obtain ⟨xs,x,hq,hx⟩:=hg;obtain ⟨⟨old,he⟩,hit⟩:=st;obtain ⟨its,rv,p,hz⟩:=I.tuple hq;obtain ⟨u,hu,ru⟩:=rv.get hx;obtain ⟨f0,f1,f2,f3,f4,f5⟩:=hf e (by simp);obtain ⟨g0,g1,g2,g3,g4,g5⟩:=hf it (by simp);refine qh he hit (show s.heap.IsTuple a its.toArray from p) (x:=u) (by simpa using hu) hne λ h1 ho hi ht hs k1=>⟨_,rfl,?_⟩;have he':e < s.heap.objs.size:=Heap.lt_size he;have hi':it < s.heap.objs.size:=by obtain ⟨o,q,_⟩:=hit; exact Heap.lt_size q
  refine wpAny_letOwnedTupleGo_enum (s:={s with heap:=h1,toks:=s.toks+1}) ho λ h2 hE sb=>?_;have k2:∀b o,b≠e->b≠it->s.heap.get? b=some o->h2.get? b=some o:=λ b o n1 n2 q=>sb.extBut b o n1 (k1 b o n1 n2 q);have Kw:h2.get? s.heap.objs.size=some {cls:=.type "tuple",data:=.seq #[.int i s.toks,u]}:=sb.extBut _ _ (Nat.ne_of_gt he') ht;have hsz2:h2.objs.size=s.heap.objs.size+1:=by rw [sb.1]; exact hs
  have kJ:H s.heap.objs.size=none:=I.hok.fresh (Nat.le_refl _);have nt:∀b o,H b=some o->b≠e/\b≠it:=λ b o q=>⟨(λ z=>by rw [z,f0] at q; cases q),(λ z=>by rw [z,g0] at q; cases q)⟩;have hok:fG X.prog X.w (upd H s.heap.objs.size (.tup [.int i,x])) h2:=by
   have lift:∀b o,H b=some o->bF X.prog X.w (upd H s.heap.objs.size (.tup [.int i,x])) h2 b o:=λ b o q=>
    (I.hok b o q).stay (λ c v hcv r=>k2 c v (by
     rcases hcv with z | z
     ·rw [z]; exact (nt b o q).1
     ·exact (nt c _ z).1) (by
     rcases hcv with z | z
     ·rw [z]; exact (nt b o q).2
     ·exact (nt c _ z).2) r) (λ c r=>by rw [av (aB r kJ)]; exact r) λ c ys r=>by rw [av (aB r kJ)]; exact r
   intro b o q
   by_cases eb:b=s.heap.objs.size
   ·subst eb;rw [aG] at q;cases q;exact ⟨by show 2<=sizeLine; decide,[.int i s.toks,u],.cons ⟨_,rfl⟩ (.cons ru .nil),⟨_,Kw,rfl,_,rfl⟩⟩
   ·rw [av eb] at q;exact lift b o q
  have I2:Inv X aa σ (upd H s.heap.objs.size (.tup [.int i,x])) {s with heap:=h2,toks:=s.toks+1}:=by
   refine I.step (g':=s.gens) (d':=s.drawn) (ch:=[e,it]) (λ b hb=>?_) (λ b o hL hb hcb q n=>?_) (λ b o hL hb hcb q n=>?_) (λ b o hcb q n=>?_) (λ b o hcb q=>?_) (λ b ys q=>by rw [av (aB q kJ)]; exact q) (λ b o u q=>by rw [av (aB q kJ)]; exact q)
    (λ b ps q=>⟨#[],by rw [av (aB q kJ),q]; simp⟩) (λ m hm=>?_) hok I.bare
   ·rcases List.mem_cons.mp hb with rfl | hb
    ·exact ⟨f3,f1,f4,f5⟩
    ·obtain rfl:b=it:=by simpa using hb
     exact ⟨g3,g1,g4,g5⟩
   ·simp only [mem_cons,not_mem_nil,or_false,not_or] at hcb;exact k2 b o hcb.1 hcb.2 q
   ·simp only [mem_cons,not_mem_nil,or_false,not_or] at hcb;exact ⟨o.slots,k2 b o hcb.1 hcb.2 q⟩
   ·rw [av (Nat.ne_of_lt (Heap.lt_size q))]; exact n
   ·simp only [mem_cons,not_mem_nil,or_false,not_or] at hcb;exact ⟨o,k2 b o hcb.1 hcb.2 q⟩
   ·obtain ⟨o,es,ep,q,r⟩:=hm;exact ⟨o,es,ep,k2 _ o (Ne.symm f1) (Ne.symm g1) q,r⟩
  refine ⟨.ref s.heap.objs.size,_,I2,rfl,⟨_,x,kJ,rfl,rfl,λ ys hy=>by rw [I.iE hy hq]; exact hx⟩,⟨⟨_,by have:=hE; rw [show ((i:Int)+1)=((i+1:Nat):Int) by omega] at this; exact this⟩,?_⟩,λ b hb=>?_⟩
  ·obtain ⟨o,q,r⟩:=hi;exact ⟨o,sb.extBut _ _ (Ne.symm hne) q,r⟩
  ·rcases List.mem_cons.mp hb with rfl | hb
   ·rw [av (Nat.ne_of_lt he')]; exact f0
   ·obtain rfl:b=it:=by simpa using hb
    rw [av (Nat.ne_of_lt hi')]; exact g0
 done:=by
  intro X hP hw hK hc i aa s σ H E I hf st hg;subst hP hw hK;obtain ⟨xs,hq,hx⟩:=hg;obtain ⟨⟨old,he⟩,hit⟩:=st;obtain ⟨its,rv,p,hz⟩:=I.tuple hq;obtain ⟨g0,g1,g2,g3,g4,g5⟩:=hf it (by simp);have hl:=rv.length;exact uh (I.ok.hd hc) he hit (show s.heap.IsTuple a its.toArray from p) (by simp; omega) λ h' eb=>⟨rfl,I.turned (t':=s.toks) (λ b o hb q=>eb b o hb q) g0 g1 g3 g4 g5⟩
 self:=λ _ _ _ _ _ st h=>by
  obtain ⟨⟨old,he⟩,_⟩:=st;exact wpAny_pyIter_enum he h
section
variable {X:Cx}
noncomputable def DB (K:PySem.W.Frag) (ta:TA):TI:=fun σ H R=>ta σ H λ vs H1=>∃a,vs=[.ref a]/\(∃xs,cL K H1 a xs)/\R (Kz K a) H1
theorem vZ {l:Expr} {ta:TA} {p pos tpos:Pos} {elts:List Expr} {x1} (hg:Gl X "enumerate") (hm:X.mg "enumerate"=none) (ha:PA X [l] ta) (hs:starEach [l] X.env=[(false,eval l X.env)]:=by rfl) :
  PI X (.Tuple elts x1 tpos) (.Call (.Name "enumerate" p) [l] [] pos) (DB X.K ta):=by
 intro aa s σ H R I h;refine Call_ (fM I hg hm (u:=.type "enumerate") (by decide +kernel) (PyProof.Rows.callWith_type1 (bQ (ha pos aa s σ H _ I h) λ us s1 ⟨vs,H1,I1,r1,q1⟩=>?_) hs rfl));obtain ⟨a,rfl,⟨xs,hq⟩,q⟩:=q1;obtain ⟨u,rfl,ru⟩:=vals1 r1;cases ru;obtain ⟨its,rv,pl,hz⟩:=I1.tuple hq;refine qj (show s1.heap.IsTuple a its.toArray from pl) λ h' he hit hsz hk=>?_;refine wpAny_pyIter_enum he ?_;have I2:Inv X aa σ H1 {s1 with heap:=h'}:=I1.kept (t':=s1.toks) hk;refine ⟨_,_,_,_,H1,rfl,I2,qk a (s1.heap.objs.size+1) s1.heap.objs.size (Nat.succ_ne_self _),⟨⟨_,he⟩,hit⟩,λ b hb=>?_,q⟩;rcases List.mem_cons.mp hb with rfl | hb
 ·exact I1.lW (Nat.le_succ _) (I1.hok.fresh (Nat.le_succ _))
 ·obtain rfl:b=s1.heap.objs.size:=by simpa using hb
  exact I1.lW (Nat.le_refl _) (I1.hok.fresh (Nat.le_refl _))
end
structure TopD (K:PySem.W.Frag) (w:World) (a:Addr) (kvs:List (Str×V)):Prop where
 ex:∃(es:Array DictEntry) (n:Nat),K.lookup a=some ⟨.type "dict",none,.dict es n,#[]⟩/\PySem.W.KeysLit w.params es.toList/\∀x,eL (kvs.lookup x) (findBy Value.isStrOf es x)
 lo:(a==sysModules)=false
section
variable {X:Cx}
noncomputable def DC (K:PySem.W.Frag) (w:World):R2:=λ x y H Q=>∃z a kvs,x=.str z/\y=.ref a/\TopD K w a kvs/\Q (.bl (kvs.lookup z).isSome) H
noncomputable def uo (K:PySem.W.Frag) (w:World):R2:=λ x y H Q=>∃z a kvs,x=.str z/\y=.ref a/\TopD K w a kvs/\Q (.bl (!(kvs.lookup z).isSome)) H
theorem eL.isSome {o:Option V} {u:Option Value} (r:eL o u):u.isSome=o.isSome:=by
 cases o<;>cases u<;>first | rfl | exact r.elim
theorem lF:fj X (compareOp .In) (DC X.K X.w):=by
 intro aa s σ H x y v u Q I rx ry h;obtain ⟨z,a,kvs,rfl,rfl,T,q⟩:=h;obtain ⟨t,rfl⟩:=rx;cases ry;obtain ⟨es,n,h1,h2,h3⟩:=T.ex;refine wpAny_in_of (strKind_is X.prog X.w z t) T.lo (PySem.W.mapOf_K (prog:=X.prog) I.gA h1 h2) ?_;refine ⟨.bl _,H,I.tok _,rfl,?_⟩;rw [(h3 z).isSome];exact q
theorem gW:fj X (compareOp .NotIn) (uo X.K X.w):=by
 intro aa s σ H x y v u Q I rx ry h;obtain ⟨z,a,kvs,rfl,rfl,T,q⟩:=h;obtain ⟨t,rfl⟩:=rx;cases ry;obtain ⟨es,n,h1,h2,h3⟩:=T.ex;refine wpAny_notIn_of (strKind_is X.prog X.w z t) T.lo (PySem.W.mapOf_K (prog:=X.prog) I.gA h1 h2) ?_;refine ⟨.bl _,H,I.tok _,rfl,?_⟩;rw [(h3 z).isSome];exact q
noncomputable def DE (K:PySem.W.Frag) (w:World):R2:=λ x y H Q=>∃z a kvs v,y=.str z/\x=.ref a/\TopD K w a kvs/\kvs.lookup z=some v/\Q v H
theorem DF:C9 X (DE X.K X.w):=by
 intro value slice aa s σ H x y v u Q I rx ry h hs;obtain ⟨z,a,kvs,o,rfl,rfl,T,hl,q⟩:=h;obtain ⟨t,rfl⟩:=ry;cases rx;obtain ⟨es,n,h1,h2,h3⟩:=T.ex;have r:=h3 z;rw [hl] at r;obtain ⟨u,e,ru⟩:=r.some_of;have hm:=PySem.W.mapOf_K (prog:=X.prog) I.gA h1 h2;exact tail_any hm.typeIs slot_dict_getitem.lookup (wpAny_getItem_of (strKind_is X.prog X.w z t) hm e ⟨o,H,I.tok _,ru,q⟩) hs
end
end L2
end
section
namespace L2
open PySem PySem.Spec PyProof.Rows Builtin Builtin.Str List
theorem v7 (x:Str) (j:Nat):Txt.slice x none (some (j:Int))=⟨(x.cps.toList.take j).toArray⟩:=by
 by_cases h:j<=x.length
 ·show StrLaws.sliceText x none (some (j:Int))=_;rw [StrLaws.sliceText_to ⟨by omega,by simp [Str.length] at h ⊢; omega⟩];simp
 ·have e:strSliceIndices none (some (j:Int)) 1 x.length=strSliceIndices none (some (x.length:Int)) 1 x.length:=by
   have a:¬((j:Int) < 0):=by omega
   have b:¬((x.length:Int) < 0):=by omega
   have c:max (0:Int) (min (j:Int) (x.length:Int))=max 0 (min (x.length:Int) (x.length:Int)):=by omega
   simp only [strSliceIndices,a,b,if_false,c,show (1:Int)>0 by decide,if_true]
  have f:Txt.slice x none (some (j:Int))=Txt.slice x none (some (x.length:Int)):=by
   unfold Txt.slice;rw [e]
  rw [f];show StrLaws.sliceText x none (some (x.length:Int))=_;rw [StrLaws.sliceText_to ⟨by omega,by simp [Str.length]⟩];have l:x.cps.toList.length<=j:=by simp [Str.length] at h ⊢; omega
  rw [take_of_length_le l];have k:x.cps.toList.take x.cps.size=x.cps.toList:=take_of_length_le (by simp);simp [Str.length,k]
theorem v8 (ys:List Str):(Txt.join ⟨#[]⟩ ys).cps.toList=(ys.map λ y=>y.cps.toList).flatten:=by
 cases ys with
 | nil=>rfl
 | cons y r=>
  show ((r.foldl (λ acc p=>acc++#[]++p.cps) y.cps):Array Nat).toList=_;rw [map_cons,flatten_cons];generalize y.cps=acc
  induction r generalizing acc with
  | nil=>simp
  | cons z r ih=>
   rw [foldl_cons,ih];simp
end L2
end
section
namespace HT
open PySem PyProof.Rows List
open PySem.SeqAt List
open PySem.AutoSeq1 (wpAny_loadPart')
open PySem.MeetsSeq PySem.MeetsSeq2 PySem.MeetsSeq3 List
section
variable {prog:Program} {w:World} {A:Around} {E:Value->Shared->Prop} {s:Shared}
theorem gw {t sl:Addr} {items:Array Value} {vl vu:Value} {lo hi:Option Int} {Q:Value->Shared->Prop} (ht:IsTup s.heap t items) (hs:s.heap.IsSliceOf sl vl vu .none) (pl:IsPart vl lo) (pu:IsPart vu hi)
  (h1:bT items.size 0 lo=0) (h2:bT items.size items.size hi=items.size) (h:Q (.ref t) s):wpAny (model prog w) A (getItem (.ref t) (.ref sl)) Q E s:=by
 obtain ⟨os,hos,hcs,hds⟩:=id hs;have J8:s.TypeIs (.ref sl) "slice":=⟨os,hos,hcs⟩;unfold getItem
 try with_reducible refine wpAny_holding ?_
 first | refine wpAny_bind (wpAny_pure ?_) | skip
 refine wpAny_bind (wpAny_sequenceKey ht.typeIs (by decide) ?_);refine wpAny_bind (wpAny_callSpecial?_slot (name:=Str.ofString "__getitem__") ht.typeIs PyProof.Rows.slot_tuple_getitem
  (wpAny_call_entry PyProof.Rows.slot_tuple_getitem ht.typeIs entry_tuple_getitem ?_ (args_tuple_getitem _ _)))
 show wpAny _ _ (Builtin.Tuple.tupleItemsOf (.ref t) >>= _) _ _ s;refine wpAny_bind (tupleItemsOf_ ht ?_);refine wpAny_bind (wpAny_typeOf J8 ?_);rw [if_pos (by decide)];refine wpAny_bind (eO hs pl pu ?_);have hyes:(((bT items.size 0 lo:Nat):Int)==0&&(1:Int)==1&&(bT items.size items.size hi - bT items.size 0 lo)==items.size)=true:=by
  rw [h1,h2]; simp
 show wpAny _ _ (if (((bT items.size 0 lo:Nat):Int)==0&&(1:Int)==1&&(bT items.size items.size hi - bT items.size 0 lo)==items.size)=true then _ else _) _ _ s;rw [if_pos hyes];refine wpAny_bind ?_;unfold Builtin.Tuple.tupleIsExact;refine wpAny_bind (wpAny_typeOf ht.typeIs (wpAny_pure ?_));rw [if_pos (by decide)];exact wpAny_bind (wpAny_rule (wpAny_pure ⟨_,rfl,wpAny_pure h⟩))
end
end HT
namespace L2
open PySem PySem.Spec PyProof.Rows List
theorem zR {X:Cx}:Fd X (λ x lo hi H Q=>∃a xs,x=.ref a/\cL X.K H a xs/\(HT.bT xs.length 0 lo=0/\HT.bT xs.length xs.length hi=xs.length)/\Q (.ref a) H):=by
 intro aa s σ H x v vl vu lo hi sl Q I rx hs pl pu h;obtain ⟨a,xs,rfl,hx,hw,q⟩:=h;cases rx;obtain ⟨its,r,ht,hz⟩:=I.tuple hx;have hlen:its.toArray.size=xs.length:=by rw [List.size_toArray]; exact r.length.symm
 refine ⟨"tuple",_,PyProof.Rows.slot_tuple_getitem.lookup,ht.typeIs,?_⟩;exact HT.gw ht hs pl pu (by rw [hlen]; exact hw.1) (by rw [hlen]; exact hw.2) ⟨.ref a,H,I,rfl,q⟩
end L2
end
section
namespace D
open PySem List
inductive W where
 | non | bl (b:Bool) | int (i:Int) | str (x:Str) | tup (xs:List W) | fz (xs:List W) | obj (c:Str) (ks:List Str) (vs:List W) | ref (n:Nat)
 deriving Inhabited
inductive O where
 | lst (xs:List W) | ins (c:Str) (fs:List (Str×W)) | set (ks:List L2.Key) | dic (fs:List (Str×W))
abbrev Mem:=List O
abbrev Loc:=List (Option W)
inductive R (α:Type) where
 | no
 | ok (a:α) (m:Mem)
@[inline] noncomputable def R.bind {α β:Type} (x:R α) (f:α->Mem->R β):R β:=match x with
 | .no=>.no
 | .ok a m=>f a m
inductive U where
 | jK | mind | kin (kvs:List (Str×W)) | knin (kvs:List (Str×W)) | kget (kvs:List (Str×W)) | dict (ks:List Str) | isc (c:Str)
inductive B where
 | len | abs | max | min | divmod | all | any | list | tuple | int | sorted | sum | repr | str
 deriving DecidableEq
mutual
inductive T where
 | var (i:Nat) | tup (ts:Ts)
inductive Ts where
 | nil | cons (t:T) (ts:Ts)
end
mutual
inductive E where
 | var (i:Nat) | cst (w:W)
 | bin (op:Operator) (a b:E) | neg (a:E) | not (a:E) | and (a b:E) | or (a b:E)
 | cmp (op:CmpOp) (a b:E) | chain (o1 o2:CmpOp) (a b c:E)
 | ife (t a b:E) | tup (es:Es) | lst (es:Es) | idx (a b:E)
 | slc (a:E) (lo hi:Oe)
 | call (f:Nat) (es:Es) | blt (b:B) (es:Es) | isI (a:E) (t:String)
 | meth (o:E) (m:String) (es:Es)
 | comp (g:G)
 | rng (a:E) | rng2 (a b:E) | enm (a:E) | zip (es:Es) | lrng (a:E)
 | frz (a:E) | fld (a:E) (f:Str) | make (c:Str) (es:Es) | mth (o:E) (m:Str) (es:Es) | gJ | fus (u:U) (a:E)
inductive Es where
 | nil | cons (e:E) (es:Es)
inductive Oe where
 | none | some (e:E)
inductive G where
 | elt (e:E) | gen (t:T) (js:List Nat) (it:E) (ifs:Es) (rest:G)
end
mutual
inductive A where
 | pt (t:T) | sub (o i:E) | tup (l:As)
inductive As where
 | nil | cons (a:A) (l:As)
end
mutual
inductive S where
 | asg (t:A) (e:E) | aug (i:Nat) (op:Operator) (e:E) | expr (e:E) | ret (e:E) | retN
 | ife (t:E) (a b:Ss) | for_ (t:T) (it:E) (b:Ss) | while_ (t:E) (b:Ss) | pass | brk | cont | never
 | fas (o:E) (f:Str) (e:E)
inductive Ss where
 | nil | cons (s:S) (r:Ss)
end
noncomputable def lim:Nat:=1000000
noncomputable def new (o:O) (m:Mem):R W:=.ok (.ref m.length) (m++[o])
noncomputable def getL (m:Mem):W->Option (List W)
 | .ref n=>match m[n]? with
  | some (.lst xs)=>some xs
  | _=>none
 | .fz xs=>some xs
 | _=>none
noncomputable def cu (m:Mem):W->Option (List W)
 | .tup xs=>some xs
 | w=>getL m w
noncomputable def dG {α:Type} (f:W->Option α):List W->Option (List α)
 | []=>some []
 | x::xs=>match f x with
  | none=>none
  | some d=>match dG f xs with
   | none=>none
   | some ds=>some (d::ds)
noncomputable def toD:Nat->Mem->W->Option PyData
 | 0,_,_=>none
 | n+1,m,w=>match w with
  | .non=>some .none
  | .bl b=>some (.bool b)
  | .int i=>some (.int i)
  | .str x=>if x.cps.all (· < 0x110000) then some (.str x) else none
  | .tup xs=>(dG (toD n m) xs).map .tuple
  | .fz xs=>(dG (toD n m) xs).map .list
  | .ref a=>match getL m (.ref a) with
   | some xs=>(dG (toD n m) xs).map .list
   | none=>none
  | .obj _ _ _=>none
noncomputable def ql (m:Mem) (x y:W):R Bool:=match toD 60 m x,toD 60 m y with
 | some d,some e=>.ok (PyData.eqv d e) m
 | _,_=>.no
noncomputable def truthy (m:Mem):W->R Bool
 | .non=>.ok false m
 | .bl b=>.ok b m
 | .int i=>.ok (i != 0) m
 | .str x=>if x.length<=lim then .ok ((x.length:Int) != 0) m else .no
 | .tup xs=>.ok (!xs.isEmpty) m
 | .fz xs=>.ok (!xs.isEmpty) m
 | .ref n=>match getL m (.ref n) with
  | some xs=>.ok (!xs.isEmpty) m
  | none=>.no
 | .obj _ _ _=>.no
noncomputable def gD (i j:Int):Bool:=(decide (-(2^64) < i)&&decide (i < 2^64))||(decide (-(2^64) < j)&&decide (j < 2^64))
noncomputable def zS (m:Mem) (x y:W):R W:=match getL m x,getL m y with
 | some xs,some ys=>if xs.length+ys.length<=lim then new (.lst (xs++ys)) m else .no
 | _,_=>.no
noncomputable def Mh (n:Nat) (xs:List W):List W:=(List.replicate n xs).flatten
noncomputable def binop (op:Operator) (x y:W) (m:Mem):R W:=match op with
 | .Add=>match x,y with
  | .int i,.int j=>.ok (.int (i+j)) m
  | .tup xs,.tup ys=>if xs.length+ys.length<=lim then .ok (.tup (xs++ys)) m else .no
  | .str a,.str b=>if a.length+b.length<=lim then .ok (.str (a++b)) m else .no
  | x,y=>zS m x y
 | .Sub=>match x,y with
  | .int i,.int j=>.ok (.int (i - j)) m
  | _,_=>.no
 | .Mult=>match x,y with
  | .int i,.int j=>if gD i j then .ok (.int (i*j)) m else .no
  | _,_=>.no
 | .FloorDiv=>match x,y with
  | .int i,.int j=>if 0 < j/\j < 1073741824 then .ok (.int (i / j)) m else .no
  | _,_=>.no
 | .Mod=>match x,y with
  | .int i,.int j=>if 0 < j then .ok (.int (i%j)) m else .no
  | _,_=>.no
 | .Pow=>match x,y with
  | .int i,.int j=>if 0<=j/\j<=1000000/\i.natAbs < 2^64 then .ok (.int (i^j.toNat)) m else .no
  | _,_=>.no
 | _=>.no
noncomputable def kM (m:Mem) (x:W) (ys:List W):R Bool:=match toD 60 m x,dG (toD 60 m) ys with
 | some d,some es=>.ok (es.any λ e=>PyData.eqv e d) m
 | _,_=>.no
noncomputable def jP (k:L2.Key) (ks:List L2.Key):Bool:=ks.any λ j=>decide (j=k)
noncomputable def v9:W->Option L2.Key
 | .int i=>some (.inl i)
 | .str x=>some (.inr x)
 | _=>none
noncomputable def oi (m:Mem) (x y:W):R Bool:=match y with
 | .str b=>match x with
  | .str a=>.ok (!(Builtin.Str.occurrences b a 0 b.length 1).isEmpty) m
  | _=>.no
 | .ref n=>match m[n]? with
  | some (.lst ys)=>kM m x ys
  | some (.set ks)=>match v9 x with
   | some k=>.ok (jP k ks) m
   | none=>.no
  | some (.dic fs)=>match x with
   | .str z=>.ok (fs.lookup z).isSome m
   | _=>.no
  | _=>.no
 | .fz ys=>kM m x ys
 | .tup ys=>kM m x ys
 | _=>.no
noncomputable def rL:W->Bool
 | .non=>true
 | _=>false
noncomputable def fQ:List W->Option (List Int)
 | []=>some []
 | .int b::r=>(fQ r).map (b::·)
 | _::_=>none
noncomputable def aC (op:CmpOp) (x y:W) (m:Mem):R Bool:=match op with
 | .Eq=>ql m x y
 | .NotEq=>(ql m x y).bind λ b m=>.ok (!b) m
 | .Lt=>match x,y with
  | .int i,.int j=>.ok (decide (i < j)) m
  | .str a,.str b=>.ok (decide (a.cps.toList < b.cps.toList)) m
  | _,_=>.no
 | .LtE=>match x,y with
  | .int i,.int j=>.ok (decide (i<=j)) m
  | .str a,.str b=>.ok (!decide (b.cps.toList < a.cps.toList)) m
  | _,_=>.no
 | .Gt=>match x,y with | .int i,.int j=>.ok (decide (j < i)) m | _,_=>.no
 | .GtE=>match x,y with | .int i,.int j=>.ok (decide (j<=i)) m | _,_=>.no
 | .In=>oi m x y
 | .NotIn=>match y with
  | .ref n=>match m[n]? with
   | some (.lst ys)=>(kM m x ys).bind λ b m=>.ok (!b) m
   | some (.dic fs)=>match x with
    | .str z=>.ok (!(fs.lookup z).isSome) m
    | _=>.no
   | _=>.no
  | .fz ys=>(kM m x ys).bind λ b m=>.ok (!b) m
  | .tup ys=>(kM m x ys).bind λ b m=>.ok (!b) m
  | _=>.no
 | .Is=>match y with
  | .non=>.ok (rL x) m
  | _=>.no
 | .IsNot=>match y with
  | .non=>.ok (!rL x) m
  | _=>.no
noncomputable def bh (x y:W) (m:Mem):R W:=match y with
 | .int i=>match x with
  | .str z=>if z.length<=lim then match L2.nU z.cps.toList i with
   | some c=>.ok (.str ⟨#[c]⟩) m
   | none=>.no else .no
  | x=>match cu m x with
   | some xs=>match L2.nU xs i with
    | some w=>.ok w m
    | none=>.no
   | none=>.no
 | .str z=>match x with
  | .ref n=>match m[n]? with
   | some (.dic fs)=>match fs.lookup z with
    | some w=>.ok w m
    | none=>.no
   | _=>.no
  | _=>.no
 | _=>.no
noncomputable def cN (xs:List W) (lo hi:Option Int):List W:=(xs.drop (HT.bT xs.length 0 lo)).take (HT.bT xs.length xs.length hi - HT.bT xs.length 0 lo)
noncomputable def cK (x:W) (lo hi:Option Int) (m:Mem):R W:=match x with
 | .tup xs=>.ok (.tup (cN xs lo hi)) m
 | .str z=>if z.length<=lim then .ok (.str (Txt.slice z lo hi)) m else .no
 | x=>match getL m x with
  | some xs=>new (.lst (cN xs lo hi)) m
  | none=>.no
noncomputable def oj (o i v:W) (m:Mem):R Unit:=match o,i with
 | .ref n,.int k=>match m[n]? with
  | some (.lst xs)=>match L2.qb xs.length k with
   | some j=>.ok () (m.set n (.lst (xs.set j v)))
   | none=>.no
  | _=>.no
 | _,_=>.no
noncomputable def bools:List W->Option (List Bool)
 | []=>some []
 | .bl b::r=>(bools r).map (b::·)
 | _::_=>none
noncomputable def gX (m:Mem) (t:String):W->Option Bool
 | .non=>some (t=="NoneType")
 | .bl _=>some (t=="bool"||t=="int")
 | .int _=>some (t=="int")
 | .str _=>some (t=="str")
 | .tup _=>some (t=="tuple")
 | .fz _=>some (t=="list")
 | .ref n=>match m[n]? with
  | some (.lst _)=>some (t=="list")
  | _=>none
 | .obj _ _ _=>none
noncomputable def wc:W->Option (List Int)
 | .tup xs=>fQ xs
 | _=>none
noncomputable def dI:List W->Option (List Str)
 | []=>some []
 | .str b::r=>(dI r).map (b::·)
 | _::_=>none
noncomputable def Gw:PyData->Bool
 | .list _=>true
 | .tuple _=>true
 | _=>false
noncomputable def Ff (d:PyData):Bool:=Gw d&&d.layable0&&d.intsShort 13&&d.showable&&!d.hasDict&&decide (d.depth<=60)
noncomputable def bu (b:B) (xs:List W) (m:Mem):R W:=match b with
 | .len=>match xs with
  | [x]=>match x with
   | .str z=>if z.length<=lim then .ok (.int z.length) m else .no
   | x=>match cu m x with
    | some ys=>.ok (.int ys.length) m
    | none=>.no
  | _=>.no
 | .abs=>match xs with
  | [.int i]=>.ok (.int (if i < 0 then -i else i)) m
  | _=>.no
 | .max=>match xs with
  | [.int i,.int j]=>.ok (.int (if j>i then j else i)) m
  | _=>.no
 | .min=>match xs with
  | [.int i,.int j]=>.ok (.int (if j < i then j else i)) m
  | _=>.no
 | .divmod=>match xs with
  | [.int i,.int j]=>if 0 < j/\j < 1073741824 then .ok (.tup [.int (i / j),.int (i%j)]) m else .no
  | _=>.no
 | .all=>match xs with
  | [x]=>match getL m x with
   | some ys=>match bools ys with
    | some bs=>.ok (.bl (bs.all id)) m
    | none=>.no
   | none=>.no
  | _=>.no
 | .list=>match xs with
  | [x]=>match cu m x with
   | some ys=>new (.lst ys) m
   | none=>.no
  | _=>.no
 | .tuple=>match xs with
  | [x]=>match cu m x with
   | some ys=>.ok (.tup ys) m
   | none=>.no
  | _=>.no
 | .int=>match xs with
  | [.int i]=>.ok (.int i) m
  | [.bl b]=>.ok (.int (if b then 1 else 0)) m
  | [.str z]=>match intText? z with
   | some n=>if z.length<=640 then .ok (.int n) m else .no
   | none=>.no
  | _=>.no
 | .str=>match xs with
  | [.int i]=>if i.natAbs.log2 < 1920 then .ok (.str (Str.ofString (toString i))) m else .no
  | [.str z]=>.ok (.str z) m
  | _=>.no
 | .repr=>match xs with
  | [x]=>match toD 60 m x with
   | some d=>if Ff d=true then .ok (.str d.shown) m else .no
   | none=>.no
  | _=>.no
 | _=>.no
noncomputable def qm (xs:List W) (m:Mem):R W:=match fQ xs with
 | some ns=>if ns.length<=4000 then .ok (.int (L2.unlike ns)) m else .no
 | none=>.no
noncomputable def Mi (f:List W->List (List Int)->R W) (x:W) (m:Mem):R W:=match getL m x with
 | none=>.no
 | some ys=>match dG wc ys with
  | none=>.no
  | some Iz=>f ys Iz
noncomputable def qp (ks:List Str) (x:W) (m:Mem):R W:=match x with
 | .tup ws=>if ks.length=ws.length/\ks.Nodup/\ks.length<=15 then new (.dic (ks.zip ws)) m else .no
 | _=>.no
noncomputable def i8 (m:Mem):W->Option (Str×List (Str×W))
 | .ref n=>match m[n]? with
  | some (.ins c fs)=>some (c,fs)
  | _=>none
 | .obj c ks vs=>some (c,ks.zip vs)
 | _=>none
noncomputable def Bx (c:Str) (x:W) (m:Mem):R W:=match i8 m x with
 | some (d,_)=>if d=c then .ok (.bl true) m else .no
 | none=>.no
noncomputable def dB (u:U) (x:W) (m:Mem):R W:=match u with
 | .jK=>match x with
  | .tup xs=>qm xs m
  | _=>.no
 | .mind=>.no
 | .kin kvs=>match x with
  | .str z=>.ok (.bl (kvs.lookup z).isSome) m
  | _=>.no
 | .knin kvs=>match x with
  | .str z=>.ok (.bl (!(kvs.lookup z).isSome)) m
  | _=>.no
 | .kget kvs=>match x with
  | .str z=>match kvs.lookup z with
   | some w=>.ok w m
   | none=>.no
  | _=>.no
 | .dict ks=>qp ks x m
 | .isc c=>Bx c x m
noncomputable def gY (n:Nat) (ys xs:List W) (m:Mem):R W:=match xs with
 | [x]=>if ys.length < lim then .ok .non (m.set n (.lst (ys++[x]))) else .no
 | _=>.no
noncomputable def rM (n:Nat) (xs:List W) (m:Mem):R W:=match xs with
 | []=>.ok .non (m.set n (.lst []))
 | _=>.no
noncomputable def uq (n:Nat) (ys xs:List W) (m:Mem):R W:=match xs with
 | []=>.ok .non (m.set n (.lst ys.reverse))
 | _=>.no
noncomputable def rN (n:Nat) (ys xs:List W) (m:Mem):R W:=match xs with
 | []=>match ys[ys.length - 1]? with
  | some y=>.ok y (m.set n (.lst ys.dropLast))
  | none=>.no
 | [.int i]=>if -(2^63)<=i/\i < 2^63 then match seqIndex? i ys.length with
  | some k=>match ys[k]? with
   | some y=>.ok y (m.set n (.lst (ys.eraseIdx k)))
   | none=>.no
  | none=>.no else .no
 | _=>.no
noncomputable def we (n:Nat) (ys xs:List W) (m:Mem):R W:=match xs with
 | [.ref b]=>match m[b]? with
  | some (.lst zs)=>if ys.length+zs.length<=lim then .ok .non (m.set n (.lst (ys++zs))) else .no
  | _=>.no
 | _=>.no
noncomputable def gZ (n:Nat) (ys xs:List W) (m:Mem):R W:=match xs with
 | [.int i,y]=>if 0<=i/\i<=ys.length/\ys.length < lim then .ok .non (m.set n (.lst (ys.take i.toNat++[y]++ys.drop i.toNat))) else .no
 | _=>.no
noncomputable def mF (ys xs:List W) (m:Mem):R W:=match xs with
 | [x]=>match x with
  | .str z=>match dI ys with
   | some ss=>.ok (.int (ss.count z)) m
   | none=>.no
  | _=>.no
 | _=>.no
noncomputable def dJ (n:Nat) (ys:List W) (name:String) (xs:List W) (m:Mem):R W:=
 if name="append" then gY n ys xs m
 else if name="clear" then rM n xs m
 else if name="reverse" then uq n ys xs m
 else if name="pop" then rN n ys xs m
 else if name="extend" then we n ys xs m
 else if name="insert" then gZ n ys xs m
 else if name="count" then mF ys xs m
 else .no
noncomputable def jQ (z:Str) (xs:List W) (m:Mem):R W:=match xs with
 | [x]=>match getL m x with
  | some ys=>match dI ys with
   | some ss=>if (ss.map (·.length)).sum+ss.length*z.length<=16777216 then .ok (.str (Txt.join z ss)) m else .no
   | none=>.no
  | none=>.no
 | _=>.no
noncomputable def wg (z:Str) (xs:List W) (m:Mem):R W:=match xs with
 | [.str y]=>match (Builtin.Str.occurrences z y 0 z.length 1).head? with
  | some p=>.ok (.int (p:Nat)) m
  | none=>.no
 | _=>.no
noncomputable def mG (z:Str) (xs:List W) (m:Mem):R W:=match xs with
 | [.str y]=>.ok (.bl (Txt.endswith z y)) m
 | _=>.no
noncomputable def jy (z:Str) (xs:List W) (m:Mem):R W:=match xs with
 | [.str y]=>if y.length=1/\z.length<=lim then new (.lst ((Txt.split z y).map .str)) m else .no
 | _=>.no
noncomputable def i9 (z:Str) (name:String) (xs:List W) (m:Mem):R W:=
 if name="join" then jQ z xs m
 else if name="index" then wg z xs m
 else if name="endswith" then mG z xs m
 else if name="split" then jy z xs m
 else .no
noncomputable def wj (n:Nat) (ks:List L2.Key) (xs:List W) (m:Mem):R W:=match xs with
 | [x]=>match v9 x with
  | some k=>if ks.length < 4000 then .ok .non (m.set n (.set (if jP k ks then ks else ks++[k]))) else .no
  | none=>.no
 | _=>.no
noncomputable def gi (n:Nat) (ks:List L2.Key) (name:String) (xs:List W) (m:Mem):R W:=
 if name="add" then wj n ks xs m
 else .no
noncomputable def br (o:W) (name:String) (xs:List W) (m:Mem):R W:=match o with
 | .ref n=>match m[n]? with
  | some (.lst ys)=>dJ n ys name xs m
  | some (.set ks)=>gi n ks name xs m
  | _=>.no
 | .str z=>i9 z name xs m
 | _=>.no
inductive Kd where
 | lst | str | set | no
 deriving DecidableEq
noncomputable def kdOf (m:Mem):W->Kd
 | .ref n=>match m[n]? with
  | some (.lst _)=>.lst
  | some (.set _)=>.set
  | _=>.no
 | .str _=>.str
 | _=>.no
noncomputable def iI (name:String):Kd:=if name="join"\/name="index"\/name="endswith"\/name="split" then .str else if name="add" then .set else .lst
mutual
noncomputable def jz (g:Nat->Option W):W->Option W
 | .tup xs=>(ef g xs).map .tup
 | .fz xs=>(ef g xs).map .fz
 | .obj c ks vs=>(ef g vs).map (.obj c ks)
 | .ref n=>g n
 | .non=>some .non
 | .bl b=>some (.bl b)
 | .int i=>some (.int i)
 | .str x=>some (.str x)
noncomputable def ef (g:Nat->Option W):List W->Option (List W)
 | []=>some []
 | x::r=>match jz g x with
  | none=>none
  | some y=>match ef g r with
   | none=>none
   | some ys=>some (y::ys)
end
noncomputable def nH (m:Mem) (k:Nat):Nat->Nat->Option W
 | 0,a=>if a < k then some (.ref a) else none
 | n+1,a=>if a < k then some (.ref a) else match m[a]? with
  | some (.lst xs)=>(ef (nH m k n) xs).map .fz
  | some (.ins c fs)=>(ef (nH m k n) (fs.map (·.2))).map (.obj c (fs.map (·.1)))
  | _=>none
mutual
noncomputable def fH (k:Nat):W->Bool
 | .tup xs=>cB k xs
 | .fz xs=>cB k xs
 | .obj _ _ vs=>cB k vs
 | .ref n=>decide (n < k)
 | .non=>true
 | .bl _=>true
 | .int _=>true
 | .str _=>true
noncomputable def cB (k:Nat):List W->Bool
 | []=>true
 | x::r=>fH k x&&cB k r
end
noncomputable def eS (k:Nat):O->Bool
 | .lst xs=>cB k xs
 | .ins _ fs=>cB k (fs.map (·.2))
 | .set _=>true
 | .dic fs=>cB k (fs.map (·.2))
noncomputable def ur (k:Nat) (m:Mem):Bool:=m.all (eS k)
noncomputable def uu (m:Mem) (r:R W):R W:=match r with
 | .no=>.no
 | .ok w m1=>if m.length<=m1.length/\ur m.length (m1.take m.length)=true then match jz (nH m1 m.length 8) w with
  | some w1=>.ok w1 (m1.take m.length)
  | none=>.no else .no
noncomputable def bY:List Nat->Loc->Loc
 | [],ρ=>ρ
 | j::r,ρ=>bY r (ρ.set j none)
mutual
noncomputable def aV:T->W->Loc->Option Loc
 | .var i,w,ρ=>some (ρ.set i (some w))
 | .tup ts,w,ρ=>match w with
  | .tup xs=>cZ ts xs ρ
  | .fz xs=>cZ ts xs ρ
  | _=>none
noncomputable def cZ:Ts->List W->Loc->Option Loc
 | .nil,xs,ρ=>match xs with
  | []=>some ρ
  | _::_=>none
 | .cons t ts,xs,ρ=>match xs with
  | []=>none
  | x::xs=>match aV t x ρ with
   | some ρ=>cZ ts xs ρ
   | none=>none
end
inductive Src where
 | lst (n:Nat) | tup (xs:List W) | rng (lo:Int) (k:Nat) | enm (s:Src) | zip (ss:List Src)
inductive Nx where
 | bad | fin | it (w:W)
inductive LB where
 | bad | fin | its (ws:List W)
mutual
noncomputable def Src.get:Src->Mem->Nat->Nx
 | .lst n,m,i=>match getL m (.ref n) with
  | some xs=>match xs[i]? with
   | some w=>.it w
   | none=>.fin
  | none=>.bad
 | .tup xs,_,i=>match xs[i]? with
  | some w=>.it w
  | none=>.fin
 | .rng lo k,_,i=>if i < k then .it (.int (lo+i)) else .fin
 | .enm s,m,i=>match s.get m i with
  | .it w=>.it (.tup [.int i,w])
  | .fin=>.fin
  | .bad=>.bad
 | .zip ss,m,i=>match Src.jm ss m i with
  | .its ws=>.it (.tup ws)
  | .fin=>.fin
  | .bad=>.bad
noncomputable def Src.jm:List Src->Mem->Nat->LB
 | [],_,_=>.its []
 | s::ss,m,i=>match s.get m i,Src.jm ss m i with
  | .bad,_=>.bad
  | _,.bad=>.bad
  | .it w,.its ws=>.its (w::ws)
  | _,_=>.fin
end
mutual
noncomputable def Src.len:Src->Mem->Nat
 | .lst n,m=>match getL m (.ref n) with
  | some xs=>xs.length
  | none=>0
 | .tup xs,_=>xs.length
 | .rng _ k,_=>k
 | .enm s,m=>s.len m
 | .zip ss,m=>Src.lens ss m
noncomputable def Src.lens:List Src->Mem->Nat
 | [],_=>0
 | s::ss,m=>max (s.len m) (Src.lens ss m)
end
noncomputable def srcOf (m:Mem):W->Option Src
 | .tup xs=>some (.tup xs)
 | .fz xs=>some (.tup xs)
 | .ref n=>match getL m (.ref n) with
  | some _=>some (.lst n)
  | none=>none
 | _=>none
noncomputable def mH (m:Mem):List W->Option (List Src)
 | []=>some []
 | w::ws=>match srcOf m w with
  | none=>none
  | some s=>match mH m ws with
   | none=>none
   | some ss=>some (s::ss)
noncomputable def signs (z:Str):List W:=z.cps.toList.map λ c=>W.str ⟨#[c]⟩
noncomputable def qq (m:Mem):W->Option Src
 | .str z=>if L2.asc z then some (.tup (signs z)) else none
 | w=>srcOf m w
set_option genInjectivity false in
structure Cs where
 flds:List (Str×Str)
 mths:List ((Str×Str)×Nat)
 ini:List (Str×Nat)
 dic:List (Str×List (Str×W)):=[]
 isc:List Str:=[]
set_option genInjectivity false in
structure Cx where
 call:Nat->List W->Mem->R W
 fuel:Nat
 cs:Cs
noncomputable def lG (cs:Cs) (x:W) (f:Str) (m:Mem):R W:=match i8 m x with
 | some (c,fs)=>if cs.flds.contains (c,f) then match fs.lookup f with
  | some w=>.ok w m
  | none=>.no else .no
 | none=>.no
noncomputable def g6 (cs:Cs) (x:W) (f:Str) (m:Mem):Option Nat:=match i8 m x with
 | some (c,fs)=>if (fs.lookup f).isNone then cs.mths.lookup (c,f) else none
 | none=>none
noncomputable def dM (f:Str) (v:W):List (Str×W)->List (Str×W)
 | []=>[(f,v)]
 | (g,x)::r=>if g=f then (g,v)::r else (g,x)::dM f v r
noncomputable def om (cs:Cs) (x:W) (f:Str) (v:W) (m:Mem):R Unit:=match x with
 | .ref n=>match m[n]? with
  | some (.ins c fs)=>if cs.flds.contains (c,f)/\fs.length < 1000 then .ok () (m.set n (.ins c (dM f v fs))) else .no
  | _=>.no
 | _=>.no
noncomputable def fR (C:Cx) (c:Str) (ws:List W) (m:Mem):R W:=match C.cs.ini.lookup c with
 | some i=>(C.call i (.ref m.length::ws) (m++[.ins c []])).bind λ w m1=>match w with
  | .non=>.ok (.ref m.length) m1
  | _=>.no
 | none=>.no
inductive F where
 | nx (ρ:Loc) | rt (w:W) | bk (ρ:Loc) | ct (ρ:Loc)
noncomputable def gy (get:Mem->Nat->Nx) (t:T) (body:Loc->Mem->R F):Nat->Nat->Loc->Mem->R F
 | k,i,ρ,m=>match get m i with
  | .bad=>.no
  | .fin=>.ok (.nx ρ) m
  | .it x=>match k with
   | 0=>.no
   | k+1=>match aV t x ρ with
    | none=>.no
    | some ρ=>(body ρ m).bind λ f m=>match f with
     | .nx ρ=>gy get t body k (i+1) ρ m
     | .ct ρ=>gy get t body k (i+1) ρ m
     | .bk ρ=>.ok (.nx ρ) m
     | .rt w=>.ok (.rt w) m
noncomputable def eB (c:Loc->Mem->R Bool) (body:Loc->Mem->R F):Nat->Loc->Mem->R F
 | 0,_,_=>.no
 | k+1,ρ,m=>(c ρ m).bind λ b m=>if b then (body ρ m).bind λ f m=>match f with
   | .nx ρ=>eB c body k ρ m
   | .ct ρ=>eB c body k ρ m
   | .bk ρ=>.ok (.nx ρ) m
   | .rt w=>.ok (.rt w) m
  else .ok (.nx ρ) m
noncomputable def cC (get:Mem->Nat->Nx) (t:T) (test:Loc->Mem->R Bool) (body:Loc->Mem->List W->R (List W×Loc)):Nat->Nat->Loc->Mem->List W->R (List W×Loc)
 | k,i,ρ,m,acc=>match get m i with
  | .bad=>.no
  | .fin=>.ok (acc,ρ) m
  | .it x=>match k with
   | 0=>.no
   | k+1=>match aV t x ρ with
    | none=>.no
    | some ρ=>(test ρ m).bind λ b m=>if b then (body ρ m acc).bind λ p m=>cC get t test body k (i+1) p.2 m p.1 else cC get t test body k (i+1) ρ m acc
noncomputable def fE (x:W) (m:Mem):R Src:=match qq m x with
 | some s=>.ok s m
 | none=>.no
mutual
noncomputable def ai (C:Cx):E->Loc->Mem->R W
 | .var i,ρ,m=>match ρ[i]? with
  | some (some w)=>.ok w m
  | _=>.no
 | .cst w,_,m=>.ok w m
 | .bin op a b,ρ,m=>(ai C a ρ m).bind λ x m=>(ai C b ρ m).bind λ y m=>binop op x y m
 | .neg a,ρ,m=>(ai C a ρ m).bind λ x m=>match x with
  | .int i=>.ok (.int (-i)) m
  | _=>.no
 | .not a,ρ,m=>(ai C a ρ m).bind λ x m=>match x with
  | .bl b=>.ok (.bl (!b)) m
  | _=>.no
 | .and a b,ρ,m=>(ai C a ρ m).bind λ x m=>match x with
  | .bl c=>if c then ai C b ρ m else .ok (.bl false) m
  | _=>.no
 | .or a b,ρ,m=>(ai C a ρ m).bind λ x m=>match x with
  | .bl c=>if c then .ok (.bl true) m else ai C b ρ m
  | _=>.no
 | .cmp op a b,ρ,m=>(ai C a ρ m).bind λ x m=>(ai C b ρ m).bind λ y m=>(aC op x y m).bind λ c m=>.ok (.bl c) m
 | .chain o1 o2 a b c,ρ,m=>(ai C a ρ m).bind λ x m=>(ai C b ρ m).bind λ y m=>(aC o1 x y m).bind λ k m=>
   if k then (ai C c ρ m).bind λ z m=>(aC o2 y z m).bind λ k m=>.ok (.bl k) m else .ok (.bl false) m
 | .ife t a b,ρ,m=>(aT C t ρ m).bind λ c m=>if c then ai C a ρ m else ai C b ρ m
 | .tup es,ρ,m=>(bg C es ρ m).bind λ ws m=>if ws.length<=lim then .ok (.tup ws) m else .no
 | .lst es,ρ,m=>(bg C es ρ m).bind λ ws m=>if ws.length<=lim then new (.lst ws) m else .no
 | .idx a b,ρ,m=>(ai C a ρ m).bind λ x m=>(ai C b ρ m).bind λ y m=>bh x y m
 | .slc a lo hi,ρ,m=>(ai C a ρ m).bind λ x m=>(kN C lo ρ m).bind λ l m=>(kN C hi ρ m).bind λ u m=>cK x l u m
 | .call f es,ρ,m=>(bg C es ρ m).bind λ ws m=>C.call f ws m
 | .blt b es,ρ,m=>(bg C es ρ m).bind λ ws m=>bu b ws m
 | .isI a t,ρ,m=>(ai C a ρ m).bind λ x m=>match gX m t x with
  | some b=>.ok (.bl b) m
  | none=>.no
 | .meth o name es,ρ,m=>(ai C o ρ m).bind λ x m=>if kdOf m x=iI name then (bg C es ρ m).bind λ ws m=>br x name ws m else .no
 | .comp g,ρ,m=>(gE C g ρ m []).bind λ p m=>new (.lst p.1) m
 | .lrng a,ρ,m=>(ai C a ρ m).bind λ x m=>match x with
  | .int j=>if 0<=j/\j<=1000000 then new (.lst ((List.range j.toNat).map λ i=>W.int (i:Nat))) m else .no
  | _=>.no
 | .frz a,ρ,m=>uu m (ai C a ρ m)
 | .fld a f,ρ,m=>(ai C a ρ m).bind λ x m=>lG C.cs x f m
 | .make c es,ρ,m=>(bg C es ρ m).bind λ ws m=>fR C c ws m
 | .mth o f es,ρ,m=>(ai C o ρ m).bind λ x m=>match g6 C.cs x f m with
  | some i=>(bg C es ρ m).bind λ ws m=>C.call i (x::ws) m
  | none=>.no
 | .gJ,_,m=>new (.set []) m
 | .fus u a,ρ,m=>(ai C a ρ m).bind λ x m=>dB u x m
 | .rng _,_,_=>.no
 | .rng2 _ _,_,_=>.no
 | .enm _,_,_=>.no
 | .zip _,_,_=>.no
noncomputable def bg (C:Cx):Es->Loc->Mem->R (List W)
 | .nil,_,m=>.ok [] m
 | .cons e es,ρ,m=>(ai C e ρ m).bind λ w m=>(bg C es ρ m).bind λ ws m=>.ok (w::ws) m
noncomputable def kN (C:Cx):Oe->Loc->Mem->R (Option Int)
 | .none,_,m=>.ok none m
 | .some e,ρ,m=>(ai C e ρ m).bind λ w m=>match w with
  | .int i=>.ok (some i) m
  | _=>.no
noncomputable def aT (C:Cx):E->Loc->Mem->R Bool
 | .and a b,ρ,m=>(aT C a ρ m).bind λ c m=>if c then aT C b ρ m else .ok false m
 | .or a b,ρ,m=>(aT C a ρ m).bind λ c m=>if c then .ok true m else aT C b ρ m
 | .not a,ρ,m=>(aT C a ρ m).bind λ c m=>.ok (!c) m
 | .cmp op a b,ρ,m=>(ai C a ρ m).bind λ x m=>(ai C b ρ m).bind λ y m=>aC op x y m
 | .chain o1 o2 a b c,ρ,m=>(ai C a ρ m).bind λ x m=>(ai C b ρ m).bind λ y m=>(aC o1 x y m).bind λ k m=>
   if k then (ai C c ρ m).bind λ z m=>aC o2 y z m else .ok false m
 | .ife t a b,ρ,m=>(aT C t ρ m).bind λ c m=>if c then aT C a ρ m else aT C b ρ m
 | .var i,ρ,m=>R.bind (match ρ[i]? with
   | some (some w)=>.ok w m
   | _=>.no) λ w m=>truthy m w
 | .cst w,_,m=>R.bind (.ok w m) λ w m=>truthy m w
 | .bin op a b,ρ,m=>R.bind ((ai C a ρ m).bind λ x m=>(ai C b ρ m).bind λ y m=>binop op x y m) λ w m=>truthy m w
 | .neg a,ρ,m=>R.bind ((ai C a ρ m).bind λ x m=>match x with
   | .int i=>.ok (.int (-i)) m
   | _=>.no) λ w m=>truthy m w
 | .tup es,ρ,m=>R.bind ((bg C es ρ m).bind λ ws m=>if ws.length<=lim then .ok (.tup ws) m else .no) λ w m=>truthy m w
 | .lst es,ρ,m=>R.bind ((bg C es ρ m).bind λ ws m=>if ws.length<=lim then new (.lst ws) m else .no) λ w m=>truthy m w
 | .idx a b,ρ,m=>R.bind ((ai C a ρ m).bind λ x m=>(ai C b ρ m).bind λ y m=>bh x y m) λ w m=>truthy m w
 | .slc a lo hi,ρ,m=>R.bind ((ai C a ρ m).bind λ x m=>(kN C lo ρ m).bind λ l m=>(kN C hi ρ m).bind λ u m=>cK x l u m) λ w m=>truthy m w
 | .call f es,ρ,m=>R.bind ((bg C es ρ m).bind λ ws m=>C.call f ws m) λ w m=>truthy m w
 | .blt b es,ρ,m=>R.bind ((bg C es ρ m).bind λ ws m=>bu b ws m) λ w m=>truthy m w
 | .isI a t,ρ,m=>R.bind ((ai C a ρ m).bind λ x m=>match gX m t x with
   | some b=>.ok (.bl b) m
   | none=>.no) λ w m=>truthy m w
 | .meth o name es,ρ,m=>R.bind ((ai C o ρ m).bind λ x m=>if kdOf m x=iI name then (bg C es ρ m).bind λ ws m=>br x name ws m else .no) λ w m=>truthy m w
 | .comp g,ρ,m=>R.bind ((gE C g ρ m []).bind λ p m=>new (.lst p.1) m) λ w m=>truthy m w
 | .lrng a,ρ,m=>R.bind ((ai C a ρ m).bind λ x m=>match x with
   | .int j=>if 0<=j/\j<=1000000 then new (.lst ((List.range j.toNat).map λ i=>W.int (i:Nat))) m else .no
   | _=>.no) λ w m=>truthy m w
 | .frz a,ρ,m=>R.bind (uu m (ai C a ρ m)) λ w m=>truthy m w
 | .fld a f,ρ,m=>R.bind ((ai C a ρ m).bind λ x m=>lG C.cs x f m) λ w m=>truthy m w
 | .make c es,ρ,m=>R.bind ((bg C es ρ m).bind λ ws m=>fR C c ws m) λ w m=>truthy m w
 | .mth o f es,ρ,m=>R.bind ((ai C o ρ m).bind λ x m=>match g6 C.cs x f m with
   | some i=>(bg C es ρ m).bind λ ws m=>C.call i (x::ws) m
   | none=>.no) λ w m=>truthy m w
 | .gJ,_,m=>R.bind (new (.set []) m) λ w m=>truthy m w
 | .fus u a,ρ,m=>R.bind ((ai C a ρ m).bind λ x m=>dB u x m) λ w m=>truthy m w
 | .rng _,_,_=>R.bind (.no) λ w m=>truthy m w
 | .rng2 _ _,_,_=>R.bind (.no) λ w m=>truthy m w
 | .enm _,_,_=>R.bind (.no) λ w m=>truthy m w
 | .zip _,_,_=>R.bind (.no) λ w m=>truthy m w
noncomputable def cz (C:Cx):E->Loc->Mem->R Src
 | .rng a,ρ,m=>(ai C a ρ m).bind λ x m=>match x with
  | .int j=>if -(2^62)<=j/\j < 2^62 then .ok (.rng 0 j.toNat) m else .no
  | _=>.no
 | .rng2 a b,ρ,m=>(ai C a ρ m).bind λ x m=>(ai C b ρ m).bind λ y m=>match x,y with
  | .int i,.int j=>if -(2^62)<=i/\i < 2^62/\-(2^62)<=j/\j < 2^62 then .ok (.rng i (j - i).toNat) m else .no
  | _,_=>.no
 | .enm a,ρ,m=>(ai C a ρ m).bind λ x m=>match srcOf m x with
  | some s=>.ok (.enm s) m
  | none=>.no
 | .zip es,ρ,m=>(bg C es ρ m).bind λ xs m=>match mH m xs with
  | some ss=>.ok (.zip ss) m
  | none=>.no
 | .var i,ρ,m=>R.bind (match ρ[i]? with
   | some (some w)=>.ok w m
   | _=>.no) fE
 | .cst w,_,m=>R.bind (.ok w m) fE
 | .bin op a b,ρ,m=>R.bind ((ai C a ρ m).bind λ x m=>(ai C b ρ m).bind λ y m=>binop op x y m) fE
 | .neg a,ρ,m=>R.bind ((ai C a ρ m).bind λ x m=>match x with
   | .int i=>.ok (.int (-i)) m
   | _=>.no) fE
 | .not a,ρ,m=>R.bind ((ai C a ρ m).bind λ x m=>match x with
   | .bl b=>.ok (.bl (!b)) m
   | _=>.no) fE
 | .and a b,ρ,m=>R.bind ((ai C a ρ m).bind λ x m=>match x with
   | .bl c=>if c then ai C b ρ m else .ok (.bl false) m
   | _=>.no) fE
 | .or a b,ρ,m=>R.bind ((ai C a ρ m).bind λ x m=>match x with
   | .bl c=>if c then .ok (.bl true) m else ai C b ρ m
   | _=>.no) fE
 | .cmp op a b,ρ,m=>R.bind ((ai C a ρ m).bind λ x m=>(ai C b ρ m).bind λ y m=>(aC op x y m).bind λ c m=>.ok (.bl c) m) fE
 | .chain o1 o2 a b c,ρ,m=>R.bind ((ai C a ρ m).bind λ x m=>(ai C b ρ m).bind λ y m=>(aC o1 x y m).bind λ k m=>
    if k then (ai C c ρ m).bind λ z m=>(aC o2 y z m).bind λ k m=>.ok (.bl k) m else .ok (.bl false) m) fE
 | .ife t a b,ρ,m=>R.bind ((aT C t ρ m).bind λ c m=>if c then ai C a ρ m else ai C b ρ m) fE
 | .tup es,ρ,m=>R.bind ((bg C es ρ m).bind λ ws m=>if ws.length<=lim then .ok (.tup ws) m else .no) fE
 | .lst es,ρ,m=>R.bind ((bg C es ρ m).bind λ ws m=>if ws.length<=lim then new (.lst ws) m else .no) fE
 | .idx a b,ρ,m=>R.bind ((ai C a ρ m).bind λ x m=>(ai C b ρ m).bind λ y m=>bh x y m) fE
 | .slc a lo hi,ρ,m=>R.bind ((ai C a ρ m).bind λ x m=>(kN C lo ρ m).bind λ l m=>(kN C hi ρ m).bind λ u m=>cK x l u m) fE
 | .call f es,ρ,m=>R.bind ((bg C es ρ m).bind λ ws m=>C.call f ws m) fE
 | .blt b es,ρ,m=>R.bind ((bg C es ρ m).bind λ ws m=>bu b ws m) fE
 | .isI a t,ρ,m=>R.bind ((ai C a ρ m).bind λ x m=>match gX m t x with
   | some b=>.ok (.bl b) m
   | none=>.no) fE
 | .meth o name es,ρ,m=>R.bind ((ai C o ρ m).bind λ x m=>if kdOf m x=iI name then (bg C es ρ m).bind λ ws m=>br x name ws m else .no) fE
 | .comp g,ρ,m=>R.bind ((gE C g ρ m []).bind λ p m=>new (.lst p.1) m) fE
 | .lrng a,ρ,m=>R.bind ((ai C a ρ m).bind λ x m=>match x with
   | .int j=>if 0<=j/\j<=1000000 then new (.lst ((List.range j.toNat).map λ i=>W.int (i:Nat))) m else .no
   | _=>.no) fE
 | .frz a,ρ,m=>R.bind (uu m (ai C a ρ m)) fE
 | .fld a f,ρ,m=>R.bind ((ai C a ρ m).bind λ x m=>lG C.cs x f m) fE
 | .make c es,ρ,m=>R.bind ((bg C es ρ m).bind λ ws m=>fR C c ws m) fE
 | .mth o f es,ρ,m=>R.bind ((ai C o ρ m).bind λ x m=>match g6 C.cs x f m with
   | some i=>(bg C es ρ m).bind λ ws m=>C.call i (x::ws) m
   | none=>.no) fE
 | .gJ,_,m=>R.bind (new (.set []) m) fE
 | .fus u a,ρ,m=>R.bind ((ai C a ρ m).bind λ x m=>dB u x m) fE
noncomputable def gE (C:Cx):G->Loc->Mem->List W->R (List W×Loc)
 | .elt e,ρ,m,acc=>(ai C e ρ m).bind λ w m=>if acc.length < lim then .ok (acc++[w],ρ) m else .no
 | .gen t js it ifs rest,ρ,m,acc=>(cz C it ρ m).bind λ s m=>cC s.get t (fun ρ m=>bz C ifs ρ m) (fun ρ m acc=>gE C rest ρ m acc) (s.len m) 0 (bY js ρ) m acc
noncomputable def bz (C:Cx):Es->Loc->Mem->R Bool
 | .nil,_,m=>.ok true m
 | .cons e es,ρ,m=>(aT C e ρ m).bind λ b m=>if b then bz C es ρ m else .ok false m
end
mutual
noncomputable def fK (C:Cx):A->W->Loc->Mem->R Loc
 | .pt t,w,ρ,m=>match aV t w ρ with
  | some ρ=>.ok ρ m
  | none=>.no
 | .sub o i,w,ρ,m=>(ai C o ρ m).bind λ x m=>(ai C i ρ m).bind λ y m=>(oj x y w m).bind λ _ m=>.ok ρ m
 | .tup l,w,ρ,m=>match cu m w with
  | some xs=>eE C l xs ρ m
  | none=>.no
noncomputable def eE (C:Cx):As->List W->Loc->Mem->R Loc
 | .nil,xs,ρ,m=>match xs with
  | []=>.ok ρ m
  | _::_=>.no
 | .cons a l,xs,ρ,m=>match xs with
  | []=>.no
  | x::xs=>(fK C a x ρ m).bind fun ρ m=>eE C l xs ρ m
end
noncomputable def wm (op:Operator) (x y:W) (m:Mem):R W:=match op with
 | .Add=>match x,y with
  | .int a,.int b=>.ok (.int (a+b)) m
  | _,_=>.no
 | .Sub=>match x,y with
  | .int a,.int b=>.ok (.int (a - b)) m
  | _,_=>.no
 | _=>.no
mutual
noncomputable def bN (C:Cx):S->Loc->Mem->R F
 | .asg t e,ρ,m=>(ai C e ρ m).bind λ w m=>(fK C t w ρ m).bind fun ρ m=>.ok (.nx ρ) m
 | .aug i op e,ρ,m=>match ρ[i]? with
  | some (some x)=>(ai C e ρ m).bind λ y m=>(wm op x y m).bind λ z m=>.ok (.nx (ρ.set i (some z))) m
  | _=>.no
 | .expr e,ρ,m=>(ai C e ρ m).bind λ _ m=>.ok (.nx ρ) m
 | .ret e,ρ,m=>(ai C e ρ m).bind λ w m=>.ok (.rt w) m
 | .retN,_,m=>.ok (.rt .non) m
 | .ife t a b,ρ,m=>(aT C t ρ m).bind λ c m=>if c then aK C a ρ m else aK C b ρ m
 | .for_ t it b,ρ,m=>(cz C it ρ m).bind λ s m=>gy s.get t (fun ρ m=>aK C b ρ m) (s.len m) 0 ρ m
 | .while_ t b,ρ,m=>eB (fun ρ m=>aT C t ρ m) (fun ρ m=>aK C b ρ m) C.fuel ρ m
 | .pass,ρ,m=>.ok (.nx ρ) m
 | .brk,ρ,m=>.ok (.bk ρ) m
 | .cont,ρ,m=>.ok (.ct ρ) m
 | .never,_,_=>.no
 | .fas o f e,ρ,m=>(ai C e ρ m).bind λ w m=>(ai C o ρ m).bind λ x m=>(om C.cs x f w m).bind λ _ m=>.ok (.nx ρ) m
noncomputable def aK (C:Cx):Ss->Loc->Mem->R F
 | .nil,ρ,m=>.ok (.nx ρ) m
 | .cons s r,ρ,m=>(bN C s ρ m).bind λ f m=>match f with
  | .nx ρ=>aK C r ρ m
  | f=>.ok f m
end
set_option genInjectivity false in
structure Fn where
 np:Nat
 nl:Nat
 body:Ss
noncomputable def dQ (n:Nat) (ws:List W):Loc:=ws.map some++List.replicate (n - ws.length) none
noncomputable def outF:F->Mem->R W
 | .nx _,m=>.ok .non m
 | .rt w,m=>.ok w m
 | _,_=>.no
end D
end
section
namespace D
open PySem PySem.Spec PyProof.Rows L2 List
variable {H H2:Hp} {K:PySem.W.Frag} {X:L2.Cx} {d p:Addr} {ds:Es} {e:Expr} {es:List Expr} {j n:Nat} {o:O} {v:V} {vs:List V} {w:W} {Δ:Option Addr} {β β2:List Addr} {σ:L2.St}
def oq (K:PySem.W.Frag) (H:Hp) (a:Addr) (xs:List V):Prop:=(∃o,H a=some (.frz o (.lst xs)))\/
 ∃(o:Obj) (its:Array Value) (n:Nat),K.lookup a=some o/\o.cls=.type "list"/\o.dict=none/\o.data=.seq its n/\its.size<=sizeLine/\Vals xs its.toList
theorem oq.l {a:Addr} {xs:List V} (h:oq K H a xs):fJ K H a xs:=h.elim (λ ⟨o,e⟩=>.inl (.inr ⟨o,e⟩)) .inr
noncomputable def aW (K:PySem.W.Frag) (c:Str):Addr:=match PySem.W.nsIn K mainGlobals c with
 | some (some (.ref C))=>C
 | _=>0
set_option genInjectivity false in
structure Cl where
 P:Program
 w:World
section
variable (K:PySem.W.Frag) (cl:Cl)
mutual
inductive RW (β:List Addr) (H:Hp):W->V->Prop
 | non:RW β H .non .non
 | bl (b):RW β H (.bl b) (.bl b)
 | int (i):RW β H (.int i) (.int i)
 | str (x):RW β H (.str x) (.str x)
 | tup {a vs xs}:cL K H a vs->aZ β H xs vs->RW β H (.tup xs) (.ref a)
 | fz {a vs xs}:oq K H a vs->aZ β H xs vs->RW β H (.fz xs) (.ref a)
 | obj {a c ks xs dx o fs}:H a=some (.frz o (.ins (aW K c) dx fs))->ks=fs.map (·.1)->aZ β H xs (fs.map (·.2))->RW β H (.obj c ks xs) (.ref a)
 | ref {n a}:β[n]?=some a->RW β H (.ref n) (.ref a)
inductive aZ (β:List Addr) (H:Hp):List W->List V->Prop
 | nil:aZ β H [] []
 | cons {w v ws vs}:RW β H w v->aZ β H ws vs->aZ β H (w::ws) (v::vs)
end
inductive eT (β:List Addr) (H:Hp):List (Str×W)->List (Str×V)->Prop
 | nil:eT β H [] []
 | cons {f w v ws vs}:RW K β H w v->eT β H ws vs->eT β H ((f,w)::ws) ((f,v)::vs)
noncomputable def keyed (fs:List (Str×V)):List (Key×V):=fs.map λ p=>(.inr p.1,p.2)
noncomputable def RO (β:List Addr) (H:Hp) (a:Addr):O->Prop
 | .lst ws=>∃vs,H a=some (.lst vs)/\aZ K β H ws vs
 | .ins c fs=>∃dx fs',H a=some (.ins (aW K c) dx fs')/\eT K β H fs fs'
 | .set ks=>∃S,H a=some (jO cl.P cl.w a S ks.length)/\∀k,S k=jP k ks
 | .dic fs=>∃fs',H a=some (.dK (keyed fs'))/\eT K β H fs fs'
structure Rel (β:List Addr) (m:Mem) (H:Hp):Prop where
 len:β.length=m.length
 nd:β.Nodup
 obj:∀{n:Nat} {o:O} {a:Addr},m[n]?=some o->β[n]?=some a->RO K cl β H a o
structure cM (Δ:Option Addr) (β:List Addr) (H:Hp) (β':List Addr) (H':Hp):Prop where
 pre:∃γ,β'=β++γ/\∀a∈γ,H a=none
 keep:∀{a:Addr} {o:HO},H a=some o->a∉β->some a≠Δ->H' a=some o
abbrev Ext:=cM none
structure RL (β:List Addr) (H:Hp) (ρ:Loc) (σ:L2.St):Prop where
 len:ρ.length=σ.length
 at_:∀{i:Nat} {w:W},ρ[i]?=some (some w)->∃v,σ[i]?=some (some v)/\RW K β H w v
end
section
variable {K:PySem.W.Frag} {cl:Cl} {β β' β'':List Addr} {H H' LC:Hp} {m m':Mem} {a:Addr}
theorem Rel.mem (r:Rel K cl β m H) (h:a∈β):∃(n:Nat) (o:O),β[n]?=some a/\m[n]?=some o/\RO K cl β H a o:=by
 obtain ⟨n,hn⟩:=getElem?_of_mem h;have hl:n < m.length:=by
  have:=(List.getElem?_eq_some_iff.mp hn).1;rw [r.len] at this;exact this
 exact ⟨n,m[n],hn,by simp [hl],r.obj (by simp [hl]) hn⟩
theorem RO.ex (h:RO K cl β H a o):∃u,H a=some u/\(∀xs,u≠.tup xs)/\∀ob x,u≠.frz ob x:=by
 cases o with
 | lst ws=>obtain ⟨vs,e,_⟩:=h; exact ⟨_,e,(by intro _ z; cases z),(by intro _ _ z; cases z)⟩
 | ins c fs=>obtain ⟨dx,fs',e,_⟩:=h; exact ⟨_,e,(by intro _ z; cases z),(by intro _ _ z; cases z)⟩
 | set ks=>obtain ⟨S,e,_⟩:=h; exact ⟨_,e,(by intro _ z; cases z),(by intro _ _ z; cases z)⟩
 | dic fs=>obtain ⟨fs',e,_⟩:=h; exact ⟨_,e,(by intro _ z; cases z),(by intro _ _ z; cases z)⟩
theorem Rel.ex (r:Rel K cl β m H) (h:a∈β):∃u,H a=some u/\(∀xs,u≠.tup xs)/\∀ob x,u≠.frz ob x:=by
 obtain ⟨n,o,_,_,x⟩:=r.mem h;exact x.ex
theorem Ext.refl:cM Δ β H β H:=⟨⟨[],by simp,by simp⟩,λ h _ _=>h⟩
theorem cM.trans (x:cM Δ β H β' H') (r':Rel K cl β' m' H') (y:cM Δ β' H' β'' LC) (hD:∀d,Δ=some d->H' d≠none:=by intro d z; cases z):cM Δ β H β'' LC:=by
 obtain ⟨γ,rfl,hγ⟩:=x.pre;obtain ⟨δ,rfl,hδ⟩:=y.pre;refine ⟨⟨γ++δ,by simp,λ a ha=>?_⟩,λ {a o} h hn hd=>?_⟩
 ·rcases List.mem_append.mp ha with z | z
  ·exact hγ a z
  ·by_cases hb:a∈β
   ·obtain ⟨u,e,_⟩:=r'.ex (mem_append_left _ hb);rw [hδ a z] at e; cases e
   ·cases e:H a with
    | none=>rfl
    | some o=>
     by_cases hd:some a=Δ
     ·exact absurd (hδ a z) (hD a hd.symm)
     ·have:=x.keep e hb hd;rw [hδ a z] at this; cases this
 ·refine y.keep (x.keep h hn hd) (λ z=>?_) hd;rcases List.mem_append.mp z with z | z
  ·exact hn z
  ·rw [hγ a z] at h; cases h
theorem cM.toD (x:Ext β H β' H'):cM (some d) β H β' H':=⟨x.pre,λ h hn _=>x.keep h hn (by simp)⟩
theorem cM.IA (x:cM Δ β H β' H') (r:Rel K cl β m H) (hD:∀d,Δ=some d->∃vs,H d=some (.lst vs)) (h:cL K H a vs):cL K H' a vs:=by
 rcases h with h | h
 ·refine .inl ?_;have na:a∉β:=λ z=>by
   obtain ⟨u,e,n1,n2⟩:=r.ex z;rcases h with h | ⟨o,h⟩
   ·rw [h] at e; cases e; exact n1 _ rfl
   ·rw [h] at e; cases e; exact n2 _ _ rfl
  have nd:some a≠Δ:=λ z=>by
   obtain ⟨vs,e⟩:=hD a z.symm;rcases h with h | ⟨o,h⟩
   ·rw [h] at e; cases e
   ·rw [h] at e; cases e
  rcases h with h | ⟨o,h⟩
  ·exact .inl (x.keep h na nd)
  ·exact .inr ⟨o,x.keep h na nd⟩
 ·exact .inr h
theorem cM.Mj (x:cM Δ β H β' H') (r:Rel K cl β m H) (hD:∀d,Δ=some d->∃vs,H d=some (.lst vs)) (h:oq K H a vs):oq K H' a vs:=by
 rcases h with ⟨o,h⟩ | h
 ·refine .inl ⟨o,x.keep h (λ z=>?_) λ z=>?_⟩
  ·obtain ⟨u,e,n1,n2⟩:=r.ex z;rw [h] at e; cases e; exact n2 _ _ rfl
  ·obtain ⟨vs,e⟩:=hD a z.symm;rw [h] at e; cases e
 ·exact .inr h
theorem cM.fz (x:cM Δ β H β' H') (r:Rel K cl β m H) (hD:∀d,Δ=some d->∃vs,H d=some (.lst vs)) {o:Obj} {u:HO} (h:H a=some (.frz o u)):H' a=some (.frz o u):=by
 refine x.keep h (λ z=>?_) λ z=>?_
 ·obtain ⟨u,e,n1,n2⟩:=r.ex z;rw [h] at e; cases e; exact n2 _ _ rfl
 ·obtain ⟨vs,e⟩:=hD a z.symm;rw [h] at e; cases e
theorem cM.get (x:cM Δ β H β' H') (h:β[n]?=some a):β'[n]?=some a:=by
 obtain ⟨γ,rfl,_⟩:=x.pre;rw [getElem?_append_left (List.getElem?_eq_some_iff.mp h).1];exact h
theorem RW.gen (hT:∀{a:Addr} {vs:List V},cL K H a vs->cL K H2 a vs) (hF:∀{a:Addr} {vs:List V},oq K H a vs->oq K H2 a vs) (hO:∀{a:Addr} {o:Obj} {u:HO},H a=some (.frz o u)->H2 a=some (.frz o u)) (hR:∀{n:Nat} {a:Addr},β[n]?=some a->β2[n]?=some a) (q:RW K β H w v):RW K β2 H2 w v:=
 RW.rec (motive_1:=λ w v _=>RW K β2 H2 w v) (motive_2:=λ w v _=>aZ K β2 H2 w v) .non .bl .int .str (λ h _ i=>.tup (hT h) i) (λ h _ i=>.fz (hF h) i) (λ h e _ i=>.obj (hO h) e i) (λ h=>.ref (hR h)) .nil (λ _ _ a b=>.cons a b) q
theorem aZ.uv (f:∀{w:W} {v:V},RW K β H w v->RW K β2 H2 w v) {w:List W} {v:List V} (q:aZ K β H w v):aZ K β2 H2 w v:=by
 induction w generalizing v with
 | nil=>cases q; exact .nil
 | cons x w ih=>cases q with | cons a b=>exact .cons (f a) (ih b)
theorem eT.uv (f:∀{w:W} {v:V},RW K β H w v->RW K β2 H2 w v) {w:List (Str×W)} {v:List (Str×V)} (q:eT K β H w v):eT K β2 H2 w v:=by
 induction q with
 | nil=>exact .nil
 | cons a b ih=>exact .cons (f a) ih
theorem RW.cP (r:Rel K cl β m H) (hD:∀d,Δ=some d->∃vs,H d=some (.lst vs)) (x:cM Δ β H β' H') (q:RW K β H w v):RW K β' H' w v:=
 q.gen (x.IA r hD) (x.Mj r hD) (x.fz r hD) x.get
theorem aZ.cP (r:Rel K cl β m H) (hD:∀d,Δ=some d->∃vs,H d=some (.lst vs)) (x:cM Δ β H β' H') {w:List W} {v:List V} (q:aZ K β H w v):aZ K β' H' w v:=q.uv (RW.cP r hD x)
theorem zT {P:Addr->Prop}:∀d,(none:Option Addr)=some d->P d:=λ d z=>by cases z
theorem RW.mono (r:Rel K cl β m H) (x:Ext β H β' H') (h:RW K β H w v):RW K β' H' w v:=h.cP r zT x
theorem aZ.mono (r:Rel K cl β m H) (x:Ext β H β' H') {w:List W} {v:List V} (h:aZ K β H w v):aZ K β' H' w v:=h.cP r zT x
theorem eT.cP (r:Rel K cl β m H) (hD:∀d,Δ=some d->∃vs,H d=some (.lst vs)) (x:cM Δ β H β' H') {w:List (Str×W)} {v:List (Str×V)} (q:eT K β H w v):eT K β' H' w v:=q.uv (RW.cP r hD x)
theorem RL.cP (r:Rel K cl β m H) (hD:∀d,Δ=some d->∃vs,H d=some (.lst vs)) (x:cM Δ β H β' H') {ρ:Loc} (l:RL K β H ρ σ):RL K β' H' ρ σ:=
 ⟨l.len,λ h=>let ⟨v,e,q⟩:=l.at_ h; ⟨v,e,q.cP r hD x⟩⟩
theorem RL.mono (r:Rel K cl β m H) (x:Ext β H β' H') {ρ:Loc} (l:RL K β H ρ σ):RL K β' H' ρ σ:=l.cP r zT x
theorem RO.cP (r:Rel K cl β m H) (hD:∀d,Δ=some d->∃vs,H d=some (.lst vs)) (x:cM Δ β H β' H') (hk:H' a=H a) (h:RO K cl β H a o):RO K cl β' H' a o:=by
 cases o with
 | lst ws=>obtain ⟨vs,e,t⟩:=h; exact ⟨vs,hk.trans e,t.cP r hD x⟩
 | ins c fs=>obtain ⟨dx,fs',e,t⟩:=h; exact ⟨dx,fs',hk.trans e,t.cP r hD x⟩
 | set ks=>obtain ⟨S,e,t⟩:=h; exact ⟨S,hk.trans e,t⟩
 | dic fs=>obtain ⟨fs',e,t⟩:=h; exact ⟨fs',hk.trans e,t.cP r hD x⟩
theorem RO.mono (r:Rel K cl β m H) (x:Ext β H β' H') (hk:H' a=H a) (h:RO K cl β H a o):RO K cl β' H' a o:=h.cP r zT x hk
theorem aZ.length:∀{ws:List W} {vs:List V},aZ K β H ws vs->ws.length=vs.length
 | _,_,.nil=>rfl
 | _,_,.cons _ t=>by rw [length_cons,length_cons,aZ.length t]
theorem aZ.get:∀{ws:List W} {vs:List V} {i:Nat} {w:W},aZ K β H ws vs->ws[i]?=some w->∃v,vs[i]?=some v/\RW K β H w v
 | _,_,_,_,.nil,e=>by simp at e
 | _,_,0,_,.cons h t,e=>by simp at e; subst e; exact ⟨_,rfl,h⟩
 | _,_,i+1,_,.cons h t,e=>by simpa using aZ.get (i:=i) t (by simpa using e)
theorem aZ.append:∀{v w:List W} {d e:List V},aZ K β H v d->aZ K β H w e->aZ K β H (v++w) (d++e):=by
 intro v
 induction v with
 | nil=>intro w d e h s; cases h; exact s
 | cons x v ih=>intro w d e h s; cases h with | cons q t=>exact .cons q (ih t s)
theorem aZ.take:∀{ws:List W} {vs:List V} (n:Nat),aZ K β H ws vs->aZ K β H (ws.take n) (vs.take n)
 | _,_,0,_=>.nil
 | _,_,_+1,.nil=>.nil
 | _,_,n+1,.cons h t=>.cons h (aZ.take n t)
theorem aZ.drop:∀{ws:List W} {vs:List V} (n:Nat),aZ K β H ws vs->aZ K β H (ws.drop n) (vs.drop n)
 | _,_,0,r=>r
 | _,_,_+1,.nil=>.nil
 | _,_,n+1,.cons h t=>aZ.drop n t
theorem aZ.set (r:RW K β H w v):∀{ws:List W} {vs:List V} (i:Nat),aZ K β H ws vs->aZ K β H (ws.set i w) (vs.set i v)
 | _,_,_,.nil=>.nil
 | _,_,0,.cons _ t=>.cons r t
 | _,_,i+1,.cons q t=>.cons q (aZ.set r i t)
theorem aZ.eraseIdx:∀{ws:List W} {vs:List V} (i:Nat),aZ K β H ws vs->aZ K β H (ws.eraseIdx i) (vs.eraseIdx i)
 | _,_,_,.nil=>.nil
 | _,_,0,.cons _ t=>t
 | _,_,i+1,.cons q t=>.cons q (aZ.eraseIdx i t)
theorem aZ.dropLast {ws:List W} (h:aZ K β H ws vs):aZ K β H ws.dropLast vs.dropLast:=by
 rw [dropLast_eq_take,dropLast_eq_take,h.length]; exact h.take _
theorem aZ.bools {bs:List Bool}:∀{ws:List W} {vs:List V},aZ K β H ws vs->D.bools ws=Option.some bs->vs=bs.map V.bl:=by
 induction bs with
 | nil=>
  intro ws vs h e;cases h with
  | nil=>rfl
  | cons q t=>cases q<;>simp [D.bools] at e
 | cons b bs ih=>
  intro ws vs h e;cases h with
  | nil=>simp [D.bools] at e
  | cons q t=>
   cases q with
   | bl c=>
    simp only [D.bools,Option.map_eq_some_iff] at e;obtain ⟨r,e1,e2⟩:=e;cases e2;rw [ih t e1]; rfl
   | _=>simp [D.bools] at e
theorem RW.sub (h:∀{n:Nat} {a:Addr},β[n]?=Option.some a->β'[n]?=Option.some a) (q:RW K β H w v):RW K β' H w v:=q.gen id id id h
theorem aZ.sub (h:∀{n:Nat} {a:Addr},β[n]?=Option.some a->β'[n]?=Option.some a) {w:List W} {v:List V} (q:aZ K β H w v):aZ K β' H w v:=q.uv (RW.sub h)
theorem eT.sub (h:∀{n:Nat} {a:Addr},β[n]?=Option.some a->β'[n]?=Option.some a) {w:List (Str×W)} {v:List (Str×V)} (q:eT K β H w v):eT K β' H w v:=q.uv (RW.sub h)
theorem RO.sub (h:∀{n:Nat} {a:Addr},β[n]?=Option.some a->β'[n]?=Option.some a) (q:RO K cl β H a o):RO K cl β' H a o:=by
 cases o with
 | lst ws=>obtain ⟨vs,e,t⟩:=q; exact ⟨vs,e,t.sub h⟩
 | ins c fs=>obtain ⟨dx,fs',e,t⟩:=q; exact ⟨dx,fs',e,t.sub h⟩
 | set ks=>exact q
 | dic fs=>obtain ⟨fs',e,t⟩:=q; exact ⟨fs',e,t.sub h⟩
theorem Rel.mJ (r:Rel K cl β m H) (hp:H p=none) (vs:List V):Ext β H β (upd H p (.tup vs))/\Rel K cl β m (upd H p (.tup vs)):=by
 have x:Ext β H β (upd H p (.tup vs)):=⟨⟨[],by simp,by simp⟩,λ h _ _=>by rw [av (aB h hp)]; exact h⟩;refine ⟨x,r.len,r.nd,λ h1 h2=>?_⟩;have q:=r.obj h1 h2;obtain ⟨u,e,_⟩:=q.ex;exact q.mono r x (av (aB e hp))
theorem Rel.By (r:Rel K cl β m H) (hp:H p=none):p∉β:=λ z=>by
 obtain ⟨u,e,_⟩:=r.ex z;rw [hp] at e; cases e
theorem Rel.DG (r:Rel K cl β m H) {ho:HO} (hp:H p=none) (q:∀x:Ext β H (β++[p]) (upd H p ho),RO K cl (β++[p]) (upd H p ho) p o):Ext β H (β++[p]) (upd H p ho)/\Rel K cl (β++[p]) (m++[o]) (upd H p ho):=by
 have x:Ext β H (β++[p]) (upd H p ho):=⟨⟨[p],rfl,λ a ha=>by simp at ha; rw [ha]; exact hp⟩,λ h _ _=>by rw [av (aB h hp)]; exact h⟩;refine ⟨x,by simp [r.len],?_,λ {n o' a} h1 h2=>?_⟩
 ·rw [nodup_append];refine ⟨r.nd,by simp,λ a ha b hb=>?_⟩;simp at hb;subst hb;rintro rfl;exact r.By hp ha
 ·by_cases hn:n < m.length
  ·rw [getElem?_append_left hn] at h1;rw [getElem?_append_left (by rw [r.len]; exact hn)] at h2;have q:=r.obj h1 h2;obtain ⟨u,e,_⟩:=q.ex;exact q.mono r x (av (aB e hp))
  ·have e1:=(List.getElem?_eq_some_iff.mp h1).1;simp at e1;have e:n=m.length:=by omega
   subst e;rw [getElem?_append_right (Nat.le_refl _)] at h1;rw [<-r.len,getElem?_append_right (Nat.le_refl _)] at h2;simp at h1 h2;subst h1 h2;exact q x
theorem Rel.newL (r:Rel K cl β m H) (hp:H p=none) {ws:List W} (q:aZ K β H ws vs):Ext β H (β++[p]) (upd H p (.lst vs))/\Rel K cl (β++[p]) (m++[.lst ws]) (upd H p (.lst vs)):=
 r.DG hp λ x=>⟨vs,aG,q.mono r x⟩
theorem Rel.qt (r:Rel K cl β m H) {vs':List V} (hd:H d=Option.some (.lst vs)) (hn:d∉β):cM (Option.some d) β H β (upd H d (.lst vs'))/\Rel K cl β m (upd H d (.lst vs')):=by
 have x:cM (Option.some d) β H β (upd H d (.lst vs')):=⟨⟨[],by simp,by simp⟩,λ {a o} h _ na=>by rw [av (λ z=>na (by rw [z]))]; exact h⟩;refine ⟨x,r.len,r.nd,λ h1 h2=>?_⟩;have q:=r.obj h1 h2;refine q.cP r (λ d' z=>?_) x (av λ z=>?_)
 ·cases z; exact ⟨_,hd⟩
 ·exact hn (by rw [<-z]; exact mem_of_getElem? h2)
theorem Rel.out (r:Rel K cl β m H) {ws:List W} (hd:H d=Option.some (.lst vs)) (hn:d∉β) (t:aZ K β H ws vs):Rel K cl (β++[d]) (m++[.lst ws]) H:=by
 have x:∀{w:List W} {v:List V},aZ K β H w v->aZ K (β++[d]) H w v:=by
  have xx:∀{n:Nat} {a:Addr},β[n]?=Option.some a->(β++[d])[n]?=Option.some a:=λ {n a} h=>by
   rw [getElem?_append_left (List.getElem?_eq_some_iff.mp h).1]; exact h
  intro w v h;exact aZ.sub xx h
 refine ⟨by simp [r.len],?_,λ {n o a} h1 h2=>?_⟩
 ·rw [nodup_append];refine ⟨r.nd,by simp,λ a ha b hb=>?_⟩;simp at hb;subst hb;rintro rfl;exact hn ha
 ·by_cases hl:n < m.length
  ·rw [getElem?_append_left hl] at h1;rw [getElem?_append_left (by rw [r.len]; exact hl)] at h2;exact (r.obj h1 h2).sub λ {n a} h=>by rw [getElem?_append_left (List.getElem?_eq_some_iff.mp h).1]; exact h
  ·have e1:=(List.getElem?_eq_some_iff.mp h1).1;simp at e1;have e:n=m.length:=by omega
   subst e;rw [getElem?_append_right (Nat.le_refl _)] at h1;rw [<-r.len,getElem?_append_right (Nat.le_refl _)] at h2;simp at h1 h2;subst h1 h2;exact ⟨vs,hd,x t⟩
theorem Rel.last (r:Rel K cl β m H) (p:Addr):(β++[p])[m.length]?=Option.some p:=by
 rw [<-r.len,getElem?_append_right (Nat.le_refl _)]; simp
theorem Rel.uw (r:Rel K cl β m H) {IB:List W} {vs':List V} (hm:m[n]?=Option.some o) (hb:β[n]?=Option.some a) (q:aZ K β H IB vs'):Ext β H β (upd H a (.lst vs'))/\Rel K cl β (m.set n (.lst IB)) (upd H a (.lst vs')):=by
 have ha:a∈β:=mem_of_getElem? hb;have x:Ext β H β (upd H a (.lst vs')):=⟨⟨[],by simp,by simp⟩,λ {b u} h hn _=>by rw [av (show b≠a from λ z=>hn (by rw [z]; exact ha))]; exact h⟩;refine ⟨x,by simp [r.len],r.nd,λ {k o' b} h1 h2=>?_⟩
 by_cases hk:n=k
 ·subst hk;rw [hb] at h2; cases h2;rw [getElem?_set_self (List.getElem?_eq_some_iff.mp hm).1] at h1;cases h1;exact ⟨vs',aG,q.mono r x⟩
 ·rw [getElem?_set_ne hk] at h1;have q':=r.obj h1 h2;refine q'.mono r x (av ?_);rintro rfl;obtain ⟨h3,e3⟩:=List.getElem?_eq_some_iff.mp h2;obtain ⟨h4,e4⟩:=List.getElem?_eq_some_iff.mp hb;exact hk ((getElem_inj r.nd).mp (e4.trans e3.symm))
theorem Rel.getL (r:Rel K cl β m H) {ws:List W} (q:RW K β H w v) (e:D.getL m w=Option.some ws):∃a vs,v=.ref a/\fJ K H a vs/\aZ K β H ws vs:=by
 cases q with
 | ref h=>
  unfold D.getL at e;dsimp only at e;split at e
  ·rename_i xs e1;cases e;obtain ⟨vs,z,t⟩:=r.obj e1 h;exact ⟨_,vs,rfl,.inl (.inl z),t⟩
  ·cases e
 | fz h t=>cases e; exact ⟨_,_,rfl,h.l,t⟩
 | _=>simp [D.getL] at e
theorem Rel.cu (r:Rel K cl β m H) {ws:List W} (q:RW K β H w v) (e:D.cu m w=Option.some ws):∃a vs,v=.ref a/\(fJ K H a vs\/cL K H a vs)/\aZ K β H ws vs:=by
 cases w with
 | tup xs=>
  cases q with
  | tup h t=>
   cases e;exact ⟨_,_,rfl,.inr h,t⟩
 | _=>
  obtain ⟨a,vs,e1,e2,e3⟩:=r.getL q e;exact ⟨a,vs,e1,.inl e2,e3⟩
theorem Rel.lst (r:Rel K cl β m H) {ws:List W} (q:RW K β H (.ref n) v) (e:m[n]?=Option.some (.lst ws)):∃a vs,v=.ref a/\β[n]?=Option.some a/\H a=Option.some (.lst vs)/\aZ K β H ws vs:=by
 cases q with
 | ref h=>
  obtain ⟨vs,z,t⟩:=r.obj e h;exact ⟨_,vs,rfl,h,z,t⟩
theorem fS {f:W->Option PyData}:∀{ws:List W} {vs:List V} {ds:List PyData},(∀w v d,w∈ws->RW K β H w v->f w=Option.some d->Dt K H v d)->aZ K β H ws vs->dG f ws=Option.some ds->Bv K H vs ds
 | [],_,_,_,.nil,e=>by cases e; exact .nil
 | w::ws,_,_,h,.cons q t,e=>by
  unfold dG at e;split at e
  ·cases e
  ·rename_i d e1;split at e
   ·cases e
   ·rename_i ds e2;cases e;exact .cons (h w _ d mem_cons_self q e1) (fS (λ w' v' d' hw=>h w' v' d' (mem_cons_of_mem _ hw)) t e2)
theorem eF (r:Rel K cl β m H):∀(n:Nat) {w:W} {v:V} {d:PyData},RW K β H w v->toD n m w=Option.some d->Dt K H v d
 | 0,_,_,_,_,e=>by cases e
 | n+1,w,v,d,q,e=>by
  unfold toD at e;cases q with
  | non=>cases e; exact .non
  | bl b=>cases e; exact .bl b
  | int i=>cases e; exact .int i
  | str x=>
   dsimp only at e;split at e
   ·cases e; exact .str x
   ·cases e
  | tup h t=>
   simp only [Option.map_eq_some_iff] at e;obtain ⟨ds,e1,e2⟩:=e;subst e2;exact .tup h (fS (λ w v d _ q e=>eF r n q e) t e1)
  | fz h t=>
   simp only [Option.map_eq_some_iff] at e;obtain ⟨ds,e1,e2⟩:=e;subst e2;exact .lst h.l (fS (λ w v d _ q e=>eF r n q e) t e1)
  | obj h e0 t=>cases e
  | ref h=>
   dsimp only at e;split at e
   ·rename_i xs e1;simp only [Option.map_eq_some_iff] at e;obtain ⟨ds,e2,e3⟩:=e;subst e3;obtain ⟨a,vs,z1,z2,z3⟩:=r.getL (.ref h) e1;cases z1;exact .lst z2 (fS (λ w v d _ q e=>eF r n q e) z3 e2)
   ·cases e
theorem fT {f:W->Option PyData}:∀{ws:List W} {ds:List PyData},(∀w d,f w=Option.some d->d.canLay0=true/\d.depth<=n)->dG f ws=Option.some ds->PyData.canLayAll0 ds=true/\PyData.depthAll ds<=n
 | [],_,_,e=>by cases e; exact ⟨rfl,Nat.zero_le _⟩
 | w::ws,_,h,e=>by
  unfold dG at e;split at e
  ·cases e
  ·rename_i d e1;split at e
   ·cases e
   ·rename_i ds e2;cases e;obtain ⟨a1,a2⟩:=h w d e1;obtain ⟨b1,b2⟩:=fT h e2;refine ⟨by simp [PyData.canLayAll0,a1,b1],?_⟩;simp only [PyData.depthAll];omega
theorem cH:∀(n:Nat) {w:W} {d:PyData},toD n m w=Option.some d->d.canLay0=true/\d.depth<=n
 | 0,_,_,e=>by cases e
 | n+1,w,d,e=>by
  unfold toD at e;cases w with
  | non=>cases e; exact ⟨rfl,by simp [PyData.depth]⟩
  | bl b=>cases e; exact ⟨rfl,by simp [PyData.depth]⟩
  | int i=>cases e; exact ⟨rfl,by simp [PyData.depth]⟩
  | str x=>
   dsimp only at e;split at e
   ·rename_i hx;cases e;exact ⟨hx,by simp [PyData.depth]⟩
   ·cases e
  | tup xs=>
   simp only [Option.map_eq_some_iff] at e;obtain ⟨ds,e1,e2⟩:=e;subst e2;obtain ⟨a1,a2⟩:=fT (λ w d e=>cH n e) e1;exact ⟨a1,by simp only [PyData.depth]; omega⟩
  | fz xs=>
   simp only [Option.map_eq_some_iff] at e;obtain ⟨ds,e1,e2⟩:=e;subst e2;obtain ⟨a1,a2⟩:=fT (λ w d e=>cH n e) e1;exact ⟨a1,by simp only [PyData.depth]; omega⟩
  | obj c ks vs=>cases e
  | ref k=>
   dsimp only at e;split at e
   ·simp only [Option.map_eq_some_iff] at e;obtain ⟨ds,e2,e3⟩:=e;subst e3;obtain ⟨a1,a2⟩:=fT (λ w d e=>cH n e) e2;exact ⟨a1,by simp only [PyData.depth]; omega⟩
   ·cases e
theorem R.ah {α γ:Type} {x:R α} {f:α->Mem->R γ} {c:γ} (h:x.bind f=.ok c m'):∃a m,x=.ok a m/\f a m=.ok c m':=by
 cases x with
 | no=>cases h
 | ok a m=>exact ⟨a,m,rfl,h⟩
end
structure UN (X:L2.Cx) (cl:Cl):Prop where
 un:X.A.units+64 < cLine
 P:cl.P=X.prog
 w:cl.w=X.w
 gd:X.A.guards=some []
theorem bV:lim<=sizeLine:=by rw [sizeLine_eq]; decide
section
variable (X:L2.Cx) (cl:Cl)
noncomputable def SE (ev:Loc->Mem->R W):TE:=fun σ H Q=>∃β ρ m w m',Rel X.K cl β m H/\RL X.K β H ρ σ/\ev ρ m=.ok w m'/\∀β' H' v,Ext β H β' H'->Rel X.K cl β' m' H'->RW X.K β' H' w v->Q v H'
noncomputable def ST (ev:Loc->Mem->R Bool):TT:=fun σ H Q=>∃β ρ m b m',Rel X.K cl β m H/\RL X.K β H ρ σ/\ev ρ m=.ok b m'/\∀β' H',Ext β H β' H'->Rel X.K cl β' m' H'->Q b H'
noncomputable def SA (ev:Loc->Mem->R (List W)):TA:=fun σ H Q=>∃β ρ m ws m',Rel X.K cl β m H/\RL X.K β H ρ σ/\ev ρ m=.ok ws m'/\∀β' H' vs,Ext β H β' H'->Rel X.K cl β' m' H'->aZ X.K β' H' ws vs->Q vs H'
noncomputable def Gx (ev:Loc->Mem->R (Option Int)):TO:=fun σ H Q=>∃β ρ m o m',Rel X.K cl β m H/\RL X.K β H ρ σ/\ev ρ m=.ok o m'/\∀β' H',Ext β H β' H'->Rel X.K cl β' m' H'->Q o H'
noncomputable def BA (f:W->W->Mem->R W):R2:=λ x y H Q=>∃β m wx wy w m',Rel X.K cl β m H/\RW X.K β H wx x/\RW X.K β H wy y/\f wx wy m=.ok w m'/\∀β' H' v,Ext β H β' H'->Rel X.K cl β' m' H'->RW X.K β' H' w v->Q v H'
noncomputable def Ml (f:List W->Mem->R W):List V->Hp->VK->Prop:=λ xs H Q=>∃β m ws w m',Rel X.K cl β m H/\aZ X.K β H ws xs/\f ws m=.ok w m'/\∀β' H' v,Ext β H β' H'->Rel X.K cl β' m' H'->RW X.K β' H' w v->Q v H'
end
theorem PE.imp {t t':TE} (h:PE X e t) (i:∀σ H Q,t' σ H Q->t σ H Q):PE X e t':=λ aa s σ H Q I q=>h aa s σ H Q I (i σ H Q q)
theorem PT.imp {t t':TT} (h:PT X e t) (i:∀σ H Q,t' σ H Q->t σ H Q):PT X e t':=λ aa s σ H Q I q=>h aa s σ H Q I (i σ H Q q)
theorem PW.imp {t t':TT} (h:PW X e t) (i:∀σ H Q,t' σ H Q->t σ H Q):PW X e t':=λ wh aa s σ H Q I q=>h wh aa s σ H Q I (i σ H Q q)
theorem PA.imp {e:List Expr} {t t':TA} (h:PA X e t) (i:∀σ H Q,t' σ H Q->t σ H Q):PA X e t':=λ pos aa s σ H Q I q=>h pos aa s σ H Q I (i σ H Q q)
theorem PO.imp {e:Option Expr} {t t':TO} (h:PO X e t) (i:∀σ H Q,t' σ H Q->t σ H Q):PO X e t':=λ aa s σ H Q I q=>h aa s σ H Q I (i σ H Q q)
theorem iJ {z:Str}:∀(fs:List (Str×V)),jk (keyed fs) (.inr z)=fs.lookup z:=by
 intro fs
 induction fs with
 | nil=>rfl
 | cons p r ih=>
  obtain ⟨k,v⟩:=p;unfold jk keyed at ih ⊢;rw [map_cons,find?_cons,lookup_cons]
  by_cases h:k=z
  ·subst h; simp
  ·have h1:(z==k)=false:=by simpa using λ e=>h e.symm
   have h2:decide ((Sum.inr k:Key)=.inr z)=false:=decide_eq_false λ e=>h (Sum.inr.inj e);rw [h1];simp only [h2];exact ih
theorem eT.look {z:Str} {fs:List (Str×W)} {gs:List (Str×V)} (h:eT K β H fs gs):(fs.lookup z).isSome=(gs.lookup z).isSome/\∀w,fs.lookup z=some w->∃v,gs.lookup z=some v/\RW K β H w v:=by
 induction h with
 | nil=>exact ⟨rfl,λ w e=>by cases e⟩
 | @cons f w v ws vs q t ih=>
  rw [lookup_cons,lookup_cons];cases h:z==f with
  | true=>exact ⟨rfl,λ w' e=>by cases e; exact ⟨v,rfl,q⟩⟩
  | false=>exact ih
theorem DH:C9 X (λ x y H Q=>∃z a fs v,y=.str z/\x=.ref a/\H a=some (.dK (keyed fs))/\fs.lookup z=some v/\Q v H):=by
 intro value slice aa s σ H x y v u Q I rx ry h hs;obtain ⟨z,a,fs,o,rfl,rfl,e,hl,q⟩:=h;cases rx;obtain ⟨_,hd,vs,rel,dd⟩:=rG I.hok (.inl e);obtain ⟨w',hw,rw'⟩:=eL.some_of (v:=o) (o:=valueAt vs (.inr z)) (by rw [<-hl,<-iJ]; exact rel.val (.inr z));exact tail_any dd.typeIs slot_dict_getitem.lookup (wpAny_getItem_of (nZ (k:=.inr z) ry) dd.mapOf hw ⟨o,H,I.tok _,rw',q⟩) hs
section
variable {X:L2.Cx} {cl:Cl}
theorem wu:fj X (binaryOp .Add) (λ x y H Q=>∃a b ys,x=.ref a/\y=.ref b/\cL X.K H a []/\cL X.K H b ys/\Q (.ref b) H):=by
 intro aa s σ H x y v u Q I rx ry h;obtain ⟨a,b,ys,rfl,rfl,h1,h2,q⟩:=h;cases rx; cases ry;obtain ⟨its,rv,p1,_⟩:=I.tuple h1;obtain ⟨its2,rv2,p2,_⟩:=I.tuple h2;cases rv;obtain ⟨⟨cls,dd,data,sl⟩,ho,hc,n,hd⟩:=id p1;obtain ⟨⟨cls2,dd2,data2,sl2⟩,ho2,hc2,n2,hd2⟩:=id p2;simp only at hc hd hc2 hd2;subst hc hd hc2 hd2;exact concat_meets ⟨_,ho,rfl⟩ ⟨_,ho2,rfl⟩ noFill_tuple_add seq_tuple_add PySem.F.slot_tuple_add PySem.F.entry_tuple_add (PySem.F.args_tuple_add_2 _ _)
   (tuple_addW0 a b _ its2.toArray n n2 dd dd2 sl sl2 (by simp)) ⟨ho,ho2,⟨.ref b,H,I,rfl,q⟩⟩
theorem zU:fj X (binaryOp .Add) (λ x y H Q=>∃a b xs ys,x=.ref a/\y=.ref b/\fJ X.K H a xs/\fJ X.K H b ys/\xs.length+ys.length<=sizeLine/\∀p,H p=none->Q (.ref p) (upd H p (.lst (xs++ys)))):=by
 intro aa s σ H x y v u Q I rx ry h;obtain ⟨a,b,xs,ys,rfl,rfl,h1,h2,hz,q⟩:=h;cases rx; cases ry;obtain ⟨its,rv,p1,_⟩:=I.list h1;obtain ⟨its2,rv2,p2,_⟩:=I.list h2;obtain ⟨⟨cls,dd,data,sl⟩,n,ho,hc,hdd,hd⟩:=id p1;obtain ⟨⟨cls2,dd2,data2,sl2⟩,n2,ho2,hc2,hdd2,hd2⟩:=id p2;simp only at hc hd hc2 hd2;subst hc hd hc2 hd2;have l1:=rv.length;have l2:=rv2.length;have ea:its.toArray++its2.toArray=(its++its2).toArray:=by simp
 refine concat_meets ⟨_,ho,rfl⟩ ⟨_,ho2,rfl⟩ noFill_list_add seq_list_add PySem.F.slot_list_add PySem.F.entry_list_add (PySem.F.args_list_add_2 _ _)
   (list_addW a b its.toArray its2.toArray n n2 dd dd2 sl sl2 (by rw [List.size_toArray,List.size_toArray]; omega)) ⟨ho,ho2,?_⟩
 rw [ea];exact ⟨.ref _,_,I.Gn (t':=s.toks) (rv.append rv2) (by rw [length_append]; omega),rfl,q _ I.fresh⟩
theorem DI (op:Operator):fj X (binaryOp op) (BA X cl (binop op)):=by
 intro aa s σ H x y v u Q I rx ry h;obtain ⟨β,m,wx,wy,w,m',r,qx,qy,e,k⟩:=h;unfold binop at e;split at e
 ·
  split at e
  ·cases e; cases qx; cases qy;exact CT aa s σ H _ _ v u Q I rx ry ⟨_,_,rfl,rfl,k _ _ _ Ext.refl r (.int _)⟩
  ·rename_i xs ys;split at e
   ·rename_i hm;cases e;cases qx with
    | tup h1 t1=>
     cases qy with
     | tup h2 t2=>
      rename_i a vs b us;cases t1 with
      | nil=>exact wu aa s σ H _ _ v u Q I rx ry ⟨_,_,_,rfl,rfl,h1,h2,k _ _ _ Ext.refl r (.tup h2 (by simpa using t2))⟩
      | cons t1 tt1=>
       rename_i w1 v1 ws1 vs1;have hl:(v1::vs1).length+us.length<=lim:=by
        rw [<-(aZ.cons t1 tt1).length,<-t2.length]; exact hm
       refine zA aa s σ H _ _ v u Q I rx ry ⟨_,_,_,_,rfl,rfl,h1,h2,by simp,Nat.le_trans hl bV,λ z=>?_,λ z p hp=>?_⟩
       ·subst z;cases t2;exact k _ _ _ Ext.refl r (.tup h1 (by simpa using aZ.cons t1 tt1))
       ·obtain ⟨x',r'⟩:=r.mJ hp (v1::vs1++us);refine k _ _ _ x' r' (.tup (.of aG) ?_);exact ((aZ.cons t1 tt1).append t2).mono r x'
   ·cases e
  ·split at e
   ·rename_i hm;cases e; cases qx; cases qy;exact pW aa s σ H _ _ v u Q I rx ry ⟨_,_,rfl,rfl,Nat.le_trans hm bV,k _ _ _ Ext.refl r (.str _)⟩
   ·cases e
  ·unfold zS at e;split at e
   ·rename_i xs ys e1 e2;split at e
    ·rename_i hm;cases e;obtain ⟨a,vs,rfl,h1,t1⟩:=r.getL qx e1;obtain ⟨b,us,rfl,h2,t2⟩:=r.getL qy e2;refine zU aa s σ H _ _ v u Q I rx ry ⟨_,_,_,_,rfl,rfl,h1,h2,?_,λ p hp=>?_⟩
     ·rw [<-t1.length,<-t2.length]; exact Nat.le_trans hm bV
     ·obtain ⟨x',r'⟩:=r.newL hp (t1.append t2);exact k _ _ _ x' r' (.ref (r.last p))
    ·cases e
   ·cases e
 ·
  split at e
  ·cases e; cases qx; cases qy;exact CU aa s σ H _ _ v u Q I rx ry ⟨_,_,rfl,rfl,k _ _ _ Ext.refl r (.int _)⟩
  ·cases e
 ·
  split at e
  ·split at e
   ·rename_i hm;cases e; cases qx; cases qy;refine CV aa s σ H _ _ v u Q I rx ry ⟨_,_,rfl,rfl,?_,k _ _ _ Ext.refl r (.int _)⟩;simpa [gD,zj] using hm
   ·cases e
  ·cases e
 ·split at e
  ·split at e
   ·rename_i hm;cases e; cases qx; cases qy;exact zk aa s σ H _ _ v u Q I rx ry ⟨_,_,rfl,rfl,hm,k _ _ _ Ext.refl r (.int _)⟩
   ·cases e
  ·cases e
 ·split at e
  ·split at e
   ·rename_i hm;cases e; cases qx; cases qy;exact CW aa s σ H _ _ v u Q I rx ry ⟨_,_,rfl,rfl,hm,k _ _ _ Ext.refl r (.int _)⟩
   ·cases e
  ·cases e
 ·split at e
  ·split at e
   ·rename_i hm;cases e; cases qx; cases qy;exact CY aa s σ H _ _ v u Q I rx ry ⟨_,_,rfl,rfl,hm,k _ _ _ Ext.refl r (.int _)⟩
   ·cases e
  ·cases e
 ·cases e
theorem Gy (hu:UN X cl):fj X (compareOp .Eq) (BA X cl λ x y m=>(ql m x y).bind λ c m=>.ok (.bl c) m):=by
 intro aa s σ H x y v u Q I rx ry h;obtain ⟨β,m,wx,wy,w,m',r,qx,qy,e,k⟩:=h;obtain ⟨c,m1,e1,e2⟩:=R.ah e;cases e2;unfold ql at e1;split at e1
 ·rename_i d1 d2 f1 f2;cases e1;exact Ds hu.un aa s σ H _ _ v u Q I rx ry ⟨_,_,eF r _ qx f1,eF r _ qy f2,(cH _ f1).1,(cH _ f2).1,(cH _ f1).2,k _ _ _ Ext.refl r (.bl _)⟩
 ·cases e1
theorem Gz (hu:UN X cl):fj X (compareOp .NotEq) (BA X cl λ x y m=>((ql m x y).bind λ b m=>.ok (!b) m).bind λ c m=>.ok (.bl c) m):=by
 intro aa s σ H x y v u Q I rx ry h;obtain ⟨β,m,wx,wy,w,m',r,qx,qy,e,k⟩:=h;obtain ⟨c,m1,e1,e2⟩:=R.ah e;cases e2;obtain ⟨c,m1,e1,e2⟩:=R.ah e1;cases e2;unfold ql at e1;split at e1
 ·rename_i d1 d2 f1 f2;cases e1;exact Du hu.un aa s σ H _ _ v u Q I rx ry ⟨_,_,eF r _ qx f1,eF r _ qy f2,(cH _ f1).1,(cH _ f2).1,(cH _ f1).2,k _ _ _ Ext.refl r (.bl _)⟩
 ·cases e1
theorem iK (hu:UN X cl) (neg:Bool) {aa:List (Addr×Obj)} {s:Shared} {x y:V} {v u:Value} {Q:VK} {m m':Mem} {wx wy:W} {ys:List W} {c:Bool} (I:Inv X aa σ H s) (rx:RelV x v) (ry:RelV y u)
  (r:Rel X.K cl β m H) (qx:RW X.K β H wx x) (qy:RW X.K β H wy y) (e1:cu m wy=some ys) (e2:kM m wx ys=.ok c m') (k:m'=m->Q (.bl (if neg then !c else c)) H) :
  wpAny (model X.prog X.w) X.A (compareOp (if neg then .NotIn else .In) v u) (EP X aa σ Q) X.xe s:=by
 obtain ⟨a,vs,rfl,hs,t⟩:=r.cu qy e1;cases ry;unfold kM at e2;split at e2
 ·rename_i d es f1 f2;cases e2;have k:=k rfl;obtain ⟨l1,l2⟩:=cH _ f1;obtain ⟨l3,l4⟩:=fT (λ w d e=>cH 60 e) f2;have ds:Bv X.K H vs es:=fS (λ w v d _ q e=>eF r _ q e) t f2;obtain ⟨as,ra⟩:=I.reads (eF r _ qx f1) rx;have IC:X.A.units+1+min (PyData.depthAll es) d.depth < cLine:=by
   have:min (PyData.depthAll es) d.depth<=d.depth:=Nat.min_le_right _ _;have:=hu.un;omega
  rcases hs with hs | hs
  ·obtain ⟨bs,rb⟩:=I.reads (Dt.lst hs ds) (u:=Value.ref a) rfl;cases neg with
   | false=>exact SeqAt.in_list_reads rb ra l3 l1 IC ⟨.bl _,H,I,rfl,k⟩
   | true=>exact SeqAt.notIn_list_reads rb ra l3 l1 IC ⟨.bl _,H,I,rfl,k⟩
  ·obtain ⟨bs,rb⟩:=I.reads (Dt.tup hs ds) (u:=Value.ref a) rfl;cases neg with
   | false=>exact SeqAt.in_tuple_reads rb ra l3 l1 IC ⟨.bl _,H,I,rfl,k⟩
   | true=>exact SeqAt.notIn_tuple_reads rb ra l3 l1 IC ⟨.bl _,H,I,rfl,k⟩
 ·cases e2
theorem aZ.fQ:∀{ws:List W} {vs:List V} {ns:List Int},aZ K β H ws vs->D.fQ ws=some ns->vs=ns.map V.int
 | _,_,_,.nil,h=>by cases h; rfl
 | _,_,_,.cons (w:=w) q t,h=>by
  cases w with
  | int i=>
   simp only [D.fQ,Option.map_eq_some_iff] at h;obtain ⟨r,h1,rfl⟩:=h;cases q;rw [t.fQ h1]; rfl
  | _=>cases h
theorem ou {k:L2.Key} (q:RW K β H w v) (e:v9 w=some k):v=kV k:=by
 cases q with
 | int i=>cases e; rfl
 | str x=>cases e; rfl
 | _=>cases e
theorem GA (hu:UN X cl):fj X (compareOp .In) (BA X cl λ x y m=>(oi m x y).bind λ c m=>.ok (.bl c) m):=by
 rintro aa s σ H x y v u Q I rx ry ⟨β,m,wx,wy,w,m',r,qx,qy,e,k⟩;obtain ⟨c,m1,e1,e2⟩:=R.ah e;cases e2;unfold oi at e1;split at e1
 ·split at e1
  ·cases e1; cases qx; cases qy;exact tQ aa s σ H _ _ v u Q I rx ry ⟨_,_,rfl,rfl,k _ _ _ Ext.refl r (.bl _)⟩
  ·cases e1
 ·rename_i n;split at e1
  ·rename_i ys e0;exact iK hu false I rx ry r qx qy (by simp [cu,getL,e0]) e1 λ z=>by subst z; exact k _ _ _ Ext.refl r (.bl _)
  ·rename_i ks e0;split at e1
   ·rename_i kk e3;cases e1;cases qy with
    | ref hb=>
     obtain ⟨S,hS,hk⟩:=r.obj e0 hb;rw [hu.P,hu.w] at hS;refine ue aa s σ H _ _ v u Q I rx ry ⟨_,S,_,kk,rfl,ou qx e3,hS,?_⟩;rw [hk];exact k _ _ _ Ext.refl r (.bl _)
   ·cases e1
  ·rename_i fs e0;split at e1
   ·rename_i z;cases e1;cases qx;cases qy with
    | ref hb=>
     obtain ⟨gs,hg,t⟩:=r.obj e0 hb;cases ry;refine Kl (o:=gs.lookup z) (by have:=hu.un; omega) I (by rw [<-iJ]; exact .k (k:=.inr z) hg) rx λ s' I'=>⟨.bl _,H,I',rfl,?_⟩;rw [<-t.look.1];exact k _ _ _ Ext.refl r (.bl _)
   ·cases e1
  ·cases e1
 ·exact iK hu false I rx ry r qx qy rfl e1 λ z=>by subst z; exact k _ _ _ Ext.refl r (.bl _)
 ·exact iK hu false I rx ry r qx qy rfl e1 λ z=>by subst z; exact k _ _ _ Ext.refl r (.bl _)
 ·cases e1
theorem rO (q:RW K β H w v):decide (v=.non)=rL w:=by
 cases q<;>first | rfl | exact decide_eq_false (λ z=>nomatch z)
theorem iL (hu:UN X cl) (op:CmpOp):fj X (compareOp op) (BA X cl λ x y m=>(aC op x y m).bind λ c m=>.ok (.bl c) m):=by
 cases op with
 | Eq=>exact Gy hu
 | NotEq=>exact Gz hu
 | Lt=>
  rintro aa s σ H x y v u Q I rx ry ⟨β,m,wx,wy,w,m',r,qx,qy,e,k⟩;obtain ⟨c,m1,e1,e2⟩:=R.ah e;cases e2;unfold aC at e1;dsimp only at e1;split at e1
  ·cases e1; cases qx; cases qy;exact F8 aa s σ H _ _ v u Q I rx ry ⟨_,_,rfl,rfl,k _ _ _ Ext.refl r (.bl _)⟩
  ·cases e1; cases qx; cases qy;exact tP aa s σ H _ _ v u Q I rx ry ⟨_,_,rfl,rfl,k _ _ _ Ext.refl r (.bl _)⟩
  ·cases e1
 | LtE=>
  rintro aa s σ H x y v u Q I rx ry ⟨β,m,wx,wy,w,m',r,qx,qy,e,k⟩;obtain ⟨c,m1,e1,e2⟩:=R.ah e;cases e2;unfold aC at e1;dsimp only at e1;split at e1
  ·cases e1; cases qx; cases qy;exact F9 aa s σ H _ _ v u Q I rx ry ⟨_,_,rfl,rfl,k _ _ _ Ext.refl r (.bl _)⟩
  ·cases e1; cases qx; cases qy;exact uf aa s σ H _ _ v u Q I rx ry ⟨_,_,rfl,rfl,k _ _ _ Ext.refl r (.bl _)⟩
  ·cases e1
 | Gt=>
  rintro aa s σ H x y v u Q I rx ry ⟨β,m,wx,wy,w,m',r,qx,qy,e,k⟩;obtain ⟨c,m1,e1,e2⟩:=R.ah e;cases e2;unfold aC at e1;dsimp only at e1;split at e1
  ·cases e1; cases qx; cases qy;exact Ga aa s σ H _ _ v u Q I rx ry ⟨_,_,rfl,rfl,k _ _ _ Ext.refl r (.bl _)⟩
  ·cases e1
 | GtE=>
  rintro aa s σ H x y v u Q I rx ry ⟨β,m,wx,wy,w,m',r,qx,qy,e,k⟩;obtain ⟨c,m1,e1,e2⟩:=R.ah e;cases e2;unfold aC at e1;dsimp only at e1;split at e1
  ·cases e1; cases qx; cases qy;exact Gb aa s σ H _ _ v u Q I rx ry ⟨_,_,rfl,rfl,k _ _ _ Ext.refl r (.bl _)⟩
  ·cases e1
 | Is=>
  rintro aa s σ H x y v u Q I rx ry ⟨β,m,wx,wy,w,m',r,qx,qy,e,k⟩;obtain ⟨c,m1,e1,e2⟩:=R.ah e;cases e2;unfold aC at e1;dsimp only at e1;split at e1
  ·cases e1; cases qy;refine C0 aa s σ H _ _ v u Q I rx ry ⟨rfl,?_⟩;rw [rO qx];exact k _ _ _ Ext.refl r (.bl _)
  ·cases e1
 | IsNot=>
  rintro aa s σ H x y v u Q I rx ry ⟨β,m,wx,wy,w,m',r,qx,qy,e,k⟩;obtain ⟨c,m1,e1,e2⟩:=R.ah e;cases e2;unfold aC at e1;dsimp only at e1;split at e1
  ·cases e1; cases qy;refine zl aa s σ H _ _ v u Q I rx ry ⟨rfl,?_⟩;rw [rO qx];exact k _ _ _ Ext.refl r (.bl _)
  ·cases e1
 | In=>exact GA hu
 | NotIn=>
  rintro aa s σ H x y v u Q I rx ry ⟨β,m,wx,wy,w,m',r,qx,qy,e,k⟩;obtain ⟨c,m1,e1,e2⟩:=R.ah e;cases e2;unfold aC at e1;dsimp only at e1;split at e1
  ·rename_i n;split at e1
   ·rename_i ys e0;obtain ⟨c',m2,e3,e4⟩:=R.ah e1;cases e4;exact iK hu true I rx ry r qx qy (by simp [cu,getL,e0]) e3 λ z=>by subst z; exact k _ _ _ Ext.refl r (.bl _)
   ·rename_i fs e0;split at e1
    ·rename_i z;cases e1;cases qx;cases qy with
     | ref hb=>
      obtain ⟨gs,hg,t⟩:=r.obj e0 hb;cases ry;refine zG (o:=gs.lookup z) (by have:=hu.un; omega) I (by rw [<-iJ]; exact .k (k:=.inr z) hg) rx λ s' I'=>⟨.bl _,H,I',rfl,?_⟩;rw [<-t.look.1];exact k _ _ _ Ext.refl r (.bl _)
    ·cases e1
   ·cases e1
  ·obtain ⟨c',m2,e3,e4⟩:=R.ah e1;cases e4;exact iK hu true I rx ry r qx qy rfl e3 λ z=>by subst z; exact k _ _ _ Ext.refl r (.bl _)
  ·obtain ⟨c',m2,e3,e4⟩:=R.ah e1;cases e4;exact iK hu true I rx ry r qx qy rfl e3 λ z=>by subst z; exact k _ _ _ Ext.refl r (.bl _)
  ·cases e1
theorem zV {ws:List W} {i:Int} (t:aZ K β H ws vs) (e:nU ws i=some w):∃v,nU vs i=some v/\RW K β H w v:=by
 unfold nU at e ⊢;rw [<-t.length];cases h:qb ws.length i with
 | none=>rw [h] at e; cases e
 | some j=>rw [h] at e; exact t.get e
theorem DJ:C9 X (BA X cl bh):=by
 intro value slice aa s σ H x y v u Q I rx ry h hs;obtain ⟨β,m,wx,wy,w,m',r,qx,qy,e,k⟩:=h;unfold bh at e;split at e
 ·rename_i i;split at e
  ·split at e
   ·rename_i hl;split at e
    ·rename_i c e2;cases e; cases qx; cases qy;exact De value slice aa s σ H _ _ v u Q I rx ry ⟨_,_,_,rfl,rfl,Nat.le_trans hl bV,e2,k _ _ _ Ext.refl r (.str _)⟩ hs
    ·cases e
   ·cases e
  ·split at e
   ·rename_i ws e1;split at e
    ·rename_i w' e2;cases e; cases qy;obtain ⟨a,vs,rfl,hq,t⟩:=r.cu qx e1;obtain ⟨z,e3,qz⟩:=zV t e2;rcases hq with hq | hq
     ·exact zB value slice aa s σ H _ _ v u Q I rx ry ⟨_,_,_,_,rfl,rfl,hq,e3,k _ _ _ Ext.refl r qz⟩ hs
     ·exact Dc value slice aa s σ H _ _ v u Q I rx ry ⟨_,_,_,_,rfl,rfl,hq,e3,k _ _ _ Ext.refl r qz⟩ hs
    ·cases e
   ·cases e
 ·split at e
  ·split at e
   ·rename_i fs e0;split at e
    ·rename_i w' e2;cases e; cases qy;cases qx with
     | ref hb=>
      obtain ⟨gs,hg,t⟩:=r.obj e0 hb;obtain ⟨z,e3,qz⟩:=t.look.2 _ e2;exact DH value slice aa s σ H _ _ v u Q I rx ry ⟨_,_,_,_,rfl,rfl,hg,e3,k _ _ _ Ext.refl r qz⟩ hs
    ·cases e
   ·cases e
  ·cases e
 ·cases e
end
section
variable {X:L2.Cx} {cl:Cl} {C:D.Cx} {pos:Pos}
theorem wA {i:Nat} {x:Str} (hN:X.N[i]?=some x) (hv:FE X.env.scope x) (hd:(x==("__debug__":Str))=false) (hcd:(x==("__classdict__":Str))=false):PE X (.Name x pos) (SE X cl (ai C (.var i))):=by
 refine PE.imp (Cq hN hv hd hcd) ?_;rintro σ H Q ⟨β,ρ,m,w,m',r,l,e,k⟩;simp only [ai] at e;split at e
 ·rename_i w' e1;cases e;obtain ⟨v,e2,q⟩:=l.at_ e1;exact ⟨v,e2,k _ _ _ Ext.refl r q⟩
 ·cases e
theorem GB {i:Int}:PE X (.Constant (.int i) j pos) (SE X cl (ai C (.cst (.int i)))):=by
 refine PE.imp Cr ?_;rintro σ H Q ⟨β,ρ,m,w,m',r,l,e,k⟩;simp only [ai] at e;cases e;exact k _ _ _ Ext.refl r (.int i)
theorem KA {i:Bool}:PE X (.Constant (.bool i) j pos) (SE X cl (ai C (.cst (.bl i)))):=by
 refine PE.imp FH ?_;rintro σ H Q ⟨β,ρ,m,w,m',r,l,e,k⟩;simp only [ai] at e;cases e;exact k _ _ _ Ext.refl r (.bl i)
theorem GC:PE X (.Constant .none j pos) (SE X cl (ai C (.cst .non))):=by
 refine PE.imp Ct ?_;rintro σ H Q ⟨β,ρ,m,w,m',r,l,e,k⟩;simp only [ai] at e;cases e;exact k _ _ _ Ext.refl r .non
theorem GD {x:Str}:PE X (.Constant (.str x) j pos) (SE X cl (ai C (.cst (.str x)))):=by
 refine PE.imp vd ?_;rintro σ H Q ⟨β,ρ,m,w,m',r,l,e,k⟩;simp only [ai] at e;cases e;exact k _ _ _ Ext.refl r (.str x)
theorem GF {x:Str} (hg:Gl X x) (h:∃u v,X.mg x=some u/\RelV v u/\∀β H,RW X.K β H w v) (hd:(x==("__debug__":Str))=false):PE X (.Name x pos) (SE X cl (ai C (.cst w))):=by
 obtain ⟨u,v,h1,h2,h3⟩:=h;refine PE.imp (fc hg h1 h2 hd) ?_;rintro σ H Q ⟨β,ρ,m,w,m',r,l,e,k⟩;simp only [ai] at e;cases e;exact k _ _ _ Ext.refl r (h3 _ _)
variable {a b c:Expr} {da db dc:E}
theorem GG {op:Operator} (ha:PE X a (SE X cl (ai C da))) (hb:PE X b (SE X cl (ai C db))):PE X (.BinOp a op b pos) (SE X cl (ai C (.bin op da db))):=by
 refine PE.imp (F4 (DI (cl:=cl) op) ha hb) ?_;rintro σ H Q ⟨β,ρ,m,w,m',r,l,e,k⟩;simp only [ai] at e;obtain ⟨x,m1,e1,e⟩:=R.ah e;obtain ⟨y,m2,e2,e⟩:=R.ah e;refine ⟨β,ρ,m,x,m1,r,l,e1,fun β1 H1 v1 x1 r1 q1=>?_⟩;refine ⟨β1,ρ,m1,y,m2,r1,l.mono r x1,e2,fun β2 H2 v2 x2 r2 q2=>?_⟩;exact ⟨β2,m2,x,y,w,m',r2,q1.mono r1 x2,q2,e,fun β3 H3 v x3 r3 q3=>k β3 H3 v ((x1.trans r1 x2).trans r2 x3) r3 q3⟩
theorem GH {op:CmpOp} (hu:UN X cl) (ha:PE X a (SE X cl (ai C da))) (hb:PE X b (SE X cl (ai C db))) (hm:behindInMarks op b=false):PE X (.Compare a [op] [b] pos) (SE X cl (ai C (.cmp op da db))):=by
 refine PE.imp (lX (iL (cl:=cl) hu op) ha hb hm) ?_;rintro σ H Q ⟨β,ρ,m,w,m',r,l,e,k⟩;simp only [ai] at e;obtain ⟨x,m1,e1,e⟩:=R.ah e;obtain ⟨y,m2,e2,e⟩:=R.ah e;refine ⟨β,ρ,m,x,m1,r,l,e1,fun β1 H1 v1 x1 r1 q1=>?_⟩;refine ⟨β1,ρ,m1,y,m2,r1,l.mono r x1,e2,fun β2 H2 v2 x2 r2 q2=>?_⟩;exact ⟨β2,m2,x,y,w,m',r2,q1.mono r1 x2,q2,e,fun β3 H3 v x3 r3 q3=>k β3 H3 v ((x1.trans r1 x2).trans r2 x3) r3 q3⟩
theorem GI {op:CmpOp} (hu:UN X cl) (ha:PE X a (SE X cl (ai C da))) (hb:PE X b (SE X cl (ai C db))) (hm:behindInMarks op b=false):PT X (.Compare a [op] [b] pos) (ST X cl (aT C (.cmp op da db))):=by
 refine PT.imp (lY (iL (cl:=cl) hu op) ha hb hm) ?_;rintro σ H Q ⟨β,ρ,m,w,m',r,l,e,k⟩;simp only [aT] at e;obtain ⟨x,m1,e1,e⟩:=R.ah e;obtain ⟨y,m2,e2,e⟩:=R.ah e;refine ⟨β,ρ,m,x,m1,r,l,e1,fun β1 H1 v1 x1 r1 q1=>?_⟩;refine ⟨β1,ρ,m1,y,m2,r1,l.mono r x1,e2,fun β2 H2 v2 x2 r2 q2=>?_⟩;refine ⟨β2,m2,x,y,.bl w,m',r2,q1.mono r1 x2,q2,by dsimp only; rw [e]; rfl,fun β3 H3 v x3 r3 q3=>?_⟩;cases q3;exact ⟨w,rfl,k β3 H3 ((x1.trans r1 x2).trans r2 x3) r3⟩
theorem GJ (ha:PE X a (SE X cl (ai C da))):PE X (.UnaryOp .USub a pos) (SE X cl (ai C (.neg da))):=by
 refine PE.imp (F5 CZ ha) ?_;rintro σ H Q ⟨β,ρ,m,w,m',r,l,e,k⟩;simp only [ai] at e;obtain ⟨x,m1,e1,e⟩:=R.ah e;refine ⟨β,ρ,m,x,m1,r,l,e1,fun β1 H1 v1 x1 r1 q1=>?_⟩;split at e
 ·cases e; cases q1;exact ⟨_,rfl,k _ _ _ x1 r1 (.int _)⟩
 ·cases e
theorem GK (ha:PE X a (SE X cl (ai C da))):PE X (.UnaryOp .Not a pos) (SE X cl (ai C (.not da))):=by
 refine PE.imp (Cz ha) ?_;rintro σ H Q ⟨β,ρ,m,w,m',r,l,e,k⟩;simp only [ai] at e;obtain ⟨x,m1,e1,e⟩:=R.ah e;refine ⟨β,ρ,m,x,m1,r,l,e1,fun β1 H1 v1 x1 r1 q1=>?_⟩;split at e
 ·cases e; cases q1;exact ⟨_,rfl,k _ _ _ x1 r1 (.bl _)⟩
 ·cases e
theorem GL (ha:PT X a (ST X cl (aT C da))):PT X (.UnaryOp .Not a pos) (ST X cl (aT C (.not da))):=by
 refine PT.imp (Cw ha) ?_;rintro σ H Q ⟨β,ρ,m,w,m',r,l,e,k⟩;simp only [aT] at e;obtain ⟨x,m1,e1,e⟩:=R.ah e;cases e;exact ⟨β,ρ,m,x,_,r,l,e1,fun β1 H1 x1 r1=>k _ _ x1 r1⟩
variable {rest:List Expr}
theorem GN (ha:PE X a (SE X cl (ai C da))) (hb:PE X (.BoolOp .And (b::rest) pos) (SE X cl (ai C db))):PE X (.BoolOp .And (a::b::rest) pos) (SE X cl (ai C (.and da db))):=by
 refine PE.imp (Cy ha hb) ?_;rintro σ H Q ⟨β,ρ,m,w,m',r,l,e,k⟩;simp only [ai] at e;obtain ⟨x,m1,e1,e⟩:=R.ah e;refine ⟨β,ρ,m,x,m1,r,l,e1,fun β1 H1 v1 x1 r1 q1=>?_⟩;split at e
 ·rename_i c;cases q1;refine ⟨c,rfl,?_⟩;split at e
  ·rename_i hc;rw [if_pos hc];exact ⟨β1,ρ,m1,w,m',r1,l.mono r x1,e,fun β2 H2 v2 x2 r2 q2=>k _ _ _ (x1.trans r1 x2) r2 q2⟩
  ·rename_i hc;rw [if_neg hc];cases e;exact k _ _ _ x1 r1 (.bl _)
 ·cases e
theorem KC (ha:PE X a (SE X cl (ai C da))) (hb:PE X (.BoolOp .Or (b::rest) pos) (SE X cl (ai C db))):PE X (.BoolOp .Or (a::b::rest) pos) (SE X cl (ai C (.or da db))):=by
 refine PE.imp (FN ha hb) ?_;rintro σ H Q ⟨β,ρ,m,w,m',r,l,e,k⟩;simp only [ai] at e;obtain ⟨x,m1,e1,e⟩:=R.ah e;refine ⟨β,ρ,m,x,m1,r,l,e1,fun β1 H1 v1 x1 r1 q1=>?_⟩;split at e
 ·rename_i c;cases q1;refine ⟨c,rfl,?_⟩;split at e
  ·rename_i hc;rw [if_pos hc];cases e;exact k _ _ _ x1 r1 (.bl _)
  ·rename_i hc;rw [if_neg hc];exact ⟨β1,ρ,m1,w,m',r1,l.mono r x1,e,fun β2 H2 v2 x2 r2 q2=>k _ _ _ (x1.trans r1 x2) r2 q2⟩
 ·cases e
theorem w_and (ha:PT X a (ST X cl (aT C da))) (hb:PW X (.BoolOp .And (b::rest) pos) (ST X cl (aT C db))):PW X (.BoolOp .And (a::b::rest) pos) (ST X cl (aT C (.and da db))):=by
 refine PW.imp (Cv ha hb) ?_;rintro σ H Q ⟨β,ρ,m,w,m',r,l,e,k⟩;simp only [aT] at e;obtain ⟨x,m1,e1,e⟩:=R.ah e;refine ⟨β,ρ,m,x,m1,r,l,e1,fun β1 H1 x1 r1=>?_⟩;split at e
 ·rename_i hc;rw [if_pos hc];exact ⟨β1,ρ,m1,w,m',r1,l.mono r x1,e,fun β2 H2 x2 r2=>k _ _ (x1.trans r1 x2) r2⟩
 ·rename_i hc;rw [if_neg hc];cases e;exact k _ _ x1 r1
theorem w_or (ha:PT X a (ST X cl (aT C da))) (hb:PW X (.BoolOp .Or (b::rest) pos) (ST X cl (aT C db))):PW X (.BoolOp .Or (a::b::rest) pos) (ST X cl (aT C (.or da db))):=by
 refine PW.imp (FI ha hb) ?_;rintro σ H Q ⟨β,ρ,m,w,m',r,l,e,k⟩;simp only [aT] at e;obtain ⟨x,m1,e1,e⟩:=R.ah e;refine ⟨β,ρ,m,x,m1,r,l,e1,fun β1 H1 x1 r1=>?_⟩;split at e
 ·rename_i hc;rw [if_pos hc];cases e;exact k _ _ x1 r1
 ·rename_i hc;rw [if_neg hc];exact ⟨β1,ρ,m1,w,m',r1,l.mono r x1,e,fun β2 H2 x2 r2=>k _ _ (x1.trans r1 x2) r2⟩
theorem ux {m m':Mem} {b:Bool} (r:Rel K cl β m H) (q:RW K β H w v) (e:truthy m w=.ok b m'):m'=m/\C1 K v H b:=by
 cases q with
 | non=>cases e; exact ⟨rfl,rfl⟩
 | bl c=>cases e; exact ⟨rfl,rfl⟩
 | int i=>cases e; exact ⟨rfl,rfl⟩
 | str x=>
  simp only [truthy] at e;split at e
  ·rename_i h;cases e;exact ⟨rfl,Nat.le_trans h bV,rfl⟩
  ·cases e
 | tup h t=>
  cases e;refine ⟨rfl,.inr (.inl ⟨_,h,?_⟩)⟩;cases t<;>rfl
 | fz h t=>
  cases e;refine ⟨rfl,.inl ⟨_,h.l,?_⟩⟩;cases t<;>rfl
 | obj h e0 t=>cases e
 | ref h=>
  simp only [truthy] at e;split at e
  ·rename_i xs e1;cases e;obtain ⟨a,vs,z,hs,t⟩:=r.getL (.ref h) e1;cases z;refine ⟨rfl,.inl ⟨_,hs,?_⟩⟩;cases t<;>rfl
  ·cases e
theorem BB (ha:PE X a (SE X cl (ai C da))) (he:∀whole,isTrue a X.env whole=(do let v <-whole; standAt a.pos; holding [v] (PySem.truthy v))) (hd:∀ρ m,aT C da ρ m=(ai C da ρ m).bind λ w m=>D.truthy m w):PT X a (ST X cl (aT C da)):=by
 refine PT.imp (vz ha he) ?_;rintro σ H Q ⟨β,ρ,m,w,m',r,l,e,k⟩;rw [hd] at e;obtain ⟨x,m1,e1,e⟩:=R.ah e;refine ⟨β,ρ,m,x,m1,r,l,e1,fun β1 H1 v1 x1 r1 q1=>?_⟩;obtain ⟨rfl,z⟩:=ux r1 q1 e;exact ⟨w,z,k _ _ x1 r1⟩
theorem GO {t:Expr} {dt:E} (ht:PT X t (ST X cl (aT C dt))) (ha:PE X a (SE X cl (ai C da))) (hb:PE X b (SE X cl (ai C db))):PE X (.IfExp t a b pos) (SE X cl (ai C (.ife dt da db))):=by
 refine PE.imp (vf ht ha hb) ?_;rintro σ H Q ⟨β,ρ,m,w,m',r,l,e,k⟩;simp only [ai] at e;obtain ⟨x,m1,e1,e⟩:=R.ah e;refine ⟨β,ρ,m,x,m1,r,l,e1,fun β1 H1 x1 r1=>?_⟩;split at e
 ·rename_i hc;rw [if_pos hc];exact ⟨β1,ρ,m1,w,m',r1,l.mono r x1,e,fun β2 H2 v2 x2 r2 q2=>k _ _ _ (x1.trans r1 x2) r2 q2⟩
 ·rename_i hc;rw [if_neg hc];exact ⟨β1,ρ,m1,w,m',r1,l.mono r x1,e,fun β2 H2 v2 x2 r2 q2=>k _ _ _ (x1.trans r1 x2) r2 q2⟩
theorem zW {o1 o2:CmpOp} (hu:UN X cl) (ha:PE X a (SE X cl (ai C da))) (hb:PE X b (SE X cl (ai C db))) (hc:PE X c (SE X cl (ai C dc)))
  (h:PE X (.Compare a [o1,o2] [b,c] pos) (pU (BA X cl λ x y m=>(aC o1 x y m).bind λ c m=>.ok (.bl c) m) (BA X cl λ x y m=>(aC o2 x y m).bind λ c m=>.ok (.bl c) m) (SE X cl (ai C da)) (SE X cl (ai C db)) (SE X cl (ai C dc)))) :
  PE X (.Compare a [o1,o2] [b,c] pos) (SE X cl (ai C (.chain o1 o2 da db dc))):=by
 refine PE.imp h ?_;rintro σ H Q ⟨β,ρ,m,w,m',r,l,e,k⟩;simp only [ai] at e;obtain ⟨x,m1,e1,e⟩:=R.ah e;obtain ⟨y,m2,e2,e⟩:=R.ah e;obtain ⟨z,m3,e3,e⟩:=R.ah e;refine ⟨β,ρ,m,x,m1,r,l,e1,fun β1 H1 v1 x1 r1 q1=>?_⟩;refine ⟨β1,ρ,m1,y,m2,r1,l.mono r x1,e2,fun β2 H2 v2 x2 r2 q2=>?_⟩;have l2:=(l.mono r x1).mono r1 x2;refine ⟨β2,m2,x,y,.bl z,m3,r2,q1.mono r1 x2,q2,by dsimp only; rw [e3]; rfl,fun β3 H3 v3 x3 r3 q3=>?_⟩;cases q3;refine ⟨z,rfl,?_⟩;have GP:=(x1.trans r1 x2).trans r2 x3;split at e
 ·rename_i hc;rw [if_pos hc];obtain ⟨u,m4,e4,e⟩:=R.ah e;refine ⟨β3,ρ,m3,u,m4,r3,l2.mono r2 x3,e4,fun β4 H4 v4 x4 r4 q4=>?_⟩;exact ⟨β4,m4,y,u,w,m',r4,(q2.mono r2 x3).mono r3 x4,q4,e,fun β5 H5 v5 x5 r5 q5=>k _ _ _ ((GP.trans r3 x4).trans r4 x5) r5 q5⟩
 ·rename_i hc;rw [if_neg hc];cases e;exact k _ _ _ GP r3 (.bl _)
theorem BC:PA X [] (SA X cl (bg C .nil)):=by
 refine PA.imp ee ?_;rintro σ H Q ⟨β,ρ,m,w,m',r,l,e,k⟩;simp only [bg] at e;cases e;exact k _ _ _ Ext.refl r .nil
theorem qu {d:E} (ha:PE X a (SE X cl (ai C d))) (hr:PA X es (SA X cl (bg C ds))) (hs:starEach (a::es) X.env=(false,eval a X.env)::starEach es X.env):PA X (a::es) (SA X cl (bg C (.cons d ds))):=by
 refine PA.imp (cG ha hr hs) ?_;rintro σ H Q ⟨β,ρ,m,w,m',r,l,e,k⟩;simp only [bg] at e;obtain ⟨x,m1,e1,e⟩:=R.ah e;obtain ⟨y,m2,e2,e⟩:=R.ah e;cases e;refine ⟨β,ρ,m,x,m1,r,l,e1,fun β1 H1 v1 x1 r1 q1=>?_⟩;exact ⟨β1,ρ,m1,y,_,r1,l.mono r x1,e2,fun β2 H2 v2 x2 r2 q2=>k _ _ _ (x1.trans r1 x2) r2 (.cons (q1.mono r1 x2) q2)⟩
theorem GQ {x1} (ha:PA X es (SA X cl (bg C ds))):PE X (.Tuple es x1 pos) (SE X cl (ai C (.tup ds))):=by
 refine PE.imp (C5 ha) ?_;rintro σ H Q ⟨β,ρ,m,w,m',r,l,e,k⟩;simp only [ai] at e;obtain ⟨x,m1,e1,e⟩:=R.ah e;split at e
 ·rename_i hl;cases e;refine ⟨β,ρ,m,x,_,r,l,e1,fun β1 H1 v1 x1 r1 q1=>⟨by rw [<-q1.length]; exact Nat.le_trans hl bV,λ p hp=>?_⟩⟩;obtain ⟨x2,r2⟩:=r1.mJ hp v1;exact k _ _ _ (x1.trans r1 x2) r2 (.tup (.of aG) (q1.mono r1 x2))
 ·cases e
theorem GR (ha:PA X es (SA X cl (bg C ds))):PE X (.List es pos) (SE X cl (ai C (.lst ds))):=by
 refine PE.imp (C6 ha) ?_;rintro σ H Q ⟨β,ρ,m,w,m',r,l,e,k⟩;simp only [ai] at e;obtain ⟨x,m1,e1,e⟩:=R.ah e;split at e
 ·rename_i hl;cases e;refine ⟨β,ρ,m,x,_,r,l,e1,fun β1 H1 v1 x1 r1 q1=>⟨by rw [<-q1.length]; exact Nat.le_trans hl bV,λ p hp=>?_⟩⟩;obtain ⟨x2,r2⟩:=r1.newL hp q1;exact k _ _ _ (x1.trans r1 x2) r2 (.ref (r1.last p))
 ·cases e
theorem GS (ha:PE X a (SE X cl (ai C da))) (hb:PE X b (SE X cl (ai C db))) (hs:jx b):PE X (.Subscript a b pos) (SE X cl (ai C (.idx da db))):=by
 refine PE.imp (Br (DJ (cl:=cl)) ha hb hs) ?_;rintro σ H Q ⟨β,ρ,m,w,m',r,l,e,k⟩;simp only [ai] at e;obtain ⟨x,m1,e1,e⟩:=R.ah e;obtain ⟨y,m2,e2,e⟩:=R.ah e;refine ⟨β,ρ,m,x,m1,r,l,e1,fun β1 H1 v1 x1 r1 q1=>?_⟩;refine ⟨β1,ρ,m1,y,m2,r1,l.mono r x1,e2,fun β2 H2 v2 x2 r2 q2=>?_⟩;exact ⟨β2,m2,x,y,w,m',r2,q1.mono r1 x2,q2,e,fun β3 H3 v x3 r3 q3=>k β3 H3 v ((x1.trans r1 x2).trans r2 x3) r3 q3⟩
theorem DK:PO X none (Gx X cl (kN C .none)):=by
 refine PO.imp zy ?_;rintro σ H Q ⟨β,ρ,m,w,m',r,l,e,k⟩;simp only [kN] at e;cases e;exact k _ _ Ext.refl r
theorem DL (ha:PE X a (SE X cl (ai C da))):PO X (some a) (Gx X cl (kN C (.some da))):=by
 refine PO.imp (zz ha) ?_;rintro σ H Q ⟨β,ρ,m,w,m',r,l,e,k⟩;simp only [kN] at e;obtain ⟨x,m1,e1,e⟩:=R.ah e;refine ⟨β,ρ,m,x,m1,r,l,e1,fun β1 H1 v1 x1 r1 q1=>?_⟩;split at e
 ·cases e; cases q1;exact ⟨_,rfl,k _ _ x1 r1⟩
 ·cases e
theorem rP {ws:List W} {lo hi:Option Int} (t:aZ K β H ws vs):aZ K β H (cN ws lo hi) (mh vs lo hi):=by
 unfold cN mh;rw [<-t.length];exact (t.drop _).take _
theorem DM:Fd X (λ x lo hi H Q=>∃β m wx w m',Rel X.K cl β m H/\RW X.K β H wx x/\cK wx lo hi m=.ok w m'/\∀β' H' v,Ext β H β' H'->Rel X.K cl β' m' H'->RW X.K β' H' w v->Q v H'):=by
 intro aa s σ H x v vl vu lo hi sl Q I rx hs pl pu h;obtain ⟨β,m,wx,w,m',r,q,e,k⟩:=h;unfold cK at e;split at e
 ·cases e;cases q with
  | tup h t=>
   rename_i xs a vs
   by_cases hw:HT.bT vs.length 0 lo=0/\HT.bT vs.length vs.length hi=vs.length
   ·refine zR aa s σ H _ v vl vu lo hi sl Q I rx hs pl pu ⟨_,_,rfl,h,hw,k _ _ _ Ext.refl r ?_⟩;have:cN xs lo hi=xs:=by
     unfold cN;rw [t.length,hw.1,hw.2,<-t.length];simp
    rw [this];exact .tup h t
   ·refine C8 aa s σ H _ v vl vu lo hi sl Q I rx hs pl pu ⟨_,_,rfl,h,hw,λ p hp=>?_⟩;obtain ⟨x2,r2⟩:=r.mJ hp (mh _ lo hi);exact k _ _ _ x2 r2 (.tup (.of aG) ((rP t).mono r x2))
 ·split at e
  ·rename_i hl;cases e; cases q;exact DA aa s σ H _ v vl vu lo hi sl Q I rx hs pl pu ⟨_,rfl,Nat.le_trans hl bV,k _ _ _ Ext.refl r (.str _)⟩
  ·cases e
 ·split at e
  ·rename_i xs e1;cases e;obtain ⟨a,vs,rfl,hs',t⟩:=r.getL q e1;refine zC aa s σ H _ v vl vu lo hi sl Q I rx hs pl pu ⟨_,_,rfl,hs',λ p hp=>?_⟩;obtain ⟨x2,r2⟩:=r.newL hp (rP t);exact k _ _ _ x2 r2 (.ref (r.last p))
  ·cases e
theorem GU {lo hi:Option Expr} {dl dh:Oe} {p2:Pos} (ha:PE X a (SE X cl (ai C da))) (hl:PO X lo (Gx X cl (kN C dl))) (hh:PO X hi (Gx X cl (kN C dh))):PE X (.Subscript a (.Slice lo hi none p2) pos) (SE X cl (ai C (.slc da dl dh))):=by
 refine PE.imp (vG (DM (cl:=cl)) ha hl hh) ?_;rintro σ H Q ⟨β,ρ,m,w,m',r,l,e,k⟩;simp only [ai] at e;obtain ⟨x,m1,e1,e⟩:=R.ah e;obtain ⟨y,m2,e2,e⟩:=R.ah e;obtain ⟨z,m3,e3,e⟩:=R.ah e;refine ⟨β,ρ,m,x,m1,r,l,e1,fun β1 H1 v1 x1 r1 q1=>?_⟩;refine ⟨β1,ρ,m1,y,m2,r1,l.mono r x1,e2,fun β2 H2 x2 r2=>?_⟩;refine ⟨β2,ρ,m2,z,m3,r2,(l.mono r x1).mono r1 x2,e3,fun β3 H3 x3 r3=>?_⟩;exact ⟨β3,m3,x,w,m',r3,(q1.mono r1 x2).mono r2 x3,e,fun β4 H4 v x4 r4 q4=>k _ _ _ (((x1.trans r1 x2).trans r2 x3).trans r3 x4) r4 q4⟩
end
end D
end
section
namespace D
open PySem PySem.Spec PyProof.Rows L2 PySem.W List
def Mm (K:PySem.W.Frag) (H:Hp) (v:V) (ns:List Int):Prop:=∃a,v=.ref a/\cL K H a (ns.map V.int)
end D
end
section
namespace L2
open PySem PySem.Spec PyProof.Rows List
section
variable {X:Cx}
theorem lH:∀(l:List Str) (t:Nat),Vals (l.map V.str) (strsFrom t l)
 | [],_=>.nil
 | x::r,t=>by rw [strsFrom.eq_2]; exact .cons ⟨_,rfl⟩ (lH r (t+1))
theorem wB:yV X "str.split" (λ x xs H Q=>∃z y,x=.str z/\xs=[.str y]/\(y.length==0)=false/\z.length+2<=sizeLine/\∀p,H p=none->Q (.ref p) (upd H p (.lst ((Txt.split z y).map V.str)))):=by
 intro aa s σ H x xs v us Q I rx rv h;obtain ⟨z,y,rfl,rfl,h1,h2,q⟩:=h;obtain ⟨t,rfl⟩:=rx;obtain ⟨u,rfl,t2,rfl⟩:=Vals.one rv;have hf:H s.heap.objs.size=none:=I.hok.fresh (Nat.le_refl _);have hlen:(Txt.split z y).length<=z.length+2:=by
  have:=len_le_of_split (l:=(Txt.split z y).map λ x=>(x,0)) (x:=z) (y:=y) (by rw [map_map]; exact map_id _);rw [length_map] at this;exact this
 have fin:∀(its:List Value) (tk:Nat),Vals ((Txt.split z y).map V.str) its->EP X aa σ Q (.ref s.heap.objs.size) {heap:=s.heap.push {cls:=.type "list",data:=.seq its.toArray},gens:=s.gens,drawn:=s.drawn,toks:=tk,os:=s.os}:=λ its tk r=>by
  refine ⟨.ref s.heap.objs.size,upd H s.heap.objs.size (.lst ((Txt.split z y).map V.str)),I.laid (t':=tk) (λ b u e=>Heap.get?_push_of_some _ e) (Nat.le_refl _) ?_,rfl,q _ hf⟩;exact ⟨by rw [length_map]; omega,its,0,r,Heap.get?_push_size _ rfl⟩
 by_cases c1:(decide (z.length < y.length)||decide (Builtin.Str.strKind z < Builtin.Str.strKind y))=true
 ·have e:Txt.split z y=[z]:=by unfold Txt.split; rw [if_pos c1]
  refine call_meets F.slot_str_split (typeIs_str s z t) F.entry_str_split (F.args_str_split_2 _ _) (meets_str_split_cannot_occur z y t t2 c1) ?_;exact fin [.str z t] s.toks (by rw [e]; exact .cons ⟨_,rfl⟩ .nil)
 ·have LD:(decide (z.length < y.length)||decide (Builtin.Str.strKind z < Builtin.Str.strKind y))=false:=by simpa using c1
  by_cases c2:(Builtin.Str.occurrences z y 0 z.length (z.length+1)).isEmpty=true
  ·have e:Txt.split z y=[z]:=by unfold Txt.split; rw [if_neg c1,if_pos c2]
   refine call_meets F.slot_str_split (typeIs_str s z t) F.entry_str_split (F.args_str_split_2 _ _) (meets_str_split_not_found z y t t2 LD h1 c2) ?_;exact fin [.str z t] s.toks (by rw [e]; exact .cons ⟨_,rfl⟩ .nil)
  ·have Mn:(Builtin.Str.occurrences z y 0 z.length (z.length+1)).isEmpty=false:=by simpa using c2
   have e:Txt.split z y=Builtin.Str.partsBetween z (Builtin.Str.occurrences z y 0 z.length (z.length+1)) y.length:=by unfold Txt.split; rw [if_neg c1,if_neg c2]
   refine call_meets F.slot_str_split (typeIs_str s z t) F.entry_str_split (F.args_str_split_2 _ _) (meets_str_split_sep z y t t2 LD h1 Mn (by omega) (by rw [<-e]; omega)) ?_;exact fin _ _ (by rw [e]; exact lH _ _)
theorem zX:yV X "str.endswith" (λ x xs H Q=>∃z y,x=.str z/\xs=[.str y]/\Q (.bl (Txt.endswith z y)) H):=by
 intro aa s σ H x xs v us Q I rx rv h;obtain ⟨z,y,rfl,rfl,q⟩:=h;obtain ⟨t,rfl⟩:=rx;obtain ⟨u,rfl,t2,rfl⟩:=Vals.one rv;exact SC.endswith ⟨.bl _,H,I,rfl,q⟩
theorem mK:bU X (.type "str") (λ xs H Q=>∃z,xs=[.str z]/\Q (.str z) H):=by
 intro aa s σ H xs us Q I r h;obtain ⟨z,rfl,q⟩:=h;obtain ⟨u,rfl,t,rfl⟩:=vals1 r;exact P.str_of_str ⟨.str _,H,I,⟨_,rfl⟩,q⟩
theorem mL:bU X (.type "int") (λ xs H Q=>∃z n,xs=[.str z]/\intText? z=some n/\z.length<=640/\Q (.int n) H):=by
 intro aa s σ H xs us Q I r h;obtain ⟨z,n,rfl,h1,h2,q⟩:=h;obtain ⟨u,rfl,t,rfl⟩:=vals1 r;exact PySem.W.KIN.call_text h1 h2 ⟨.int _,H,I.tok _,⟨_,rfl⟩,q⟩
structure wC (K:PySem.W.Frag) (C:Addr):Prop where
 cls:tV K C
 ha:PySem.W.findIn K (.ref C) "__class__"=some (some (.builtin "object.__class__"))
 hn:PySem.W.specialIn K (.builtin "object.__class__") "__get__"=some (some (.builtin "getset_descriptor.__get__"))
 htk:PySem.W.takesIn K (.builtin "object.__class__")=some true
 hm:PySem.W.mroIn K C (.type "object")=some true
end
end L2
end
section
namespace D
open PySem PySem.Spec PyProof.Rows L2 List
variable {C:D.Cx} {H H' H0:Hp} {K:PySem.W.Frag} {Q:Value->Shared->Prop} {X:L2.Cx} {args elts es ifs:List Expr} {b e elt iter o tg:Expr} {body:List Stmt} {c y:Str} {cl:Cl} {d da db:E} {di ds:Es} {dx z:Addr} {env:Env} {f:Expr->Option E} {gens:List Comprehension} {h h':Heap} {i n:Nat} {id name:String} {j:ZJ} {js:List ZJ} {ks:List (Bool×Addr×Addr)} {m m':Mem} {p p2 pos px py spos tpos:Pos} {aa:List (Addr×Obj)} {q:Bool×Addr} {qs:List (Bool×Addr)} {rest:G} {s:Shared} {scope:Scope} {st:Stmt} {t:T} {v:V} {vs xs:List V} {w:W} {β β' β0 γ:List Addr} {ρ:Loc} {σ:L2.St}
section
variable {X:L2.Cx} {cl:Cl} {C:D.Cx} {pos:Pos}
noncomputable def wD:B->Value
 | .len=>.builtin "len" | .abs=>.builtin "abs" | .max=>.builtin "max" | .min=>.builtin "min" | .divmod=>.builtin "divmod" | .all=>.builtin "all" | .any=>.builtin "any"
 | .list=>.type "list" | .tuple=>.type "tuple" | .int=>.type "int" | .sorted=>.builtin "sorted" | .sum=>.builtin "sum" | .repr=>.builtin "repr" | .str=>.type "str"
theorem eU (h:aZ K β H [w] vs):∃v,vs=[v]/\RW K β H w v:=by
 cases h with
 | cons q t=>cases t; exact ⟨_,rfl,q⟩
theorem zY {w':W} (h:aZ K β H [w,w'] vs):∃v v',vs=[v,v']/\RW K β H w v/\RW K β H w' v':=by
 cases h with
 | cons q t=>obtain ⟨v',rfl,q'⟩:=eU t; exact ⟨_,_,rfl,q,q'⟩
theorem aZ.tups:∀{ws:List W} {vs:List V} {Iz:List (List Int)},aZ K β H ws vs->dG wc ws=some Iz->Paired (Mm K H) vs Iz
 | _,_,_,.nil,h=>by cases h; exact .nil
 | _,_,_,.cons (w:=w) q t,h=>by
  simp only [dG] at h;split at h
  ·cases h
  ·rename_i d h1;split at h
   ·cases h
   ·rename_i ds h2;cases h;refine .cons ?_ (t.tups h2);cases w with
    | tup xs=>
     cases q with
     | tup hs t'=>
      have:=t'.fQ h1;subst this;exact ⟨_,rfl,hs⟩
    | _=>cases h1
set_option maxHeartbeats 2000000 in
theorem wF (hu:UN X cl) (hc:X.calm=true) (hh:X.A.handled=none) (b:B):bU X (wD b) (Ml X cl (bu b)):=by
 intro aa s σ H xs us Q I rv h;obtain ⟨β,m,ws,w,m',r,q,e,k⟩:=h;unfold bu at e;split at e
 ·split at e
  ·
   split at e
   ·split at e
    ·rename_i hl;cases e;obtain ⟨v,rfl,qv⟩:=eU q;cases qv;exact mC aa s σ H _ us Q I rv ⟨_,rfl,Nat.le_trans hl bV,k _ _ _ Ext.refl r (.int _)⟩
    ·cases e
   ·split at e
    ·rename_i ys e1;cases e;obtain ⟨v,rfl,qv⟩:=eU q;obtain ⟨a,vs,rfl,hs,t⟩:=r.cu qv e1;exact mz aa s σ H _ us Q I rv ⟨_,_,rfl,hs,k _ _ _ Ext.refl r (by rw [<-t.length]; exact .int _)⟩
    ·cases e
  ·cases e
 ·split at e
  ·
   cases e;obtain ⟨v,rfl,qv⟩:=eU q;cases qv;exact vA aa s σ H _ us Q I rv ⟨_,rfl,k _ _ _ Ext.refl r (.int _)⟩
  ·cases e
 ·split at e
  ·cases e;obtain ⟨v,v',rfl,qv,qv'⟩:=zY q;cases qv; cases qv';exact tR hc aa s σ H _ us Q I rv ⟨_,_,rfl,k _ _ _ Ext.refl r (.int _)⟩
  ·cases e
 ·split at e
  ·cases e;obtain ⟨v,v',rfl,qv,qv'⟩:=zY q;cases qv; cases qv';exact tS hc aa s σ H _ us Q I rv ⟨_,_,rfl,k _ _ _ Ext.refl r (.int _)⟩
  ·cases e
 ·split at e
  ·split at e
   ·rename_i hd;cases e;obtain ⟨v,v',rfl,qv,qv'⟩:=zY q;cases qv; cases qv';refine nO aa s σ H _ us Q I rv ⟨_,_,rfl,hd,λ p hp=>?_⟩;obtain ⟨x2,r2⟩:=r.mJ hp [.int _,.int _];exact k _ _ _ x2 r2 (.tup (.of aG) (.cons (.int _) (.cons (.int _) .nil)))
   ·cases e
  ·cases e
 ·split at e
  ·
   split at e
   ·rename_i ys e1;split at e
    ·rename_i bs e2;cases e;obtain ⟨v,rfl,qv⟩:=eU q;obtain ⟨a,vs,rfl,hs,t⟩:=r.getL qv e1;have z:=t.bools e2;subst z;exact vS hh aa s σ H _ us Q I rv ⟨_,_,rfl,hs,k _ _ _ Ext.refl r (.bl _)⟩
    ·cases e
   ·cases e
  ·cases e
 ·split at e
  ·
   split at e
   ·rename_i ys e1;cases e;obtain ⟨v,rfl,qv⟩:=eU q;obtain ⟨a,vs,rfl,hs,t⟩:=r.cu qv e1;refine mD aa s σ H _ us Q I rv ⟨_,_,rfl,hs,λ p hp=>?_⟩;obtain ⟨x2,r2⟩:=r.newL hp t;exact k _ _ _ x2 r2 (.ref (r.last p))
   ·cases e
  ·cases e
 ·split at e
  ·split at e
   ·rename_i ys e1;cases e;obtain ⟨v,rfl,qv⟩:=eU q;obtain ⟨a,vs,rfl,hs,t⟩:=r.cu qv e1;refine kG aa s σ H _ us Q I rv ⟨_,vs,rfl,?_⟩;rcases hs with hs | hs
    ·refine .inl ⟨hs,λ p hp=>?_⟩;obtain ⟨x2,r2⟩:=r.mJ hp vs;exact k _ _ _ x2 r2 (.tup (.of aG) (t.mono r x2))
    ·exact .inr ⟨hs,k _ _ _ Ext.refl r (.tup hs t)⟩
   ·cases e
  ·cases e
 ·split at e
  ·cases e;obtain ⟨v,rfl,qv⟩:=eU q;cases qv;exact kY aa s σ H _ us Q I rv (.inl ⟨_,rfl,k _ _ _ Ext.refl r (.int _)⟩)
  ·cases e;obtain ⟨v,rfl,qv⟩:=eU q;cases qv;exact kY aa s σ H _ us Q I rv (.inr ⟨_,rfl,k _ _ _ Ext.refl r (.int _)⟩)
  ·split at e
   ·rename_i hn;split at e
    ·rename_i hz;cases e;obtain ⟨v,rfl,qv⟩:=eU q;cases qv;exact mL aa s σ H _ us Q I rv ⟨_,_,rfl,hn,hz,k _ _ _ Ext.refl r (.int _)⟩
    ·cases e
   ·cases e
  ·cases e
 ·split at e
  ·split at e
   ·rename_i hz;cases e;obtain ⟨v,rfl,qv⟩:=eU q;cases qv;exact lZ aa s σ H _ us Q I rv ⟨_,rfl,hz,k _ _ _ Ext.refl r (.str _)⟩
   ·cases e
  ·cases e;obtain ⟨v,rfl,qv⟩:=eU q;cases qv;exact mK aa s σ H _ us Q I rv ⟨_,rfl,k _ _ _ Ext.refl r (.str _)⟩
  ·cases e
 ·split at e
  ·split at e
   ·rename_i d e1;split at e
    ·rename_i hd;cases e;obtain ⟨v,rfl,qv⟩:=eU q;have z:=eF r _ qv e1;simp only [Ff,Bool.and_eq_true,Bool.not_eq_true',decide_eq_true_eq] at hd;obtain ⟨a,rfl⟩:∃a,v=.ref a:=by
      have KD:=hd.1.1.1.1.1;cases z<;>first | exact ⟨_,rfl⟩ | cases KD
     exact t8 hu.gd hu.un aa s σ H _ us Q I rv ⟨_,d,rfl,z,hd.1.1.1.1.2,hd.1.1.1.2,hd.1.1.2,hd.1.2,hd.2,k _ _ _ Ext.refl r (.str _)⟩
    ·cases e
   ·cases e
  ·cases e
 ·cases e
theorem DN {x:Str} {b:B} {a:Expr} (hu:UN X cl) (hc:X.calm=true) (hh:X.A.handled=none) (hb:wD b=.builtin id) (hg:Gl X x) (hm:X.mg x=none) (hv:bootBuiltins x=some (.builtin id)) (ha:PA X (a::es) (SA X cl (bg C ds)))
  (hn:x≠"__name__") (hdb:(x==("__debug__":Str))=false) (he:starEach (a::es) X.env=(false,eval a X.env)::starEach es X.env) (hpl:(backTo pos (starEach es X.env)).any (·.1)=false):PE X (.Call (.Name x p) (a::es) [] pos) (SE X cl (ai C (.blt b ds))):=by
 refine PE.imp (gU (hb▸wF (cl:=cl) hu hc hh b) hg hm hv ha hn hdb he hpl) ?_;rintro σ H Q ⟨β,ρ,m,w,m',r,l,e,k⟩;simp only [ai] at e;obtain ⟨x,m1,e1,e⟩:=R.ah e;exact ⟨β,ρ,m,x,m1,r,l,e1,fun β1 H1 v1 x1 r1 q1=>⟨β1,m1,x,w,m',r1,q1,e,fun β2 H2 v2 x2 r2 q2=>k _ _ _ (x1.trans r1 x2) r2 q2⟩⟩
theorem DO {x:Str} {b:B} {a:Expr} (hu:UN X cl) (hc:X.calm=true) (hh:X.A.handled=none) (hb:wD b=.type id) (hg:Gl X x) (hm:X.mg x=none) (hv:bootBuiltins x=some (.type id)) (ha:PA X (a::es) (SA X cl (bg C ds)))
  (hn:x≠"__name__") (hdb:(x==("__debug__":Str))=false) (he:starEach (a::es) X.env=(false,eval a X.env)::starEach es X.env) (hpl:(backTo pos (starEach es X.env)).any (·.1)=false):PE X (.Call (.Name x p) (a::es) [] pos) (SE X cl (ai C (.blt b ds))):=by
 refine PE.imp (gf (hb▸wF (cl:=cl) hu hc hh b) hg hm hv ha hn hdb he hpl) ?_;rintro σ H Q ⟨β,ρ,m,w,m',r,l,e,k⟩;simp only [ai] at e;obtain ⟨x,m1,e1,e⟩:=R.ah e;exact ⟨β,ρ,m,x,m1,r,l,e1,fun β1 H1 v1 x1 r1 q1=>⟨β1,m1,x,w,m',r1,q1,e,fun β2 H2 v2 x2 r2 q2=>k _ _ _ (x1.trans r1 x2) r2 q2⟩⟩
theorem Rel.zZ (r:Rel K cl β m H) {p:Addr} (hp:H p=none) (o:HO):Ext β H β (upd H p o)/\Rel K cl β m (upd H p o):=by
 have x:Ext β H β (upd H p o):=⟨⟨[],by simp,by simp⟩,λ h _ _=>by rw [av (aB h hp)]; exact h⟩;refine ⟨x,r.len,r.nd,λ h1 h2=>?_⟩;have q:=r.obj h1 h2;obtain ⟨u,e,_⟩:=q.ex;exact q.mono r x (av (aB e hp))
theorem wG (n:Nat):aZ K β H ((List.range n).map λ i=>W.int (i:Nat)) (L2.upTo n):=by
 unfold L2.upTo;generalize List.range n=l
 induction l with
 | nil=>exact .nil
 | cons a l ih=>exact .cons (.int _) ih
theorem DP {a:Expr} {pos2:Pos} (hh:X.A.handled=none) (hg:Gl X "list") (hm:X.mg "list"=none) (z6:Gl X "range") (hm2:X.mg "range"=none) (ha:PE X a (SE X cl (ai C d))) (he:starEach [a] X.env=[(false,eval a X.env)]) :
  PE X (.Call (.Name "list" p) [.Call (.Name "range" p2) [a] [] pos2] [] pos) (SE X cl (ai C (.lrng d))):=by
 refine PE.imp (gf (kL hh) hg hm (by decide +kernel) (cG (gf vY z6 hm2 (by decide +kernel) (cG ha ee he) (by decide +kernel) (by decide +kernel) he rfl) ee) (by decide +kernel) (by decide +kernel) rfl rfl) ?_;rintro σ H Q ⟨β,ρ,m,w,m',r,l,e,k⟩;simp only [ai] at e;obtain ⟨x,m1,e1,e⟩:=R.ah e;split at e
 ·rename_i j;split at e
  ·rename_i hj;cases e;refine ⟨β,ρ,m,.int j,_,r,l,e1,fun β1 H1 v1 x1 r1 q1=>?_⟩;cases q1;refine ⟨j,rfl,λ p hp=>?_⟩;obtain ⟨x2,r2⟩:=r1.zZ hp (.rng 0 j);refine ⟨p,j.toNat,rfl,by rw [aG,Int.toNat_of_nonneg hj.1],by omega,λ q hq=>?_⟩;obtain ⟨x3,r3⟩:=r2.newL hq (wG j.toNat);exact k _ _ _ ((x1.trans r1 x2).trans r2 x3) r3 (.ref (r2.last q))
  ·cases e
 ·cases e
noncomputable def cy:List String:=["int","bool","str","list","tuple","dict","NoneType"]
theorem qw (K:PySem.W.Frag):∀t∈cy,∀c∈cy,PySem.W.kitOne K (.type t) (.type c)=some (t==c||(t=="bool"&&c=="int")):=by
 intro t ht c hc;simp only [cy,mem_cons,not_mem_nil,or_false] at ht hc;rcases ht with rfl | rfl | rfl | rfl | rfl | rfl | rfl<;>rcases hc with rfl | rfl | rfl | rfl | rfl | rfl | rfl<;>with_unfolding_all rfl
theorem wH {a:Addr} {c:Value} {b:Bool} {A:Around} {E:Value->Shared->Prop} (I:Inv X aa σ H s) (h:cL X.K H a vs) (e:PySem.W.kitOne X.K (.type "tuple") c=some b) (q:∀tk,Q (.bool b) {s with toks:=tk}) :
  wpAny (model X.prog X.w) A (call (.builtin "isinstance") [.ref a,c]) Q E s:=by
 obtain ⟨its,rv,⟨o,e1,e2,n,e3⟩,hz⟩:=I.tuple h;exact PySem.W.kia_one PySem.W.kitx_tuple I.gA ⟨_,e1,e2⟩ e (λ z=>nomatch z) q
theorem ow {a:Addr} {c:Value} {b:Bool} {A:Around} {E:Value->Shared->Prop} (I:Inv X aa σ H s) (h:fJ X.K H a vs) (e:PySem.W.kitOne X.K (.type "list") c=some b) (q:∀tk,Q (.bool b) {s with toks:=tk}) :
  wpAny (model X.prog X.w) A (call (.builtin "isinstance") [.ref a,c]) Q E s:=by
 obtain ⟨its,rv,⟨o,n,e1,e2,e3,e4⟩,hz⟩:=I.list h;exact PySem.W.kia_one PySem.W.kitx_list I.gA ⟨_,e1,e2⟩ e (λ z=>nomatch z) q
theorem DQ {t:String} (ht:t∈cy):bU X (.builtin "isinstance") (λ xs H Q=>∃x,xs=[x,.ty t]/\∃β m w b,Rel X.K cl β m H/\RW X.K β H w x/\gX m t w=some b/\Q (.bl b) H):=by
 intro aa s σ H xs us Q I rv h;obtain ⟨x,rfl,β,m,w,b,r,q,e,k⟩:=h;obtain ⟨u,u',rfl,r1,r2⟩:=vals2 rv;cases r2;have fin:∀tk,EP X aa σ Q (.bool b) {s with toks:=tk}:=λ tk=>⟨.bl b,H,I.tok tk,rfl,k⟩;cases q with
 | non=>simp only [gX] at e; exact gb I r1 .non (by rw [qw _ _ (by decide) _ ht,<-e]; simp only [cy,mem_cons,not_mem_nil,or_false] at ht; rcases ht with rfl | rfl | rfl | rfl | rfl | rfl | rfl<;>rfl) fin
 | bl c=>simp only [gX] at e; exact gb I r1 (.bl c) (by rw [qw _ _ (by decide) _ ht,<-e]; simp only [cy,mem_cons,not_mem_nil,or_false] at ht; rcases ht with rfl | rfl | rfl | rfl | rfl | rfl | rfl<;>rfl) fin
 | int i=>simp only [gX] at e; exact gb I r1 (.int i) (by rw [qw _ _ (by decide) _ ht,<-e]; simp only [cy,mem_cons,not_mem_nil,or_false] at ht; rcases ht with rfl | rfl | rfl | rfl | rfl | rfl | rfl<;>rfl) fin
 | str y=>simp only [gX] at e; exact gb I r1 (.str y) (by rw [qw _ _ (by decide) _ ht,<-e]; simp only [cy,mem_cons,not_mem_nil,or_false] at ht; rcases ht with rfl | rfl | rfl | rfl | rfl | rfl | rfl<;>rfl) fin
 | tup h tt=>
  simp only [gX] at e;cases r1;exact wH I h (by rw [qw _ _ (by decide) _ ht,<-e]; simp only [cy,mem_cons,not_mem_nil,or_false] at ht; rcases ht with rfl | rfl | rfl | rfl | rfl | rfl | rfl<;>rfl) fin
 | fz h tt=>
  simp only [gX] at e;cases r1;exact ow I h.l (by rw [qw _ _ (by decide) _ ht,<-e]; simp only [cy,mem_cons,not_mem_nil,or_false] at ht; rcases ht with rfl | rfl | rfl | rfl | rfl | rfl | rfl<;>rfl) fin
 | obj h e0 tt=>simp only [gX] at e; cases e
 | ref h=>
  simp only [gX] at e;cases r1;rename_i n0 a0;have go:∀{vs:List V},fJ X.K H a0 vs->some (t=="list")=some b->wpAny (model X.prog X.w) X.A (call (.builtin "isinstance") [.ref a0,.type t]) (EP X aa σ Q) X.xe s:=λ {vs} hs e=>ow (A:=X.A) (E:=X.xe) I hs (c:=.type t) (b:=b) (by rw [qw _ _ (by decide) _ ht,<-e]; simp only [cy,mem_cons,not_mem_nil,or_false] at ht; rcases ht with rfl | rfl | rfl | rfl | rfl | rfl | rfl<;>rfl) fin;split at e
  ·rename_i xs e1;obtain ⟨vs,z,_⟩:=r.obj e1 h;exact go (.inl (.inl z)) e
  ·cases e
theorem GV {a:Expr} {t:Str} {tn:String} (ht:tn∈cy) (hg:Gl X "isinstance") (hm:X.mg "isinstance"=none) (z6:Gl X t) (hm2:X.mg t=none) (hb2:bootBuiltins t=some (.type tn)) (ha:PE X a (SE X cl (ai C d)))
  (hn:t≠"__name__") (hdb:(t==("__debug__":Str))=false) (he:starEach [a,.Name t p2] X.env=(false,eval a X.env)::starEach [.Name t p2] X.env):PE X (.Call (.Name "isinstance" p) [a,.Name t p2] [] pos) (SE X cl (ai C (.isI d tn))):=by
 refine PE.imp (gU (DQ (cl:=cl) ht) hg hm (by decide +kernel) (cG ha (cG (yZ (v:=.ty tn) (u:=.type tn) z6 hm2 hb2 rfl hn hdb) ee) he) (by decide +kernel) (by decide +kernel) he rfl) ?_;rintro σ H Q ⟨β,ρ,m,w,m',r,l,e,k⟩;simp only [ai] at e;obtain ⟨x,m1,e1,e⟩:=R.ah e;split at e
 ·rename_i b e2;cases e;exact ⟨β,ρ,m,x,_,r,l,e1,fun β1 H1 v1 x1 r1 q1=>⟨v1,rfl,β1,_,x,b,r1,q1,e2,k _ _ _ x1 r1 (.bl b)⟩⟩
 ·cases e
noncomputable def SM (X:L2.Cx) (cl:Cl) (name:String):V->List V->Hp->VK->Prop:=λ x xs H Q=>∃β m wx ws w m',Rel X.K cl β m H/\RW X.K β H wx x/\aZ X.K β H ws xs/\br wx name ws m=.ok w m'/\∀β' H' v,Ext β H β' H'->Rel X.K cl β' m' H'->RW X.K β' H' w v->Q v H'
theorem z7 (h:iI name=.lst):¬name="join"/\¬name="index"/\¬name="add"/\¬name="endswith"/\¬name="split":=by
 unfold iI at h;split at h
 ·cases h
 ·rename_i h1;split at h
  ·cases h
  ·rename_i h2;exact ⟨λ z=>h1 (.inl z),λ z=>h1 (.inr (.inl z)),h2,λ z=>h1 (.inr (.inr (.inl z))),λ z=>h1 (.inr (.inr (.inr z)))⟩
theorem fU {o:W} {ws:List W} (hn:iI name=.lst) (e:br o name ws m=.ok w m'):∃n ys,o=.ref n/\m[n]?=some (.lst ys)/\dJ n ys name ws m=.ok w m':=by
 obtain ⟨h1,h2,h3,h4,h5⟩:=z7 hn;unfold br at e;split at e
 ·split at e
  ·rename_i n _ ys e1;exact ⟨_,_,rfl,e1,e⟩
  ·simp only [gi,h3,if_false] at e; cases e
  ·cases e
 ·simp only [i9,h1,h2,h4,h5,if_false] at e; cases e
 ·cases e
theorem uy:u6 X "list.append" (SM X cl "append"):=by
 intro aa s σ H x xs v us Q I rx rv h;obtain ⟨β,m,wx,ws,w,m',r,qx,qs,e,k⟩:=h;obtain ⟨n,ys,rfl,e0,e⟩:=fU (by decide) e;simp only [dJ,if_pos] at e;unfold gY at e;split at e
 ·split at e
  ·rename_i hl;cases e;obtain ⟨a,vs,rfl,hb,ha,t⟩:=r.lst qx e0;obtain ⟨v1,rfl,q1⟩:=eU qs;obtain ⟨x2,r2⟩:=r.uw e0 hb (t.append (.cons q1 .nil));exact lA aa s σ H _ _ v us Q I rx rv ⟨_,_,_,rfl,rfl,ha,Nat.lt_of_lt_of_le (by rw [<-t.length]; exact hl) bV,k _ _ _ x2 r2 .non⟩
  ·cases e
 ·cases e
theorem wI:u6 X "list.clear" (SM X cl "clear"):=by
 intro aa s σ H x xs v us Q I rx rv h;obtain ⟨β,m,wx,ws,w,m',r,qx,qs,e,k⟩:=h;obtain ⟨n,ys,rfl,e0,e⟩:=fU (by decide) e;simp only [dJ,if_pos,String.reduceEq,if_false] at e;unfold rM at e;split at e
 ·cases e;obtain ⟨a,vs,rfl,hb,ha,t⟩:=r.lst qx e0;cases qs;obtain ⟨x2,r2⟩:=r.uw e0 hb .nil;exact vK aa s σ H _ _ v us Q I rx rv ⟨_,_,rfl,rfl,ha,k _ _ _ x2 r2 .non⟩
 ·cases e
theorem DR:u6 X "list.pop" (SM X cl "pop"):=by
 intro aa s σ H x xs v us Q I rx rv h;obtain ⟨β,m,wx,ws,w,m',r,qx,qs,e,k⟩:=h;obtain ⟨n,ys,rfl,e0,e⟩:=fU (by decide) e;simp only [dJ,if_pos,String.reduceEq,if_false] at e;unfold rN at e;obtain ⟨a,vs,rfl,hb,ha,t⟩:=r.lst qx e0;split at e
 ·split at e
  ·rename_i y e1;cases e;cases qs;obtain ⟨z,e2,qz⟩:=t.get e1;obtain ⟨x2,r2⟩:=r.uw e0 hb t.dropLast;exact Dh aa s σ H _ _ v us Q I rx rv ⟨_,_,_,rfl,rfl,ha,by rw [<-t.length]; exact e2,k _ _ _ x2 r2 (qz.mono r x2)⟩
  ·cases e
 ·split at e
  ·rename_i hi;split at e
   ·rename_i kk e3;split at e
    ·rename_i y e1;cases e;obtain ⟨v1,rfl,q1⟩:=eU qs;cases q1;obtain ⟨z,e2,qz⟩:=t.get e1;obtain ⟨x2,r2⟩:=r.uw e0 hb (t.eraseIdx kk);exact vJ aa s σ H _ _ v us Q I rx rv ⟨_,_,_,kk,_,rfl,rfl,ha,hi.1,hi.2,by rw [<-t.length]; exact e3,e2,k _ _ _ x2 r2 (qz.mono r x2)⟩
    ·cases e
   ·cases e
  ·cases e
 ·cases e
theorem aZ.strs:∀{ws:List W} {vs:List V} {ss:List Str},aZ K β H ws vs->dI ws=some ss->vs=ss.map V.str
 | [],_,_,.nil,h=>by cases h; rfl
 | w::ws,_,ss,.cons q t,h=>by
  cases w with
  | str z=>
   simp only [dI,Option.map_eq_some_iff] at h;obtain ⟨ss',h1,rfl⟩:=h;cases q;rw [t.strs h1];rfl
  | _=>cases h
theorem wJ:u6 X "list.count" (SM X cl "count"):=by
 intro aa s σ H x xs v us Q I rx rv h;obtain ⟨β,m,wx,ws,w,m',r,qx,qs,e,k⟩:=h;obtain ⟨n,ys,rfl,e0,e⟩:=fU (by decide) e;simp only [dJ,if_pos,String.reduceEq,if_false] at e;unfold mF at e;split at e
 ·split at e
  ·rename_i z _;split at e
   ·rename_i ss e1;cases e;obtain ⟨a,vs,rfl,hb,ha,t⟩:=r.lst qx e0;have hv:=t.strs e1;subst hv;obtain ⟨v1,rfl,q1⟩:=eU qs;cases q1;refine vU aa s σ H _ _ v us Q I rx rv ⟨_,_,_,rfl,rfl,ha,rfl,?_,?_⟩
    ·rw [all_map]; exact List.all_eq_true.mpr λ _ _=>rfl
    ·have:((ss.map V.str).countP λ y=>zD y (.str z))=ss.count z:=by
      rw [countP_map,List.count];rfl
     rw [this];exact k _ _ _ Ext.refl r (.int _)
   ·cases e
  ·cases e
 ·cases e
theorem uz:u6 X "list.insert" (SM X cl "insert"):=by
 intro aa s σ H x xs v us Q I rx rv h;obtain ⟨β,m,wx,ws,w,m',r,qx,qs,e,k⟩:=h;obtain ⟨n,ys,rfl,e0,e⟩:=fU (by decide) e;simp only [dJ,if_pos,String.reduceEq,if_false] at e;unfold gZ at e;obtain ⟨a,vs,rfl,hb,ha,t⟩:=r.lst qx e0;split at e
 ·split at e
  ·rename_i hl;cases e;obtain ⟨v1,v2,rfl,q1,q2⟩:=zY qs;cases q1;obtain ⟨x2,r2⟩:=r.uw e0 hb (((t.take _).append (.cons q2 .nil)).append (t.drop _));exact t9 aa s σ H _ _ v us Q I rx rv ⟨_,_,_,_,rfl,rfl,ha,hl.1,by rw [<-t.length]; exact hl.2.1,Nat.lt_of_lt_of_le (by rw [<-t.length]; exact hl.2.2) bV,k _ _ _ x2 r2 .non⟩
  ·cases e
 ·cases e
theorem jR {o:W} {ws:List W} (hn:iI name=.str) (e:br o name ws m=.ok w m'):∃z,o=.str z/\i9 z name ws m=.ok w m':=by
 have hj:name="join"\/name="index"\/name="endswith"\/name="split":=by
  unfold iI at hn;split at hn
  ·assumption
  ·split at hn<;>cases hn
 unfold br at e;split at e
 ·split at e
  ·rcases hj with rfl | rfl | rfl | rfl<;>(simp only [dJ,String.reduceEq,if_false] at e; cases e)
  ·rcases hj with rfl | rfl | rfl | rfl<;>(simp only [gi,String.reduceEq,if_false] at e; cases e)
  ·cases e
 ·exact ⟨_,rfl,e⟩
 ·cases e
theorem aZ.dI:∀{ws:List W} {vs:List V} {ns:List Str},aZ K β H ws vs->D.dI ws=some ns->vs=ns.map V.str
 | _,_,_,.nil,h=>by cases h; rfl
 | _,_,_,.cons (w:=w) q t,h=>by
  cases w with
  | str i=>
   simp only [D.dI,Option.map_eq_some_iff] at h;obtain ⟨r,h1,rfl⟩:=h;cases q;rw [t.dI h1]; rfl
  | _=>cases h
theorem z8:u6 X "str.join" (SM X cl "join"):=by
 intro aa s σ H x xs v us Q I rx rv h;obtain ⟨β,m,wx,ws,w,m',r,qx,qs,e,k⟩:=h;obtain ⟨z,rfl,e⟩:=jR (by decide) e;replace e:jQ z ws m=.ok w m':=e;unfold jQ at e;split at e
 ·split at e
  ·rename_i ys e1;split at e
   ·rename_i ss e2;split at e
    ·rename_i hl;cases e; cases qx;obtain ⟨v1,rfl,q1⟩:=eU qs;obtain ⟨a,vs,rfl,hs,t⟩:=r.getL q1 e1;have z1:=t.dI e2;subst z1;exact zN aa s σ H _ _ v us Q I rx rv ⟨_,_,_,rfl,rfl,hs,hl,k _ _ _ Ext.refl r (.str _)⟩
    ·cases e
   ·cases e
  ·cases e
 ·cases e
theorem z9:u6 X "str.endswith" (SM X cl "endswith"):=by
 intro aa s σ H x xs v us Q I rx rv h;obtain ⟨β,m,wx,ws,w,m',r,qx,qs,e,k⟩:=h;obtain ⟨z,rfl,e⟩:=jR (by decide) e;replace e:mG z ws m=.ok w m':=e;unfold mG at e;split at e
 ·cases e; cases qx;obtain ⟨v1,rfl,q1⟩:=eU qs;cases q1;exact zX aa s σ H _ _ v us Q I rx rv ⟨_,_,rfl,rfl,k _ _ _ Ext.refl r (.bl _)⟩
 ·cases e
theorem aZ.rQ:∀ns:List Str,aZ K β H (ns.map W.str) (ns.map V.str)
 | []=>.nil
 | x::r=>.cons (.str x) (aZ.rQ r)
theorem wK:u6 X "str.split" (SM X cl "split"):=by
 intro aa s σ H x xs v us Q I rx rv h;obtain ⟨β,m,wx,ws,w,m',r,qx,qs,e,k⟩:=h;obtain ⟨z,rfl,e⟩:=jR (by decide) e;replace e:jy z ws m=.ok w m':=e;unfold jy at e;split at e
 ·split at e
  ·rename_i hz;cases e; cases qx;obtain ⟨v1,rfl,q1⟩:=eU qs;cases q1;have hs:sizeLine=16777216:=sizeLine_eq;refine wB aa s σ H _ _ v us Q I rx rv ⟨_,_,rfl,rfl,by rw [hz.1]; rfl,by have:=hz.2; simp only [lim] at this; omega,λ p hp=>?_⟩;obtain ⟨x2,r2⟩:=r.newL hp (aZ.rQ (Txt.split z _));exact k _ _ _ x2 r2 (.ref (r.last p))
  ·cases e
 ·cases e
theorem wL {o:W} {ws:List W} (e:br o "add" ws m=.ok w m'):∃n ks,o=.ref n/\m[n]?=some (.set ks)/\gi n ks "add" ws m=.ok w m':=by
 unfold br at e;split at e
 ·split at e
  ·simp only [dJ,String.reduceEq,if_false] at e; cases e
  ·rename_i n _ ks e1;exact ⟨_,_,rfl,e1,e⟩
  ·cases e
 ·simp only [i9,String.reduceEq,if_false] at e; cases e
 ·cases e
theorem Rel.KG {a:Addr} (r:Rel K cl β m H) {o:O} {ks:List L2.Key} {S:L2.Key->Bool} (hm:m[n]?=some o) (hb:β[n]?=some a) (q:∀k,S k=jP k ks) :
  Ext β H β (upd H a (jO cl.P cl.w a S ks.length))/\Rel K cl β (m.set n (.set ks)) (upd H a (jO cl.P cl.w a S ks.length)):=by
 have ha:a∈β:=mem_of_getElem? hb;have x:Ext β H β (upd H a (jO cl.P cl.w a S ks.length)):=⟨⟨[],by simp,by simp⟩,λ {b u} h hn _=>by rw [av (show b≠a from λ z=>hn (by rw [z]; exact ha))]; exact h⟩;refine ⟨x,by simp [r.len],r.nd,λ {k o' b} h1 h2=>?_⟩
 by_cases hk:n=k
 ·subst hk;rw [hb] at h2; cases h2;rw [getElem?_set_self (List.getElem?_eq_some_iff.mp hm).1] at h1;cases h1;exact ⟨S,aG,q⟩
 ·rw [getElem?_set_ne hk] at h1;have q':=r.obj h1 h2;refine q'.mono r x (av ?_);rintro rfl;obtain ⟨h3,e3⟩:=List.getElem?_eq_some_iff.mp h2;obtain ⟨h4,e4⟩:=List.getElem?_eq_some_iff.mp hb;exact hk ((getElem_inj r.nd).mp (e4.trans e3.symm))
theorem DS (hu:UN X cl):u6 X "set.add" (SM X cl "add"):=by
 intro aa s σ H x xs v us Q I rx rv h;obtain ⟨β,m,wx,ws,w,m',r,qx,qs,e,k⟩:=h;obtain ⟨n,ks,rfl,e0,e⟩:=wL e;simp only [gi,if_pos] at e;unfold wj at e;split at e
 ·split at e
  ·rename_i kk e1;split at e
   ·rename_i hl;cases e;obtain ⟨v1,rfl,q1⟩:=eU qs;have z:=ou q1 e1;subst z;cases qx with
    | ref hb=>
     obtain ⟨S,hS,hk⟩:=r.obj e0 hb;have hS':=hS;rw [hu.P,hu.w] at hS';refine qg aa s σ H _ _ v us Q I rx rv ⟨_,S,_,kk,rfl,rfl,hS',hl,?_⟩;have hk':∀j,(S j||decide (j=kk))=jP j (if jP kk ks then ks else ks++[kk]):=λ j=>by
      rw [hk];split
      ·rename_i hm;cases hd:decide (j=kk) with
       | false=>simp
       | true=>
        have:=of_decide_eq_true hd;subst this;simp [hm]
      ·simp only [jP,any_append,any_cons,any_nil,Bool.or_false];congr 1;exact decide_eq_decide.mpr eq_comm
     obtain ⟨x2,r2⟩:=r.KG e0 hb hk';have hlen:(if jP kk ks then ks else ks++[kk]).length=if S kk then ks.length else ks.length+1:=by
      rw [hk]; split<;>simp
     rw [hlen,hu.P,hu.w] at x2 r2;exact k _ _ _ x2 r2 .non
   ·cases e
  ·cases e
 ·cases e
def KH (X:L2.Cx) (T:String) (x:V) (H:Hp):Prop:=∀(aa:List (Addr×Obj)) (s:Shared) (σ:L2.St) (v:Value),Inv X aa σ H s->RelV x v->s.TypeIs v T/\∀a,v=.ref a->∃ob,s.heap.get? a=some ob/\ob.dict=none
noncomputable def GW:Kd->String
 | .lst=>"list" | .str=>"str" | .set=>"set" | .no=>""
theorem BD {kd:Kd} (r:Rel X.K cl β m H) (q:RW X.K β H w v) (hk:kd≠.no) (e:kdOf m w=kd):KH X (GW kd) v H:=by
 intro aa s σ u I rv;cases q with
 | ref h=>
  simp only [kdOf] at e;split at e
  ·rename_i ws e1;obtain ⟨vs,z,_⟩:=r.obj e1 h;subst e;exact vI (T:="list") I rv (.inl ⟨rfl,_,.inl (.inl z)⟩)
  ·rename_i ks e1;subst e;obtain ⟨S,z,_⟩:=r.obj e1 h;cases rv;obtain ⟨⟨o,_,_,_,e,ex,_⟩,_⟩:=I.hok _ _ z;refine ⟨⟨o,e,ex.1⟩,λ a e2=>?_⟩;cases e2;exact ⟨o,e,ex.2.1⟩
  ·exact absurd e.symm hk
 | str x=>
  simp only [kdOf] at e;subst e;exact vI (T:="str") I rv rfl
 | _=>exact absurd (by simpa [kdOf] using e.symm) hk
section
variable {o:Expr} {d:E} {name:Str} {nm id:String} {apos:Pos}
theorem Aa {T:String} (hT:T=GW (iI nm)) (pa:PlainAttrs T) (slot:Slot T name id) (hty:typeOf (.builtin id)=pure (.type "method_descriptor")) (hm:u6 X id (SM X cl nm)) (ho:PE X o (SE X cl (ai C d)))
  (hbase:attributeBase o name X.env (eval o X.env)=eval o X.env) (hline:(apos.endLine==pos.line)=true):PE X (.Call (.Attribute o name apos) [] [] pos) (SE X cl (ai C (.meth d nm .nil))):=by
 intro aa s σ H Q I h;refine wpAny_Call_method0_late hbase hline ?_;obtain ⟨β,ρ,m,w,m',r,l,e,k⟩:=h;simp only [ai] at e;obtain ⟨x,m1,e1,e⟩:=R.ah e;refine bQ (ho aa s σ H (λ v H1=>KH X T v H1/\SM X cl nm v [] H1 Q) I ⟨β,ρ,m,x,m1,r,l,e1,fun β1 H1 v1 x1 r1 q1=>?_⟩) λ v s1 ⟨x,H1,I1,r1,ty,q1⟩=>?_
 ·split at e
  ·rename_i hk;simp only [bg,R.bind] at e;exact ⟨by rw [hT]; exact BD r1 q1 (by unfold iI; split<;>(try split)<;>(intro z; cases z)) hk,β1,m1,x,[],w,m',r1,q1,.nil,e,fun β2 H2 v2 x2 r2 q2=>k _ _ _ (x1.trans r1 x2) r2 q2⟩
  ·cases e
 ·obtain ⟨h1,h2⟩:=ty aa s1 σ v I1 r1;exact ⟨T,id,pa,slot,hty,h1,h2,Calls.callWith_builtin rfl (PySem.evalArgs_none (hm aa s1 σ H1 x [] v [] Q I1 r1 .nil q1))⟩
theorem DT {T:String} {a:Expr} (hT:T=GW (iI nm)) (pa:PlainAttrs T) (slot:Slot T name id) (hty:typeOf (.builtin id)=pure (.type "method_descriptor")) (hm:u6 X id (SM X cl nm)) (ho:PE X o (SE X cl (ai C d))) (ha:PA X (a::es) (SA X cl (bg C ds)))
  (hbase:attributeBase o name X.env (eval o X.env)=eval o X.env)
  (hfew:((backTo pos (starEach (a::es) X.env)).all (λ x=>!x.1)&&(backToKw pos (keywordEach [] X.env)).all (λ x=>x.1.isSome)
   && decide ((a::es).length+([]:List Keyword).length+(if ([]:List Keyword).isEmpty then 0 else 1) < 30))=true)
  (hline:(apos.endLine==pos.line)=true) (hs:starEach (a::es) X.env=(false,eval a X.env)::starEach es X.env) (hplain:(backTo pos (starEach es X.env)).any (·.1)=false):PE X (.Call (.Attribute o name apos) (a::es) [] pos) (SE X cl (ai C (.meth d nm ds))):=by
 intro aa s σ H Q I h;refine wpAny_Call_method_late hbase hfew hline rfl ?_;obtain ⟨β,ρ,m,w,m',r,l,e,k⟩:=h;simp only [ai] at e;obtain ⟨x,m1,e1,e⟩:=R.ah e;refine bQ (ho aa s σ H (λ v H1=>KH X T v H1/\SA X cl (bg C ds) σ H1 λ xs H2=>SM X cl nm v xs H2 Q) I ⟨β,ρ,m,x,m1,r,l,e1,fun β1 H1 v1 x1 r1 q1=>?_⟩) λ v s1 ⟨x,H1,I1,r1,ty,q1⟩=>?_
 ·split at e
  ·rename_i hk;obtain ⟨ws,m2,e2,e⟩:=R.ah e;exact ⟨by rw [hT]; exact BD r1 q1 (by unfold iI; split<;>(try split)<;>(intro z; cases z)) hk,β1,ρ,m1,ws,m2,r1,l.mono r x1,e2,fun β2 H2 v2 x2 r2 q2=>
    ⟨β2,m2,x,ws,w,m',r2,q1.mono r1 x2,q2,e,fun β3 H3 v3 x3 r3 q3=>k _ _ _ ((x1.trans r1 x2).trans r2 x3) r3 q3⟩⟩
  ·cases e
 ·obtain ⟨h1,h2⟩:=ty aa s1 σ v I1 r1;refine ⟨T,id,pa,slot,hty,h1,h2,?_⟩;have hA:=ha pos aa s1 σ H1 _ I1 q1;rw [hs] at hA ⊢;refine Calls.callWith_builtin (by show (false||(backTo pos (starEach es X.env)).any (·.1))=false; rw [hplain]<;>rfl) (Calls.evalArgs_plain ?_);exact bQ hA λ us s2 ⟨vs,H2,I2,r2,q2⟩=>hm aa s2 σ H2 x vs v us Q I2 r1 r2 q2
end
theorem DU (hu:UN X cl) (hg:Gl X "set") (hm:X.mg "set"=none):PE X (.Call (.Name "set" p) [] [] pos) (SE X cl (ai C .gJ)):=by
 refine PE.imp (p7 ud hg hm (by decide +kernel) (by decide +kernel) (by decide +kernel)) ?_;rintro σ H Q ⟨β,ρ,m,w,m',r,l,e,k⟩;simp only [ai,new] at e;cases e;refine ⟨rfl,λ p hp=>?_⟩;have:=r.DG (o:=.set []) (ho:=jO cl.P cl.w p (λ _=>false) 0) hp λ x=>⟨_,aG,λ _=>rfl⟩;rw [hu.P,hu.w] at this;exact k _ _ _ this.1 this.2 (.ref (r.last p))
noncomputable def u7 (K:PySem.W.Frag) (cl:Cl) (np:Nat) (f:List W->Mem->R W):Sp:=λ vs H Q _=>vs.length=np/\∃β m ws w m',Rel K cl β m H/\aZ K β H ws vs/\f ws m=.ok w m'/\∀β' H' v,Ext β H β' H'->Rel K cl β' m' H'->RW K β' H' w v->Q v H'
theorem s_call {k f:Nat} {fa:Addr} {fd:FuncData} {ps:List Str} {x:Str} {a:Expr} (F:eN X.prog X.w X.K X.mg X.base t7 k fa fd ps (u7 X.K cl ps.length (C.call f))) (hr:cX k X.A) (hg:Gl X x) (hm:X.mg x=some (.ref fa)) (hk:PySem.W.keepIn X.K (.ref fa)=true) (hb:Binds X.K fd ps [])
  (ha:PA X (a::es) (SA X cl (bg C ds))) (hl:∀ρ m ws m',bg C ds ρ m=.ok ws m'->ws.length=ps.length) (hdb:(x==("__debug__":Str))=false) (he:starEach (a::es) X.env=(false,eval a X.env)::starEach es X.env) (hpl:(backTo pos (starEach es X.env)).any (·.1)=false) :
  PE X (.Call (.Name x p) (a::es) [] pos) (SE X cl (ai C (.call f ds))):=by
 refine PE.imp (zq F hr hg hm hk hb .nil n8 ha hdb he hpl) ?_;rintro σ H Q ⟨β,ρ,m,w,m',r,l,e,k⟩;simp only [ai] at e;obtain ⟨x,m1,e1,e⟩:=R.ah e;refine ⟨β,ρ,m,x,m1,r,l,e1,fun β1 H1 v1 x1 r1 q1=>⟨?_,β1,m1,x,w,m',r1,by rw [append_nil]; exact q1,e,fun β2 H2 v2 x2 r2 q2=>k _ _ _ (x1.trans r1 x2) r2 q2⟩⟩;rw [append_nil,<-q1.length];exact hl _ _ _ _ e1
end
section
variable (X:L2.Cx) (cl:Cl)
def IS (J:It) (src:Src) (β0:List Addr) (H0:Hp):Prop:=∀(β:List Addr) (m:Mem) (H:Hp) (i:Nat),(∃γ,β=β0++γ)->(∀{a:Addr} {vs:List V},cL X.K H0 a vs->cL X.K H a vs)->(∀{a:Addr} {o:Obj} {u:HO},H0 a=some (.frz o u)->H a=some (.frz o u))->Rel X.K cl β m H->
 (∀w,src.get m i=.it w->J.go i H/\∀x H',J.yld i H x H'->Ext β H β H'/\Rel X.K cl β m H'/\RW X.K β H' w x)/\(src.get m i=.fin->J.stop i H)
noncomputable def SI (ev:Loc->Mem->R Src):TI:=fun σ H Rr=>∃β ρ m src m',Rel X.K cl β m H/\RL X.K β H ρ σ/\ev ρ m=.ok src m'/\∀β' H' J,Ext β H β' H'->Rel X.K cl β' m' H'->IS X cl J src β' H'->Rr J H'
noncomputable def SG (ev:W->Loc->Mem->R Loc):TG:=λ v σ H Q=>∃β ρ m w ρ' m',Rel X.K cl β m H/\RL X.K β H ρ σ/\RW X.K β H w v/\ev w ρ m=.ok ρ' m'/\∀β' H' σ',Ext β H β' H'->Rel X.K cl β' m' H'->RL X.K β' H' ρ' σ'->Q σ' H'
noncomputable def Fg (ev:List W->Loc->Mem->R Loc):vm:=λ vs σ H Q=>∃β ρ m ws ρ' m',Rel X.K cl β m H/\RL X.K β H ρ σ/\aZ X.K β H ws vs/\ev ws ρ m=.ok ρ' m'/\∀β' H' σ',Ext β H β' H'->Rel X.K cl β' m' H'->RL X.K β' H' ρ' σ'->Q σ' H'
noncomputable def KI (D:Ends) (β:List Addr) (H:Hp):F->Prop
 | .nx ρ=>∀σ,RL X.K β H ρ σ->D.nx σ H
 | .rt w=>∀v,RW X.K β H w v->D.rt v H
 | .bk ρ=>∀σ,RL X.K β H ρ σ->D.bk σ H
 | .ct ρ=>∀σ,RL X.K β H ρ σ->D.ct σ H
noncomputable def SS (ev:Loc->Mem->R F):TS:=λ D σ H=>∃β ρ m f m',Rel X.K cl β m H/\RL X.K β H ρ σ/\ev ρ m=.ok f m'/\∀β' H',Ext β H β' H'->Rel X.K cl β' m' H'->KI X D β' H' f
end
theorem PI.imp {t t':TI} (h:PI X tg e t) (i:∀σ H R,t' σ H R->t σ H R):PI X tg e t':=λ aa s σ H R I q=>h aa s σ H R I (i σ H R q)
theorem PI.or {t t':TI} (h:PI X tg e t) (h':PI X tg e t'):PI X tg e (fun σ H R=>t σ H R\/t' σ H R):=λ aa s σ H R I q=>q.elim (h aa s σ H R I) (h' aa s σ H R I)
theorem PG.imp {t t':TG} (h:PG X e t) (i:∀v σ H Q,t' v σ H Q->t v σ H Q):PG X e t':=λ aa s σ H v u Q I r q=>h aa s σ H v u Q I r (i v σ H Q q)
theorem pP.imp {e:List Expr} {t t':vm} (h:pP X e t) (i:∀v σ H Q,t' v σ H Q->t v σ H Q):pP X e t':=λ aa s σ H v u Q I r q=>h aa s σ H v u Q I r (i v σ H Q q)
theorem PS.imp {e:Stmt} {t t':TS} (h:PS X e t) (i:∀D σ H,t' D σ H->t D σ H):PS X e t':=λ aa s σ H D I q=>h aa s σ H D I (i D σ H q)
theorem iX.imp {e:List Stmt} {t t':TS} (h:iX X e t) (i:∀D σ H,t' D σ H->t D σ H):iX X e t':=λ aa s σ H D I q=>h aa s σ H D I (i D σ H q)
section
variable {X:L2.Cx} {cl:Cl} {C:D.Cx} {pos:Pos}
theorem oq.keep (hf:∀{a:Addr} {o:Obj} {u:HO},H a=some (.frz o u)->H' a=some (.frz o u)) {a:Addr} (h:oq K H a vs):oq K H' a vs:=
 h.elim (λ ⟨o,e⟩=>.inl ⟨o,hf e⟩) .inr
theorem RW.keep (hb:∃γ,β'=β++γ) (ht:∀{a:Addr} {vs:List V},cL K H a vs->cL K H' a vs) (hf:∀{a:Addr} {o:Obj} {u:HO},H a=some (.frz o u)->H' a=some (.frz o u)) (q:RW K β H w v):RW K β' H' w v:=
 q.gen ht (λ h=>h.keep hf) hf (λ h=>by obtain ⟨γ,rfl⟩:=hb; rw [getElem?_append_left (List.getElem?_eq_some_iff.mp h).1]; exact h)
theorem aZ.keep (hb:∃γ,β'=β++γ) (ht:∀{a:Addr} {vs:List V},cL K H a vs->cL K H' a vs) (hf:∀{a:Addr} {o:Obj} {u:HO},H a=some (.frz o u)->H' a=some (.frz o u)) {w:List W} {v:List V} (q:aZ K β H w v):aZ K β' H' w v:=q.uv (RW.keep hb ht hf)
theorem wM {a:Addr} (hb:β0[n]?=some a):IS X cl (Il X.K a) (.lst n) β0 H0:=by
 intro β m H i hβ _ _ r;obtain ⟨γ,rfl⟩:=hβ;have hb':(β0++γ)[n]?=some a:=by rw [getElem?_append_left (List.getElem?_eq_some_iff.mp hb).1]; exact hb
 refine ⟨λ w e=>?_,λ e=>?_⟩
 ·simp only [Src.get] at e;split at e
  ·rename_i xs e1;split at e
   ·rename_i w' e2;cases e;obtain ⟨a',vs,z,hs,t⟩:=r.getL (.ref hb') e1;cases z;obtain ⟨v,e3,q⟩:=t.get e2;refine ⟨⟨vs,v,hs,e3⟩,λ x H' y=>?_⟩;obtain ⟨rfl,y⟩:=y;have:=y vs hs;rw [e3] at this;cases this;exact ⟨Ext.refl,r,q⟩
   ·cases e
  ·cases e
 ·simp only [Src.get] at e;split at e
  ·rename_i xs e1;split at e
   ·cases e
   ·rename_i e2;obtain ⟨a',vs,z,hs,t⟩:=r.getL (.ref hb') e1;cases z;refine ⟨vs,hs,?_⟩;rw [<-t.length];exact List.getElem?_eq_none_iff.mp e2
  ·cases e
theorem wN {a:Addr} {ws:List W} (Ab:cL X.K H0 a vs) (t0:aZ X.K β0 H0 ws vs):IS X cl (JY X.K a) (.tup ws) β0 H0:=by
 intro β m H i hβ ht hf r;have hq:=ht Ab;have t:=t0.keep hβ ht hf;refine ⟨λ w e=>?_,λ e=>?_⟩
 ·simp only [Src.get] at e;split at e
  ·rename_i w' e2;cases e;obtain ⟨v,e3,q⟩:=t.get e2;refine ⟨⟨vs,v,hq,e3⟩,λ x H' y=>?_⟩;obtain ⟨rfl,y⟩:=y;have:=y vs hq;rw [e3] at this;cases this;exact ⟨Ext.refl,r,q⟩
  ·cases e
 ·simp only [Src.get] at e;split at e
  ·cases e
  ·rename_i e2;exact ⟨vs,hq,by rw [<-t.length]; exact List.getElem?_eq_none_iff.mp e2⟩
theorem BE {a:Addr} {ws:List W} (Ab:oq X.K H0 a vs) (t0:aZ X.K β0 H0 ws vs):IS X cl (Il X.K a) (.tup ws) β0 H0:=by
 intro β m H i hβ ht hf r;have hq:=(Ab.keep hf).l;have t:=t0.keep hβ ht hf;refine ⟨λ w e=>?_,λ e=>?_⟩
 ·simp only [Src.get] at e;split at e
  ·rename_i w' e2;cases e;obtain ⟨v,e3,q⟩:=t.get e2;refine ⟨⟨vs,v,hq,e3⟩,λ x H' y=>?_⟩;obtain ⟨rfl,y⟩:=y;have:=y vs hq;rw [e3] at this;cases this;exact ⟨Ext.refl,r,q⟩
  ·cases e
 ·simp only [Src.get] at e;split at e
  ·cases e
  ·rename_i e2;exact ⟨vs,hq,by rw [<-t.length]; exact List.getElem?_eq_none_iff.mp e2⟩
theorem DV {a:Addr} {ws:List W} (Ab:oq X.K H0 a vs) (t0:aZ X.K β0 H0 ws vs):IS X cl (Iv X.K a) (.enm (.tup ws)) β0 H0:=by
 intro β m H i hβ ht hf r;obtain ⟨k1,k2⟩:=BE (X:=X) (cl:=cl) Ab t0 β m H i hβ ht hf r;refine ⟨λ w e=>?_,λ e=>?_⟩
 ·simp only [Src.get] at e k1;split at e
  ·rename_i w' e1;cases e;obtain ⟨⟨xs,x,hs,hx⟩,g⟩:=k1 w' e1;refine ⟨⟨xs,x,hs,hx⟩,λ y H' z=>?_⟩;obtain ⟨p,v,hp,rfl,rfl,hv⟩:=z;obtain ⟨_,_,q⟩:=g v H ⟨rfl,hv⟩;obtain ⟨x2,r2⟩:=r.mJ hp [.int i,v];exact ⟨x2,r2,.tup (.of aG) (.cons (.int _) (.cons (q.mono r x2) .nil))⟩
  ·cases e
  ·cases e
 ·simp only [Src.get] at e k2;split at e
  ·cases e
  ·rename_i e1;exact k2 e1
  ·cases e
theorem DW {lo:Int}:IS X cl (Im lo n) (.rng lo n) β0 H0:=by
 intro β m H i hβ _ _ r;refine ⟨λ w e=>?_,λ e=>?_⟩
 ·simp only [Src.get] at e;split at e
  ·rename_i h;cases e;refine ⟨h,λ x H' y=>?_⟩;obtain ⟨rfl,rfl⟩:=y;exact ⟨Ext.refl,r,.int _⟩
  ·cases e
 ·simp only [Src.get] at e;split at e
  ·cases e
  ·rename_i h;exact Nat.le_of_not_lt h
theorem wO {s:Src} (r:Rel X.K cl β m H) (q:RW X.K β H w v) (e:srcOf m w=some s) :
  ∃a,v=.ref a/\((∃n vs,s=.lst n/\w=.ref n/\β[n]?=some a/\fJ X.K H a vs)\/(∃ws vs,s=.tup ws/\w=.fz ws/\oq X.K H a vs/\aZ X.K β H ws vs)\/∃ws vs,s=.tup ws/\w=.tup ws/\cL X.K H a vs/\aZ X.K β H ws vs):=by
 cases q with
 | tup h t=>cases e; exact ⟨_,rfl,.inr (.inr ⟨_,_,rfl,rfl,h,t⟩)⟩
 | fz h t=>cases e; exact ⟨_,rfl,.inr (.inl ⟨_,_,rfl,rfl,h,t⟩)⟩
 | ref h=>
  simp only [srcOf] at e;split at e
  ·rename_i xs e1;cases e;obtain ⟨a,vs,z,hs,t⟩:=r.getL (.ref h) e1;cases z;exact ⟨_,rfl,.inl ⟨_,_,rfl,rfl,h,hs⟩⟩
  ·cases e
 | _=>cases e
theorem rR {ws:List W} {s:Src} (r:Rel X.K cl β m H) (q:RW X.K β H (.tup ws) v) (e:srcOf m (.tup ws)=some s):∃a vs,v=.ref a/\s=.tup ws/\cL X.K H a vs/\aZ X.K β H ws vs:=by
 cases q with
 | tup h t=>cases e; exact ⟨_,_,rfl,rfl,h,t⟩
theorem wQ {ws:List W} {s:Src} (r:Rel X.K cl β m H) (q:RW X.K β H (.fz ws) v) (e:srcOf m (.fz ws)=some s):∃a vs,v=.ref a/\s=.tup ws/\oq X.K H a vs/\aZ X.K β H ws vs:=by
 cases q with
 | fz h t=>cases e; exact ⟨_,_,rfl,rfl,h,t⟩
theorem rS {s:Src} (r:Rel X.K cl β m H) (q:RW X.K β H (.ref n) v) (e:srcOf m (.ref n)=some s):∃a vs,v=.ref a/\s=.lst n/\β[n]?=some a/\fJ X.K H a vs:=by
 obtain ⟨a,rfl,⟨n',vs,rfl,z,hb,hs⟩ | ⟨_,_,_,z,_⟩ | ⟨_,_,_,z,_⟩⟩:=wO r q e
 ·cases z; exact ⟨a,vs,rfl,rfl,hb,hs⟩
 ·cases z
 ·cases z
theorem DX {z:Str}:IS X cl (Ku z) (.tup (signs z)) β0 H0:=by
 intro β m H i hβ _ _ r;have hg:∀j:Nat,(signs z)[j]?=(z.cps[j]?).map λ c=>W.str ⟨#[c]⟩:=λ j=>by simp [signs]
 refine ⟨λ w e=>?_,λ e=>?_⟩
 ·simp only [Src.get,hg] at e;cases hc:z.cps[i]? with
  | none=>rw [hc] at e; cases e
  | some c=>
   rw [hc] at e;cases e;have hi:i < z.cps.size:=by
    rcases Nat.lt_or_ge i z.cps.size with h | h
    ·exact h
    ·rw [Array.getElem?_eq_none h] at hc; cases hc
   refine ⟨hi,λ x H' y=>?_⟩;obtain ⟨rfl,c',h1,rfl⟩:=y;rw [hc] at h1; cases h1;exact ⟨Ext.refl,r,.str _⟩
 ·simp only [Src.get,hg] at e;cases hc:z.cps[i]? with
  | none=>exact Array.getElem?_eq_none_iff.mp hc
  | some c=>rw [hc] at e; cases e
theorem GX {a:Expr} (ha:PE X a (SE X cl (ai C d))) (hd:∀ρ m,cz C d ρ m=(ai C d ρ m).bind fE):PI X tg a (SI X cl (cz C d)):=by
 refine PI.imp (PI.or (PI.or (zg ha) (CP ha)) (Dw ha)) ?_;rintro σ H Rr ⟨β,ρ,m,src,m',r,l,e,k⟩;rw [hd] at e;obtain ⟨x,m1,e1,e⟩:=R.ah e;unfold fE at e;split at e
 ·rename_i s e2;cases e;cases x with
  | tup xs=>
   refine .inl (.inr ⟨β,ρ,m,_,_,r,l,e1,fun β1 H1 v1 x1 r1 q1=>?_⟩);obtain ⟨a,vs,rfl,rfl,hs,t⟩:=rR r1 q1 e2;exact ⟨a,rfl,⟨vs,hs⟩,k _ _ _ x1 r1 (wN hs t)⟩
  | fz xs=>
   refine .inl (.inl ⟨β,ρ,m,_,_,r,l,e1,fun β1 H1 v1 x1 r1 q1=>?_⟩);obtain ⟨a,vs,rfl,rfl,hs,t⟩:=wQ r1 q1 e2;exact ⟨a,rfl,⟨vs,hs.l⟩,k _ _ _ x1 r1 (BE hs t)⟩
  | ref n=>
   refine .inl (.inl ⟨β,ρ,m,_,_,r,l,e1,fun β1 H1 v1 x1 r1 q1=>?_⟩);obtain ⟨a,vs,rfl,rfl,hb,hs⟩:=rS r1 q1 e2;exact ⟨a,rfl,⟨vs,hs⟩,k _ _ _ x1 r1 (wM hb)⟩
  | str z=>
   refine .inr ⟨β,ρ,m,_,_,r,l,e1,fun β1 H1 v1 x1 r1 q1=>?_⟩;cases q1;simp only [qq] at e2;split at e2
   ·rename_i hz;cases e2;exact ⟨z,rfl,hz,k _ _ _ x1 r1 DX⟩
   ·cases e2
  | _=>cases e2
 ·cases e
theorem GY {a:Expr} (hg:Gl X "range") (hm:X.mg "range"=none) (ha:PE X a (SE X cl (ai C d))) (hs:starEach [a] X.env=[(false,eval a X.env)]):PI X tg (.Call (.Name "range" p) [a] [] pos) (SI X cl (cz C (.rng d))):=by
 refine PI.imp (tN hg hm (cG ha ee hs) hs) ?_;rintro σ H Rr ⟨β,ρ,m,src,m',r,l,e,k⟩;simp only [cz] at e;obtain ⟨x,m1,e1,e⟩:=R.ah e;refine ⟨β,ρ,m,x,m1,r,l,e1,fun β1 H1 v1 x1 r1 q1=>?_⟩;split at e
 ·split at e
  ·rename_i hj;cases e; cases q1;exact ⟨_,rfl,hj.1,hj.2,k _ _ _ x1 r1 DW⟩
  ·cases e
 ·cases e
theorem DY {a:Addr} (hb:β0[n]?=some a):IS X cl (Iv X.K a) (.enm (.lst n)) β0 H0:=by
 intro β m H i hβ ht hf r;obtain ⟨k1,k2⟩:=wM (X:=X) (cl:=cl) (H0:=H0) hb β m H i hβ ht hf r;refine ⟨λ w e=>?_,λ e=>?_⟩
 ·simp only [Src.get] at e k1;split at e
  ·rename_i w' e1;cases e;obtain ⟨⟨xs,x,hs,hx⟩,g⟩:=k1 w' e1;refine ⟨⟨xs,x,hs,hx⟩,λ y H' z=>?_⟩;obtain ⟨p,v,hp,rfl,rfl,hv⟩:=z;obtain ⟨_,_,q⟩:=g v H ⟨rfl,hv⟩;obtain ⟨x2,r2⟩:=r.mJ hp [.int i,v];exact ⟨x2,r2,.tup (.of aG) (.cons (.int _) (.cons (q.mono r x2) .nil))⟩
  ·cases e
  ·cases e
 ·simp only [Src.get] at e k2;split at e
  ·cases e
  ·rename_i e1;exact k2 e1
  ·cases e
theorem DZ {a:Addr} {ws:List W} (Ab:cL X.K H0 a vs) (t0:aZ X.K β0 H0 ws vs):IS X cl (Kz X.K a) (.enm (.tup ws)) β0 H0:=by
 intro β m H i hβ ht hf r;obtain ⟨k1,k2⟩:=wN (X:=X) (cl:=cl) Ab t0 β m H i hβ ht hf r;refine ⟨λ w e=>?_,λ e=>?_⟩
 ·simp only [Src.get] at e k1;split at e
  ·rename_i w' e1;cases e;obtain ⟨⟨xs,x,hs,hx⟩,g⟩:=k1 w' e1;refine ⟨⟨xs,x,hs,hx⟩,λ y H' z=>?_⟩;obtain ⟨p,v,hp,rfl,rfl,hv⟩:=z;obtain ⟨_,_,q⟩:=g v H ⟨rfl,hv⟩;obtain ⟨x2,r2⟩:=r.mJ hp [.int i,v];exact ⟨x2,r2,.tup (.of aG) (.cons (.int _) (.cons (q.mono r x2) .nil))⟩
  ·cases e
  ·cases e
 ·simp only [Src.get] at e k2;split at e
  ·cases e
  ·rename_i e1;exact k2 e1
  ·cases e
theorem GZ {a:Expr} {x1} (hg:Gl X "enumerate") (hm:X.mg "enumerate"=none) (ha:PE X a (SE X cl (ai C d))) (hs:starEach [a] X.env=[(false,eval a X.env)]):PI X (.Tuple elts x1 tpos) (.Call (.Name "enumerate" p) [a] [] pos) (SI X cl (cz C (.enm d))):=by
 refine PI.imp (PI.or (zO hg hm (cG ha ee hs) hs) (vZ hg hm (cG ha ee hs) hs)) ?_;rintro σ H Rr ⟨β,ρ,m,src,m',r,l,e,k⟩;simp only [cz] at e;obtain ⟨x,m1,e1,e⟩:=R.ah e;split at e
 ·rename_i s e2;cases e;cases x with
  | tup xs=>
   refine .inr ⟨β,ρ,m,_,_,r,l,e1,fun β1 H1 v1 x1 r1 q1=>?_⟩;obtain ⟨a,vs,rfl,rfl,hs,t⟩:=rR r1 q1 e2;exact ⟨a,rfl,⟨vs,hs⟩,k _ _ _ x1 r1 (DZ hs t)⟩
  | fz xs=>
   refine .inl ⟨β,ρ,m,_,_,r,l,e1,fun β1 H1 v1 x1 r1 q1=>?_⟩;obtain ⟨a,vs,rfl,rfl,hs,t⟩:=wQ r1 q1 e2;exact ⟨a,rfl,⟨vs,hs.l⟩,k _ _ _ x1 r1 (DV hs t)⟩
  | ref n=>
   refine .inl ⟨β,ρ,m,_,_,r,l,e1,fun β1 H1 v1 x1 r1 q1=>?_⟩;obtain ⟨a,vs,rfl,rfl,hb,hs⟩:=rS r1 q1 e2;exact ⟨a,rfl,⟨vs,hs⟩,k _ _ _ x1 r1 (DY hb)⟩
  | _=>cases e2
 ·cases e
theorem RL.set (l:RL K β H ρ σ) (q:RW K β H w v):RL K β H (ρ.set i (some w)) (σ.set i (some v)):=by
 refine ⟨by simp [l.len],λ {j w'} h=>?_⟩
 by_cases e:i=j
 ·subst e;have hl:i < ρ.length:=by have:=(List.getElem?_eq_some_iff.mp h).1; simpa using this
  rw [getElem?_set_self hl] at h;cases h;exact ⟨v,getElem?_set_self (by rw [<-l.len]; exact hl),q⟩
 ·rw [getElem?_set_ne e] at h ⊢;exact l.at_ h
theorem BF {x:Str} (hN:X.N.Nodup) (hi:X.N[i]?=some x) (hx:L2.Loc X.env.scope x) (hf:X.fn x=true\/X.env.scope.names.lookup x=some .local):PG X (.Name x pos) (SG X cl (fK C (.pt (.var i)))):=by
 refine PG.imp (ze hN hi hx hf) ?_;rintro v σ H Q ⟨β,ρ,m,w,ρ',m',r,l,q,e,k⟩;simp only [fK,aV] at e;cases e;exact k _ _ _ Ext.refl r (l.set q)
theorem wR:pP X [] (Fg X cl (eE C .nil)):=by
 refine pP.imp zf ?_;rintro vs σ H Q ⟨β,ρ,m,ws,ρ',m',r,l,q,e,k⟩;cases q with
 | nil=>
  simp only [eE] at e;cases e;exact ⟨rfl,k _ _ _ Ext.refl r l⟩
 | cons _ _=>simp only [eE] at e; cases e
theorem rT {a:Expr} {da:A} {ds:As} (h1:PG X a (SG X cl (fK C da))) (h2:pP X es (Fg X cl (eE C ds))) (hs:(assignEach (a::es) X.env).map (·.2)=assign a X.env::(assignEach es X.env).map (·.2)):pP X (a::es) (Fg X cl (eE C (.cons da ds))):=by
 refine pP.imp (vn h1 h2 hs) ?_;rintro vs σ H Q ⟨β,ρ,m,ws,ρ',m',r,l,q,e,k⟩;cases q with
 | nil=>simp only [eE] at e; cases e
 | cons q1 q2=>
  simp only [eE] at e;obtain ⟨ρ1,m1,e1,e⟩:=R.ah e;refine ⟨_,_,rfl,β,ρ,m,_,ρ1,m1,r,l,q1,e1,fun β1 H1 σ1 x1 r1 l1=>?_⟩;exact ⟨β1,ρ1,m1,_,ρ',m',r1,l1,q2.mono r x1,e,fun β2 H2 σ2 x2 r2 l2=>k _ _ _ (x1.trans r1 x2) r2 l2⟩
noncomputable def As.len:As->Nat
 | .nil=>0
 | .cons _ l=>l.len+1
theorem jS:∀{ds:As} {ws:List W} {ρ ρ':Loc} {m m':Mem},eE C ds ws ρ m=.ok ρ' m'->ws.length=ds.len
 | .nil,ws,_,_,_,_,e=>by
  cases ws with
  | nil=>rfl
  | cons _ _=>simp only [eE] at e; cases e
 | .cons a l,ws,_,_,_,_,e=>by
  cases ws with
  | nil=>simp only [eE] at e; cases e
  | cons w ws=>
   simp only [eE] at e;obtain ⟨ρ1,m1,e1,e⟩:=R.ah e;rw [length_cons,jS e]; rfl
theorem PG.or {t t':TG} (h:PG X e t) (h':PG X e t'):PG X e (λ v σ H Q=>t v σ H Q\/t' v σ H Q):=λ aa s σ H v u Q I r q=>q.elim (h aa s σ H v u Q I r) (h' aa s σ H v u Q I r)
theorem BG {k:Nat} {ds:As} (hc:X.calm=true) (h:pP X es (Fg X cl (eE C ds))) (hn:(assignEach es X.env).length=ds.len) (hst:(assignEach es X.env).findIdx? (·.1)=none):PG X (.Tuple es k pos) (SG X cl (fK C (.tup ds))):=by
 refine PG.imp (PG.or (CH hc h hn hst) (Dz hc h hn hst)) ?_;rintro v σ H Q ⟨β,ρ,m,w,ρ',m',r,l,q,e,k⟩;simp only [fK] at e;split at e
 ·rename_i xs e1;obtain ⟨a,vs,rfl,hs,t⟩:=r.cu q e1;rcases hs with hs | hs
  ·exact .inr ⟨_,_,rfl,hs,by rw [<-t.length]; exact jS e,β,ρ,m,_,ρ',m',r,l,t,e,k⟩
  ·exact .inl ⟨_,_,rfl,hs,by rw [<-t.length]; exact jS e,β,ρ,m,_,ρ',m',r,l,t,e,k⟩
 ·cases e
noncomputable def T.qA:Ts->As
 | .nil=>.nil
 | .cons t ts=>.cons (.pt t) (T.qA ts)
theorem iM:∀(ts:Ts) (ws:List W) (ρ ρ':Loc) (m:Mem),cZ ts ws ρ=some ρ'->eE C (T.qA ts) ws ρ m=.ok ρ' m
 | .nil,ws,ρ,ρ',m,h=>by
  cases ws with
  | nil=>simp only [cZ] at h; cases h; simp only [T.qA,eE]
  | cons _ _=>simp only [cZ] at h; cases h
 | .cons t ts,ws,ρ,ρ',m,h=>by
  cases ws with
  | nil=>simp only [cZ] at h; cases h
  | cons w ws=>
   simp only [cZ] at h;split at h
   ·rename_i ρ1 e1;simp only [T.qA,eE,fK,e1,R.bind];exact iM ts ws ρ1 ρ' m h
   ·cases h
theorem D0 {k:Nat} {ts:Ts} (h:PG X (.Tuple es k pos) (SG X cl (fK C (.tup (T.qA ts))))):PG X (.Tuple es k pos) (SG X cl (fK C (.pt (.tup ts)))):=by
 refine PG.imp h ?_;rintro v σ H Q ⟨β,ρ,m,w,ρ',m',r,l,q,e,k⟩;refine ⟨β,ρ,m,w,ρ',m',r,l,q,?_,k⟩;simp only [fK,aV] at e ⊢;cases w with
 | tup xs=>
  simp only [cu] at e ⊢;split at e
  ·rename_i ρ1 e1;cases e;exact iM _ _ _ _ _ e1
  ·cases e
 | fz xs=>
  simp only [cu,getL] at e ⊢;split at e
  ·rename_i ρ1 e1;cases e;exact iM _ _ _ _ _ e1
  ·cases e
 | _=>cases e
theorem D3:CG X (λ o i v H Q=>∃β m wo wi wv m',Rel X.K cl β m H/\RW X.K β H wo o/\RW X.K β H wi i/\RW X.K β H wv v/\oj wo wi wv m=.ok () m'/\∀β' H',Ext β H β' H'->Rel X.K cl β' m' H'->Q H'):=by
 intro aa s σ H o i v ov iv u Q I r1 r2 r3 h;obtain ⟨β,m,wo,wi,wv,m',r,qo,qi,qv,e,k⟩:=h;unfold oj at e;split at e
 ·split at e
  ·rename_i xs e1;split at e
   ·rename_i j e2;cases e; cases qi;obtain ⟨a,vs,rfl,hb,ha,t⟩:=r.lst qo e1;obtain ⟨x2,r2'⟩:=r.uw e1 hb (t.set qv j);exact set_list aa s σ H _ _ _ ov iv u Q I r1 r2 r3 ⟨_,_,_,_,rfl,rfl,ha,by rw [<-t.length]; exact e2,k _ _ x2 r2'⟩
   ·cases e
  ·cases e
 ·cases e
theorem G0 {i:Expr} {G1 di:E} (ho:PE X o (SE X cl (ai C G1))) (hi:PE X i (SE X cl (ai C di))) (ha:∀v,assign (.Subscript o i pos) X.env v=(do
   let ov <-holding [v] (eval o X.env)
   let iv <-holding [v,ov] (eval i X.env)
   standAt pos
   holding [v,ov,iv] (setItem ov iv v)
   release [v,ov,iv] [])):PG X (.Subscript o i pos) (SG X cl (fK C (.sub G1 di))):=by
 refine PG.imp (CI ho hi (D3 (cl:=cl)) ha) ?_;rintro v σ H Q ⟨β,ρ,m,w,ρ',m',r,l,q,e,k⟩;simp only [fK] at e;obtain ⟨x,m1,e1,e⟩:=R.ah e;obtain ⟨y,m2,e2,e⟩:=R.ah e;obtain ⟨u,m3,e3,e⟩:=R.ah e;cases e;refine ⟨β,ρ,m,x,m1,r,l,e1,fun β1 H1 v1 x1 r1 q1=>?_⟩;refine ⟨β1,ρ,m1,y,m2,r1,l.mono r x1,e2,fun β2 H2 v2 x2 r2 q2=>?_⟩;exact ⟨β2,m2,x,y,w,_,r2,q1.mono r1 x2,q2,(q.mono r x1).mono r1 x2,e3,fun β3 H3 x3 r3=>k _ _ _ ((x1.trans r1 x2).trans r2 x3) r3 (((l.mono r x1).mono r1 x2).mono r2 x3)⟩
theorem D4:iX X [] (SS X cl (aK C .nil)):=by
 refine iX.imp za ?_;rintro D σ H ⟨β,ρ,m,f,m',r,l,e,k⟩;simp only [aK] at e;cases e;exact k _ _ Ext.refl r σ l
theorem Ac {rest:List Stmt} {d:S} {ds:Ss} (h1:PS X st (SS X cl (bN C d))) (h2:iX X rest (SS X cl (aK C ds))):iX X (st::rest) (SS X cl (aK C (.cons d ds))):=by
 refine iX.imp (vg h1 h2) ?_;rintro D σ H ⟨β,ρ,m,f,m',r,l,e,k⟩;simp only [aK] at e;obtain ⟨f1,m1,e1,e⟩:=R.ah e;refine ⟨β,ρ,m,f1,m1,r,l,e1,fun β1 H1 x1 r1=>?_⟩;cases f1 with
 | nx ρ1=>
  intro σ1 l1;exact ⟨β1,ρ1,m1,f,m',r1,l1,e,fun β2 H2 x2 r2=>k _ _ (x1.trans r1 x2) r2⟩
 | rt w=>simp only at e; cases e; exact k _ _ x1 r1
 | bk ρ1=>simp only at e; cases e; exact k _ _ x1 r1
 | ct ρ1=>simp only at e; cases e; exact k _ _ x1 r1
theorem D5 {a:Expr} {da:A} (he:PE X a (SE X cl (ai C d))) (hg:PG X tg (SG X cl (fK C da))) (hs:swapsWithSole [tg] a pos.line X.env=pure false) (hw:swappedStores [tg] a X.env=pure none) (h1:(assignEach [tg] X.env).map (·.2)=[assign tg X.env]):PS X (.Assign [tg] a pos) (SS X cl (bN C (.asg da d))):=by
 refine PS.imp (CJ he hg hs hw h1) ?_;rintro D σ H ⟨β,ρ,m,f,m',r,l,e,k⟩;simp only [bN] at e;obtain ⟨w,m1,e1,e⟩:=R.ah e;obtain ⟨ρ2,m2,e2,e⟩:=R.ah e;cases e;refine ⟨β,ρ,m,w,m1,r,l,e1,fun β1 H1 v1 x1 r1 q1=>?_⟩;exact ⟨β1,ρ,m1,w,ρ2,_,r1,l.mono r x1,q1,e2,fun β2 H2 σ2 x2 r2 l2=>k _ _ (x1.trans r1 x2) r2 σ2 l2⟩
theorem wU {x:Str} {a:Expr} (hN:X.N.Nodup) (hi:X.N[i]?=some x) (hx:L2.Loc X.env.scope x) (he:PE X a (SE X cl (ai C d))) (hs:swapsWith a (some (.Name x p)) pos.line X.env=pure false) (hf:X.fn x=true\/X.env.scope.names.lookup x=some .local):PS X (.Assign [.Name x p] a pos) (SS X cl (bN C (.asg (.pt (.var i)) d))):=by
 refine PS.imp (CK hN hi hx he hs hf) ?_;rintro D σ H ⟨β,ρ,m,f,m',r,l,e,k⟩;simp only [bN] at e;obtain ⟨w,m1,e1,e⟩:=R.ah e;simp only [fK,aV,R.bind] at e;cases e;exact ⟨β,ρ,m,w,_,r,l,e1,fun β1 H1 v1 x1 r1 q1=>k _ _ x1 r1 _ ((l.mono r x1).set q1)⟩
theorem D6 {j:Nat} {x:Str} {a:Expr} {pt u5:Pos} {kt k2} (hc:X.calm=true) (hN:X.N.Nodup) (hi:X.N[i]?=some x) (hj:X.N[j]?=some y) (hij:i≠j) (hx:X.env.scope.names.lookup x=some .local) (hy:X.env.scope.names.lookup y=some .local)
  (ha:PA X [a,b] (SA X cl (bg C (.cons da (.cons db .nil))))) (hw:swappedStores [.Tuple [.Name x px,.Name y py] kt pt] (.Tuple [a,b] k2 u5) X.env=pure (some [x,y])) (hs:swapsWithSole [.Tuple [.Name x px,.Name y py] kt pt] (.Tuple [a,b] k2 u5) pos.line X.env=pure false) :
  PS X (.Assign [.Tuple [.Name x px,.Name y py] kt pt] (.Tuple [a,b] k2 u5) pos) (SS X cl (bN C (.asg (.pt (.tup (.cons (.var i) (.cons (.var j) .nil)))) (.tup (.cons da (.cons db .nil)))))):=by
 refine PS.imp (CL hc hN hi hj hij hx hy ha hw hs) ?_;rintro D σ H ⟨β,ρ,m,f,m',r,l,e,k⟩;simp only [bN,ai] at e;obtain ⟨w,m1,e1,e⟩:=R.ah e;obtain ⟨ws,m2,e2,e3⟩:=R.ah e1;split at e3
 ·cases e3;refine ⟨β,ρ,m,ws,_,r,l,e2,fun β1 H1 v1 x1 r1 q1=>?_⟩;obtain ⟨ρ2,m3,e4,e⟩:=R.ah e;cases e;simp only [fK,aV] at e4;cases q1 with
  | nil=>simp only [cZ] at e4; cases e4
  | cons q1 q2=>
   cases q2 with
   | nil=>simp only [cZ,aV] at e4; cases e4
   | cons q2 q3=>
    cases q3 with
    | nil=>
     simp only [cZ,aV] at e4;cases e4;exact ⟨_,_,rfl,k _ _ x1 r1 _ (((l.mono r x1).set q1).set q2)⟩
    | cons _ _=>simp only [cZ,aV] at e4; cases e4
 ·cases e3
theorem D7 {x:Str} {a:Expr} {op:Operator} (hop:op=.Add\/op=.Sub) (hN:X.N.Nodup) (hi:X.N[i]?=some x) (hx:L2.Loc X.env.scope x) (he:PE X a (SE X cl (ai C d))) (hf:X.fn x=true\/X.env.scope.names.lookup x=some .local):PS X (.AugAssign (.Name x p) op a pos) (SS X cl (bN C (.aug i op d))):=by
 rcases hop with rfl | rfl
 ·refine PS.imp (vo hN hi hx he CM hf) ?_;rintro D σ H ⟨β,ρ,m,f,m',r,l,e,k⟩;simp only [bN] at e;split at e
  ·rename_i w0 e0;obtain ⟨y,m1,e1,e⟩:=R.ah e;obtain ⟨z,m2,e3,e⟩:=R.ah e;cases e;obtain ⟨v0,e2,q0⟩:=l.at_ e0;refine ⟨v0,e2,β,ρ,m,y,m1,r,l,e1,fun β1 H1 v1 x1 r1 q1=>?_⟩;unfold wm at e3;dsimp only at e3;split at e3
   ·cases e3; cases q0; cases q1;exact ⟨_,_,rfl,rfl,k _ _ x1 r1 _ ((l.mono r x1).set (.int _))⟩
   ·cases e3
  ·cases e
 ·refine PS.imp (vo hN hi hx he CN hf) ?_;rintro D σ H ⟨β,ρ,m,f,m',r,l,e,k⟩;simp only [bN] at e;split at e
  ·rename_i w0 e0;obtain ⟨y,m1,e1,e⟩:=R.ah e;obtain ⟨z,m2,e3,e⟩:=R.ah e;cases e;obtain ⟨v0,e2,q0⟩:=l.at_ e0;refine ⟨v0,e2,β,ρ,m,y,m1,r,l,e1,fun β1 H1 v1 x1 r1 q1=>?_⟩;unfold wm at e3;dsimp only at e3;split at e3
   ·cases e3; cases q0; cases q1;exact ⟨_,_,rfl,rfl,k _ _ x1 r1 _ ((l.mono r x1).set (.int _))⟩
   ·cases e3
  ·cases e
theorem Ad {a:Expr} (he:PE X a (SE X cl (ai C d))) (hs:swapsWith a none pos.line X.env=pure false):PS X (.Expr a pos) (SS X cl (bN C (.expr d))):=by
 refine PS.imp (zc he hs) ?_;rintro D σ H ⟨β,ρ,m,f,m',r,l,e,k⟩;simp only [bN] at e;obtain ⟨w,m1,e1,e⟩:=R.ah e;cases e;exact ⟨β,ρ,m,w,_,r,l,e1,fun β1 H1 v1 x1 r1 q1=>k _ _ x1 r1 _ (l.mono r x1)⟩
theorem D8 {a:Expr} (he:PE X a (SE X cl (ai C d))):PS X (.Return (some a) pos) (SS X cl (bN C (.ret d))):=by
 refine PS.imp (CB he) ?_;rintro D σ H ⟨β,ρ,m,f,m',r,l,e,k⟩;simp only [bN] at e;obtain ⟨w,m1,e1,e⟩:=R.ah e;cases e;exact ⟨β,ρ,m,w,_,r,l,e1,fun β1 H1 v1 x1 r1 q1=>k _ _ x1 r1 _ q1⟩
theorem Ae:PS X (.Return none pos) (SS X cl (bN C .retN)):=by
 refine PS.imp zd ?_;rintro D σ H ⟨β,ρ,m,f,m',r,l,e,k⟩;simp only [bN] at e;cases e;exact k _ _ Ext.refl r _ .non
theorem Af:PS X (.Pass pos) (SS X cl (bN C .pass)):=by
 refine PS.imp zb ?_;rintro D σ H ⟨β,ρ,m,f,m',r,l,e,k⟩;simp only [bN] at e;cases e;exact k _ _ Ext.refl r _ l
theorem D9:PS X (.Break pos) (SS X cl (bN C .brk)):=by
 refine PS.imp vh ?_;rintro D σ H ⟨β,ρ,m,f,m',r,l,e,k⟩;simp only [bN] at e;cases e;exact k _ _ Ext.refl r _ l
theorem Ag:PS X (.Continue pos) (SS X cl (bN C .cont)):=by
 refine PS.imp nN ?_;rintro D σ H ⟨β,ρ,m,f,m',r,l,e,k⟩;simp only [bN] at e;cases e;exact k _ _ Ext.refl r _ l
theorem wV:PS X st (SS X cl (bN C .never)):=by
 refine PS.imp vj ?_;rintro D σ H ⟨β,ρ,m,f,m',r,l,e,k⟩;simp only [bN] at e;cases e
theorem G2 {t:Expr} {dt:E} {a b:List Stmt} {da db:Ss} (ht:PT X t (ST X cl (aT C dt))) (ha:iX X a (SS X cl (aK C da))) (hb:iX X b (SS X cl (aK C db))):PS X (.If t a b pos) (SS X cl (bN C (.ife dt da db))):=by
 refine PS.imp (FU ht ha hb) ?_;rintro D σ H ⟨β,ρ,m,f,m',r,l,e,k⟩;simp only [bN] at e;obtain ⟨c,m1,e1,e⟩:=R.ah e;refine ⟨β,ρ,m,c,m1,r,l,e1,fun β1 H1 x1 r1=>?_⟩;split at e
 ·rename_i hc;rw [if_pos hc];exact ⟨β1,ρ,m1,f,m',r1,l.mono r x1,e,fun β2 H2 x2 r2=>k _ _ (x1.trans r1 x2) r2⟩
 ·rename_i hc;rw [if_neg hc];exact ⟨β1,ρ,m1,f,m',r1,l.mono r x1,e,fun β2 H2 x2 r2=>k _ _ (x1.trans r1 x2) r2⟩
theorem Ext.sq (r:Rel X.K cl β m H) (x:Ext β H β' H') {a:Addr} (h:cL X.K H a vs):cL X.K H' a vs:=x.IA r zT h
theorem Ea {it:E} {db:Ss} (hp:PassesOwn (model X.prog X.w) X.A X.env X.xe) (hc:X.calm=true) (hi:PI X tg iter (SI X cl (cz C it))) (hg:PG X tg (SG X cl (fK C (.pt t)))) (hb:iX X body (SS X cl (aK C db)))
  (hs:∀x,foldedSetIterable iter X.env x=pure x):PS X (.For tg iter body [] pos) (SS X cl (bN C (.for_ t it db))):=by
 refine PS.imp (CQ hp hc hi hg hb hs) ?_;rintro D σ H ⟨β,ρ,m,f,m',r,l,e,k⟩;simp only [bN] at e;obtain ⟨src,m1,e1,e⟩:=R.ah e;refine ⟨β,ρ,m,src,m1,r,l,e1,fun β1 H1 J x1 r1 is=>?_⟩;refine ⟨λ i n σ H=>∃β ρ m,Ext β1 H1 β H/\Rel X.K cl β m H/\RL X.K β H ρ σ/\gy src.get t (fun ρ m=>aK C db ρ m) n i ρ m=.ok f m',⟨_,β1,ρ,m1,Ext.refl,r1,l.mono r x1,e⟩,?_⟩;rintro i n σ H ⟨β2,ρ2,m2,x2,r2,l2,e2⟩;have pre:∃γ,β2=β1++γ:=let ⟨γ,h,_⟩:=x2.pre; ⟨γ,h⟩;obtain ⟨go,stop⟩:=is β2 m2 H i pre (λ h=>x2.sq r1 h) (λ h=>x2.fz r1 zT h) r2;unfold gy at e2;split at e2
 ·cases e2
 ·rename_i e3;cases e2;exact .inl ⟨stop e3,k _ _ (x1.trans r1 x2) r2 _ l2⟩
 ·rename_i w e3;obtain ⟨g1,g2⟩:=go w e3;refine .inr ⟨g1,?_⟩;split at e2
  ·cases e2
  ·rename_i n';split at e2
   ·cases e2
   ·rename_i ρ3 e4;obtain ⟨ff,m4,e5,e6⟩:=R.ah e2;refine ⟨fun σ' H'=>∃β ρ m,Ext β1 H1 β H'/\Rel X.K cl β m H'/\RL X.K β H' ρ σ'/\gy src.get t (fun ρ m=>aK C db ρ m) n' (i+1) ρ m=.ok f m',fun σ' H' h=>⟨n',Nat.lt_succ_self _,h⟩,λ x H' y=>?_⟩;obtain ⟨x3,r3,q3⟩:=g2 x H' y;refine ⟨β2,ρ2,m2,w,ρ3,m2,r3,l2.mono r2 x3,q3,by simp only [fK,e4],fun β5 H5 σ5 x5 r5 l5=>?_⟩;refine ⟨β5,ρ3,m2,ff,m4,r5,l5,e5,fun β6 H6 x6 r6=>?_⟩;have ID:=((x2.trans r2 x3).trans r3 x5).trans r5 x6;cases ff with
    | nx ρ6=>exact fun σ6 l6=>⟨β6,ρ6,m4,ID,r6,l6,e6⟩
    | ct ρ6=>exact fun σ6 l6=>⟨β6,ρ6,m4,ID,r6,l6,e6⟩
    | bk ρ6=>cases e6; exact fun σ6 l6=>k _ _ (x1.trans r1 ID) r6 σ6 l6
    | rt w6=>cases e6; exact λ v6 q6=>k _ _ (x1.trans r1 ID) r6 v6 q6
theorem wW {c:Expr} {dc:E} {db:Ss} (hp:PassesOwn (model X.prog X.w) X.A X.env X.xe) (hc:PT X c (ST X cl (aT C dc))) (hb:iX X body (SS X cl (aK C db))):PS X (.While c body [] pos) (SS X cl (bN C (.while_ dc db))):=by
 refine PS.imp (vp hp hc hb) ?_;rintro D σ H ⟨β,ρ,m,f,m',r,l,e,k⟩;simp only [bN] at e;refine ⟨λ n σ H'=>∃β' ρ m,Ext β H β' H'/\Rel X.K cl β' m H'/\RL X.K β' H' ρ σ/\eB (fun ρ m=>aT C dc ρ m) (fun ρ m=>aK C db ρ m) n ρ m=.ok f m',⟨_,β,ρ,m,Ext.refl,r,l,e⟩,?_⟩;rintro n σ H1 ⟨β1,ρ1,m1,x1,r1,l1,e1⟩;cases n with
 | zero=>simp only [eB] at e1; cases e1
 | succ n=>
  simp only [eB] at e1;obtain ⟨b,m2,e2,e3⟩:=R.ah e1;refine ⟨β1,ρ1,m1,b,m2,r1,l1,e2,fun β2 H2 x2 r2=>?_⟩;have LF:=x1.trans r1 x2;split at e3
  ·rename_i hb';dsimp only;rw [if_pos hb'];obtain ⟨ff,m4,e5,e6⟩:=R.ah e3;refine ⟨fun σ' H'=>∃β' ρ m,Ext β H β' H'/\Rel X.K cl β' m H'/\RL X.K β' H' ρ σ'/\eB (fun ρ m=>aT C dc ρ m) (fun ρ m=>aK C db ρ m) n ρ m=.ok f m',fun σ' H' h=>⟨n,Nat.lt_succ_self _,h⟩,?_⟩;refine ⟨β2,ρ1,m2,ff,m4,r2,l1.mono r1 x2,e5,fun β6 H6 x6 r6=>?_⟩;have IE:=LF.trans r2 x6;cases ff with
   | nx ρ6=>exact fun σ6 l6=>⟨β6,ρ6,m4,IE,r6,l6,e6⟩
   | ct ρ6=>exact fun σ6 l6=>⟨β6,ρ6,m4,IE,r6,l6,e6⟩
   | bk ρ6=>cases e6; exact fun σ6 l6=>k _ _ IE r6 σ6 l6
   | rt w6=>cases e6; exact λ v6 q6=>k _ _ IE r6 v6 q6
  ·rename_i hb';dsimp only;rw [if_neg hb'];cases e3;exact k _ _ LF r2 _ (l1.mono r1 x2)
end
noncomputable def mO (prog:Program) (w:World) (A:Around) (e elt:Expr) (d:Nat) (acc:Value) (env:Env) (Q:Shared->Prop):Option Comprehension->Shared->Prop
 | none,s=>wpAny (model prog w) A (eval elt env) (λ x s₄=>wpAny (model prog w) A (call (.builtin "list.append") [acc,x]) (λ _ s₅=>Q s₅) (λ _ _=>False) s₄) (λ _ _=>False) s
 | some g',s=>wpAny (model prog w) A (eval g'.iter env) (λ x s₄=>wpAny (model prog w) A (pyIter x) (λ it' s₅=>codeAny (model prog w) A (.compStart e (d+1) it' acc env) (λ r s₆=>match r with
   | .ok _=>Q s₆
   | .error _=>False) s₅) (λ _ _=>False) s₄) (λ _ _=>False) s
theorem kO (elt target iter:Expr) (gens:List Comprehension) (ifs:List Expr) (scope:Scope) (pos:Pos) (d:Nat) (it acc:Value) (env:Env) (h:gens[d]?=some ⟨target,iter,ifs,0⟩) (hn:gens[d+1]?=none) :
  compTurn (.ListComp elt gens scope pos) d it acc env=(do
   standAt iter.pos
   match <-pyNext it with
   | none=>pure (.done .next)
   | some v=>
    letOwnedTupleGo target it v
    assign target env v
    let mut ok:=true
    for c in ifs do
     if ok then ok <-isTrue c env (eval c env)
    if ok then
     (do let _ <-call (.builtin "list.append") [acc,<-eval elt env])
    again (.compLoop (.ListComp elt gens scope pos) d it acc env)):=by
 unfold compTurn;simp only [h,hn];rfl
theorem kP (elt target iter target' iter':Expr) (gens:List Comprehension) (ifs ifs':List Expr) (scope:Scope) (pos:Pos) (d:Nat) (it acc:Value) (env:Env) (h:gens[d]?=some ⟨target,iter,ifs,0⟩) (hn:gens[d+1]?=some ⟨target',iter',ifs',0⟩) :
  compTurn (.ListComp elt gens scope pos) d it acc env=(do
   standAt iter.pos
   match <-pyNext it with
   | none=>pure (.done .next)
   | some v=>
    letOwnedTupleGo target it v
    assign target env v
    let mut ok:=true
    for c in ifs do
     if ok then ok <-isTrue c env (eval c env)
    if ok then
     let x <-eval iter' env
     standAt iter'.pos
     let x <-foldedSetIterable iter' env x
     let _ <-runOwn (.compStart (.ListComp elt gens scope pos) (d+1) (<-holding [x] (pyIter x)) acc env) env
    again (.compLoop (.ListComp elt gens scope pos) d it acc env)):=by
 unfold compTurn;simp only [h,hn];rfl
section
variable {prog:Program} {w:World} {A:Around} {R:Result->Shared->Prop} {s:Shared}
theorem mP {target:Expr} {d:Nat} {it acc:Value} (hg:gens[d]?=some ⟨target,iter,ifs,0⟩) (hn:∀g',gens[d+1]?=some g'->g'.is_async=0/\∀x,foldedSetIterable g'.iter env x=pure x) (I:Nat->Shared->Prop)
  (turn:∀n s,I n s->wpAny (model prog w) A (pyNext it) (λ r s₁=>match r with
   | none=>R (.ok .next) s₁
   | some v=>wpAny (model prog w) A (letOwnedTupleGo target it v) (λ _ s₁'=>wpAny (model prog w) A (assign target env v) (λ _ s₂=>
     wpAny (model prog w) A (forIn ifs true λ c r=>if r=true then do let ok <-isTrue c env (eval c env); pure (ForInStep.yield ok) else pure (ForInStep.yield r)) (λ ok s₃=>
      if ok=true then mO prog w A (.ListComp elt gens scope pos) elt d acc env (λ s₅=>∃m,m < n/\I m s₅) gens[d+1]? s₃
      else ∃m,m < n/\I m s₃) (λ _ _=>False) s₂) (λ _ _=>False) s₁') (λ _ _=>False) s₁) (λ _ _=>False) s)
  (n:Nat) (h:I n s) :
  codeAny (model prog w) A (.compLoop (.ListComp elt gens scope pos) d it acc env) R s:=by
 refine codeAny_loop rfl I (λ n s hI=>?_) n h;show wpAny _ A ((compTurn (.ListComp elt gens scope pos) d it acc env).onRaise (λ x=>do noteFrame x env; theTreesLotGoes x)) _ _ s;refine wpAny_noted ?_;cases hx:gens[d+1]? with
 | none=>
  rw [kO _ _ _ _ _ _ _ _ _ _ _ hg hx];refine wpAny_bind (wpAny_standAt (wpAny_bind (wpAny_mono (turn n s hI) (λ r s₁ h₁=>?_) λ _ _ h'=>h'.elim)));cases r with
  | none=>exact wpAny_pure h₁
  | some v=>
   refine wpAny_bind (wpAny_mono h₁ (λ _ s₁' h₁'=>?_) λ _ _ h'=>h'.elim);refine wpAny_bind (wpAny_mono h₁' (λ _ s₂ h₂=>wpAny_bind (wpAny_mono h₂ (λ ok s₃ h₃=>?_) λ _ _ h'=>h'.elim)) λ _ _ h'=>h'.elim);cases ok with
   | false=>exact wpAny_pure ⟨rfl,h₃⟩
   | true=>
    rw [hx] at h₃;exact wpAny_bind (wpAny_bind (wpAny_mono h₃ (λ x s₄ h₄=>wpAny_bind (wpAny_mono h₄ (λ _ s₅ h₅=>wpAny_pure (wpAny_pure ⟨rfl,h₅⟩)) λ _ _ h'=>h'.elim)) λ _ _ h'=>h'.elim))
 | some g'=>
  obtain ⟨target',iter',ifs',as⟩:=g';obtain ⟨h0,hfs⟩:=hn _ hx;have h0:as=0:=h0;subst h0;rw [kP _ _ _ _ _ _ _ _ _ _ _ _ _ _ hg hx];refine wpAny_bind (wpAny_standAt (wpAny_bind (wpAny_mono (turn n s hI) (λ r s₁ h₁=>?_) λ _ _ h'=>h'.elim)));cases r with
  | none=>exact wpAny_pure h₁
  | some v=>
   refine wpAny_bind (wpAny_mono h₁ (λ _ s₁' h₁'=>?_) λ _ _ h'=>h'.elim);refine wpAny_bind (wpAny_mono h₁' (λ _ s₂ h₂=>wpAny_bind (wpAny_mono h₂ (λ ok s₃ h₃=>?_) λ _ _ h'=>h'.elim)) λ _ _ h'=>h'.elim);cases ok with
   | false=>exact wpAny_pure ⟨rfl,h₃⟩
   | true=>
    rw [hx] at h₃;refine wpAny_bind (wpAny_mono h₃ (λ x s₄ h₄=>?_) λ _ _ h'=>h'.elim);refine wpAny_bind (wpAny_standAt (wpAny_bind (wpAny_of_eq (hfs x) (wpAny_bind (wpAny_holding (wpAny_mono h₄ (λ it' s₅ h₅=>?_) λ _ _ h'=>h'.elim))))));refine wpAny_bind (wpAny_runOwn (codeAny_mono h₅ λ r s₆ h₆=>?_));cases r with
    | ok f=>exact wpAny_pure ⟨rfl,h₆⟩
    | error e=>exact h₆.elim
theorem gF {target:Expr} {d:Nat} {it acc:Value} (hg:gens[d]?=some ⟨target,iter,ifs,0⟩)
  (h0:codeAny (model prog w) A (.compLoop (.ListComp elt gens scope pos) d it acc env) R s)
  (h:wpAny (model prog w) A (pyIter it) (λ it' s'=>codeAny (model prog w) A (.compLoop (.ListComp elt gens scope pos) d it' acc env) R s')
   (notedBy (model prog w) A env λ x s'=>R (.error x) s') s) :
  codeAny (model prog w) A (.compStart (.ListComp elt gens scope pos) d it acc env) R s:=by
 refine codeAny_of_tree ?_;show wpAny _ _ ((compStart (.ListComp elt gens scope pos) d it acc env).onRaise (λ x=>do noteFrame x env; standAt theWindowsPlace)) _ _ s;refine wpAny_notedAt ?_;unfold compStart;have hcl:(clausesOf (.ListComp elt gens scope pos))[d]?=some ⟨target,iter,ifs,0⟩:=hg;simp only [hcl];show wpAny _ _ (ask >>= _) _ _ s;refine wpAny_bind (wpAny_askSetting (wpAny_ite ?_));split
 ·first
   | exact wpAny_bind (wpAny_pure (wpAny_pure (And.intro rfl h0)))
   | exact wpAny_pure (And.intro rfl h0)
 ·first
   | exact wpAny_bind (wpAny_rule (wpAny_bind (wpAny_standAt (wpAny_bind (wpAny_mono h (λ it' s' h'=>wpAny_pure (And.intro rfl h')) λ _ _ x=>x)))))
   | (refine wpAny_bind (wpAny_rule ?_); show wpAny _ _ (standAt iter.pos >>= _) _ _ s; exact wpAny_bind (wpAny_standAt (wpAny_bind (wpAny_mono h (λ it' s' h'=>wpAny_pure (And.intro rfl h')) λ _ _ x=>x))))
end
def PB (X:L2.Cx) (e elt:Expr) (gens:List Comprehension) (d:Nat) (Δ:Addr) (t:L2.St->Hp->(L2.St->Hp->Prop)->Prop):Prop:=
 ∀(aa:List (Addr×Obj)) (s:Shared) (σ:L2.St) (H:Hp) (Q:L2.St->Hp->Prop),Inv X aa σ H s->t σ H Q->
  mO X.prog X.w X.A e elt d (.ref Δ) X.env (λ s'=>∃σ' H',Inv X aa σ' H' s'/\Q σ' H') gens[d+1]? s
noncomputable def SB (X:L2.Cx) (cl:Cl) (Δ:Addr) (ev:Loc->Mem->List W->R (List W×Loc)):L2.St->Hp->(L2.St->Hp->Prop)->Prop:=fun σ H Q=>
 ∃β ρ m acc vs acc' ρ' m',Rel X.K cl β m H/\RL X.K β H ρ σ/\H Δ=some (.lst vs)/\Δ∉β/\aZ X.K β H acc vs/\ev ρ m acc=.ok (acc',ρ') m'/\
  ∀β' H' σ' vs',cM (some Δ) β H β' H'->Rel X.K cl β' m' H'->RL X.K β' H' ρ' σ'->H' Δ=some (.lst vs')->Δ∉β'->aZ X.K β' H' acc' vs'->Q σ' H'
section
variable {X:L2.Cx} {cl:Cl} {C:D.Cx} {e elt:Expr} {gens:List Comprehension} {d:Nat} {Δ:Addr}
theorem Ext.qt (x:Ext β H β' H') (hd:H Δ=some (.lst vs)) (hn:Δ∉β):H' Δ=some (.lst vs)/\Δ∉β':=by
 refine ⟨x.keep hd hn (by simp),λ z=>?_⟩;obtain ⟨γ,rfl,hγ⟩:=x.pre;rcases List.mem_append.mp z with z | z
 ·exact hn z
 ·rw [hγ _ z] at hd; cases hd
theorem G3 (hd:H Δ=some (.lst vs)):∀d,some Δ=some d->∃vs,H d=some (.lst vs):=λ d z=>by cases z; exact ⟨_,hd⟩
theorem Ah (hd:H Δ=some (.lst vs)):∀d,some Δ=some d->H d≠none:=λ d z=>by cases z; rw [hd]; exact λ z=>nomatch z
theorem Ec {de:E} (hx:X.xe=λ _ _=>False) (hn:gens[d+1]?=none) (he:PE X elt (SE X cl (ai C de))):PB X e elt gens d Δ (SB X cl Δ (gE C (.elt de))):=by
 intro aa s σ H Q I h;obtain ⟨β,ρ,m,acc,vs,acc',ρ',m',r,l,hd,nd,q,ev,k⟩:=h;simp only [gE] at ev;obtain ⟨w,m1,e1,ev⟩:=R.ah ev;split at ev
 ·rename_i hl;cases ev;rw [hn];have go:=he aa s σ H (λ v H1=>∃β1,Ext β H β1 H1/\Rel X.K cl β1 m' H1/\RW X.K β1 H1 w v) I ⟨β,ρ,m,w,m',r,l,e1,fun β1 H1 v1 x1 r1 q1=>⟨β1,x1,r1,q1⟩⟩;rw [hx] at go;refine wpAny_mono go (λ u s1 ⟨v,H1,I1,rv,β1,x1,r1,q1⟩=>?_) λ _ _ z=>z;obtain ⟨hd1,nd1⟩:=x1.qt hd nd;have hlen:vs.length < sizeLine:=Nat.lt_of_lt_of_le (by rw [<-q.length]; exact hl) bV;have ap:=lA (X:=X) aa s1 σ H1 (.ref Δ) [v] (.ref Δ) [u] (λ _ H'=>H'=upd H1 Δ (.lst (vs++[v]))) I1 rfl (.cons rv .nil) ⟨_,vs,v,rfl,rfl,hd1,hlen,rfl⟩;rw [hx] at ap;refine wpAny_mono ap (λ _ s2 ⟨_,H2,I2,_,e2⟩=>?_) λ _ _ z=>z;subst e2;obtain ⟨x2,r2⟩:=r1.qt (vs':=vs++[v]) hd1 nd1;refine ⟨σ,_,I2,k β1 _ σ (vs++[v]) (x1.toD.trans r1 x2 (Ah hd1)) r2 ((l.mono r x1).cP r1 (G3 hd1) x2) aG nd1 ?_⟩;exact ((q.mono r x1).cP r1 (G3 hd1) x2).append (.cons (q1.cP r1 (G3 hd1) x2) .nil)
 ·cases ev
theorem oz {J:It} {fp:List Addr} {it:Addr} {tn:Nat->Heap->Prop} {src:Src}
  (hx:X.xe=λ _ _=>False) (hc:X.calm=true) (hg:gens[d]?=some ⟨tg,iter,ifs,0⟩) (hn:∀g',gens[d+1]?=some g'->g'.is_async=0/\∀x,foldedSetIterable g'.iter X.env x=pure x)
  (Tu:Turn X.prog X.w X.K tg J fp it tn) (is:IS X cl J src β0 H0) (pg:PG X tg (SG X cl (fK C (.pt t)))) (Ai:kI X ifs (ST X cl (bz C di))) (pb:PB X (.ListComp elt gens scope pos) elt gens d Δ (SB X cl Δ (gE C rest)))
 {ρ':Loc} {acc acc':List W} (I:Inv X aa σ H s) (st:tn 0 s.heap) (Aj:∀b∈fp,gv X aa H b)
  (hpre:∃γ,β=β0++γ) (htup:∀{a:Addr} {vs:List V},cL X.K H0 a vs->cL X.K H a vs) (Mp:∀{a:Addr} {o:Obj} {u:HO},H0 a=some (.frz o u)->H a=some (.frz o u)) (r:Rel X.K cl β m H) (l:RL X.K β H ρ σ) (hd:H Δ=some (.lst vs)) (nd:Δ∉β) (q:aZ X.K β H acc vs)
  (ev:cC src.get t (fun ρ m=>bz C di ρ m) (fun ρ m acc=>gE C rest ρ m acc) n 0 ρ m acc=.ok (acc',ρ') m') {Rr:Result->Shared->Prop}
  (fin:∀s' σ' H' β' vs',Inv X aa σ' H' s'->cM (some Δ) β H β' H'->Rel X.K cl β' m' H'->RL X.K β' H' ρ' σ'->H' Δ=some (.lst vs')->Δ∉β'->aZ X.K β' H' acc' vs'->Rr (.ok .next) s') :
  codeAny (model X.prog X.w) X.A (.compLoop (.ListComp elt gens scope pos) d (.ref it) (.ref Δ) X.env) Rr s:=by
 have stat:∀{H':Hp},(∀b∈fp,H' b=none)->∀b∈fp,gv X aa H' b:=λ hn b hb=>⟨hn b hb,(Aj b hb).2⟩;refine mP hg hn (λ n s'=>∃i σ' H' β' ρ1 m1 acc1 vs1,Inv X aa σ' H' s'/\tn i s'.heap/\(∀b∈fp,H' b=none)/\cM (some Δ) β H β' H'/\Rel X.K cl β' m1 H'/\RL X.K β' H' ρ1 σ'/\H' Δ=some (.lst vs1)/\Δ∉β'/\aZ X.K β' H' acc1 vs1/\
  cC src.get t (fun ρ m=>bz C di ρ m) (fun ρ m acc=>gE C rest ρ m acc) n i ρ1 m1 acc1=.ok (acc',ρ') m') ?_ n ⟨0,σ,H,β,ρ,m,acc,vs,I,st,λ b hb=>(Aj b hb).1,Ext.refl,r,l,hd,nd,q,ev⟩
 rintro n s1 ⟨i,σ1,H1,β1,ρ1,m1,acc1,vs1,I1,st1,fr1,x1,r1,l1,hd1,nd1,q1,e1⟩;have KJ:∃γ,β1=β0++γ:=by
  obtain ⟨γ,h1,_⟩:=x1.pre;obtain ⟨δ,h2⟩:=hpre;exact ⟨δ++γ,by rw [h1,h2,append_assoc]⟩
 obtain ⟨go,stop⟩:=is β1 m1 H1 i KJ (λ h=>x1.IA r (G3 hd) (htup h)) (λ h=>x1.fz r (G3 hd) (Mp h)) r1;unfold cC at e1;split at e1
 ·cases e1
 ·rename_i e2;cases e1;refine wpAny_mono (Tu.done X rfl rfl rfl hc i aa s1 σ1 H1 (λ _ _=>False) I1 (stat fr1) st1 (stop e2)) (λ rr s2 ⟨hr,I2⟩=>?_) λ _ _ z=>z;subst hr;exact fin s2 σ1 H1 β1 vs1 I2 x1 r1 l1 hd1 nd1 q1
 ·rename_i w e2;obtain ⟨g1,g2⟩:=go w e2;split at e1
  ·cases e1
  ·rename_i n';split at e1
   ·cases e1
   ·rename_i ρ2 e3;obtain ⟨b,m3,e4,e5⟩:=R.ah e1;refine wpAny_mono (Tu.item X rfl rfl rfl hc i aa s1 σ1 H1 (λ _ _=>False) I1 (stat fr1) st1 g1) (λ rr s2 ⟨u,hr,h2⟩=>?_) λ _ _ z=>z;subst hr;refine wpAny_mono h2 (λ _ s3 ⟨x,H3,I3,r3,y3,st3,fr3⟩=>?_) λ _ _ z=>z;obtain ⟨x3,rr3,q3⟩:=g2 x H3 y3;obtain ⟨Ed,nd3⟩:=x3.qt hd1 nd1;have Mq:=I3.pinned (stat fr3) (Tu.obj _ _ st3);have l3:=l1.mono r1 x3;have LG:=pg _ s3 σ1 H3 x u (fun σ4 H4=>∃β4,Ext β1 H3 β4 H4/\Rel X.K cl β4 m1 H4/\RL X.K β4 H4 ρ2 σ4) Mq r3 ⟨β1,ρ1,m1,w,ρ2,m1,rr3,l3,q3,by simp only [fK,e3],fun β4 H4 σ4 x4 r4 l4=>⟨β4,x4,r4,l4⟩⟩;rw [hx] at LG;refine wpAny_mono LG (λ _ s4 ⟨σ4,H4,I4,β4,x4,r4,l4⟩=>?_) λ _ _ z=>z;obtain ⟨hd4,nd4⟩:=x4.qt Ed nd3;have LH:=Ai _ s4 σ4 H4 (λ bb H5=>bb=b/\∃β5,Ext β4 H4 β5 H5/\Rel X.K cl β5 m3 H5) I4 ⟨β4,ρ2,m1,b,m3,r4,l4,e4,fun β5 H5 x5 r5=>⟨rfl,β5,x5,r5⟩⟩;rw [hx] at LH;refine wpAny_mono LH (λ bb s5 ⟨H5,I5,hb,β5,x5,r5⟩=>?_) λ _ _ z=>z;subst hb;obtain ⟨hd5,nd5⟩:=x5.qt hd4 nd4;have l5:=l4.mono r4 x5;have LI:Ext β1 H1 β5 H5:=(x3.trans rr3 x4).trans r4 x5;have LJ:cM (some Δ) β H β5 H5:=x1.trans r1 LI.toD (Ah hd1);have q5:=q1.mono r1 LI;have again:∀{σ':L2.St} {H':Hp} {s':Shared} {β':List Addr} {ρ4:Loc} {m4:Mem} {Ak:List W} {IF:List V},Inv X (aa++jG fp s3.heap) σ' H' s'->cM (some Δ) β H β' H'->Rel X.K cl β' m4 H'->RL X.K β' H' ρ4 σ'->H' Δ=some (.lst IF)->Δ∉β'->aZ X.K β' H' Ak IF->
      cC src.get t (fun ρ m=>bz C di ρ m) (fun ρ m acc=>gE C rest ρ m acc) n' (i+1) ρ4 m4 Ak=.ok (acc',ρ') m'->
      ∃mm,mm < n'+1/\∃i σ' H' β' ρ1 m1 acc1 vs1,Inv X aa σ' H' s'/\tn i s'.heap/\(∀b∈fp,H' b=none)/\cM (some Δ) β H β' H'/\Rel X.K cl β' m1 H'/\RL X.K β' H' ρ1 σ'/\H' Δ=some (.lst vs1)/\Δ∉β'/\aZ X.K β' H' acc1 vs1/\
       cC src.get t (fun ρ m=>bz C di ρ m) (fun ρ m acc=>gE C rest ρ m acc) mm i ρ1 m1 acc1=.ok (acc',ρ') m':=λ {σ' H' s' β' ρ4 m4 Ak IF} I' x' r' l' hd' nd' q' e'=>by
     refine ⟨n',Nat.lt_succ_self _,i+1,σ',H',β',ρ4,m4,Ak,IF,I'.gR,Tu.keep _ _ _ st3 λ b hb o eo=>(I'.pin (b,o) (mem_append_right _ (mem_append_right _ (fh hb eo)))).1,λ b hb=>?_,x',r',l',hd',nd',q',e'⟩;obtain ⟨o,eo,_⟩:=Tu.obj _ _ st3 b hb;exact (I'.pin (b,o) (mem_append_right _ (mem_append_right _ (fh hb eo)))).2.1
    cases bb with
    | false=>exact again I5 LJ r5 l5 hd5 nd5 q5 e5
    | true=>
     simp only [if_true] at e5 ⊢;obtain ⟨p,m6,e6,e7⟩:=R.ah e5;obtain ⟨acc6,ρ6⟩:=p;have Mr:=pb _ s5 σ4 H5 (fun σ6 H6=>∃β6 vs6,cM (some Δ) β5 H5 β6 H6/\Rel X.K cl β6 m6 H6/\RL X.K β6 H6 ρ6 σ6/\H6 Δ=some (.lst vs6)/\Δ∉β6/\aZ X.K β6 H6 acc6 vs6) I5 ⟨β5,ρ2,m3,acc1,vs1,acc6,ρ6,m6,r5,l5,hd5,nd5,q5,e6,fun β6 H6 σ6 vs6 x6 r6 l6 hd6 nd6 q6=>⟨β6,vs6,x6,r6,l6,hd6,nd6,q6⟩⟩;have mono:∀{Q Q':Shared->Prop} {o:Option Comprehension} {s:Shared},(∀s,Q s->Q' s)->mO X.prog X.w X.A (.ListComp elt gens scope pos) elt d (.ref Δ) X.env Q o s->mO X.prog X.w X.A (.ListComp elt gens scope pos) elt d (.ref Δ) X.env Q' o s:=by
      intro Q Q' o s hq h;cases o with
      | none=>exact wpAny_mono h (λ _ _ h=>wpAny_mono h (λ _ s z=>hq s z) λ _ _ z=>z) λ _ _ z=>z
      | some g=>exact wpAny_mono h (λ _ _ h=>wpAny_mono h (λ _ s z=>codeAny_mono z λ rr s' z'=>by
        cases rr with
        | ok f=>exact hq _ z'
        | error e=>exact z') λ _ _ z=>z) λ _ _ z=>z
     refine mono (λ s6 ⟨σ6,H6,I6,β6,vs6,x6,r6,l6,hd6,nd6,q6⟩=>?_) Mr;exact again I6 (LJ.trans r5 x6 (Ah hd5)) r6 l6 hd6 nd6 q6 e7
theorem G4 {wX:E} (hx:X.xe=λ _ _=>False) (hc:X.calm=true) (hg:gens[d+1]?=some ⟨tg,iter,ifs,0⟩) (hn:∀g',gens[d+1+1]?=some g'->g'.is_async=0/\∀x,foldedSetIterable g'.iter X.env x=pure x)
  (hi:PI X tg iter (SI X cl (cz C wX))) (pg:PG X tg (SG X cl (fK C (.pt t)))) (Ai:kI X ifs (ST X cl (bz C di))) (pb:PB X (.ListComp elt gens scope pos) elt gens (d+1) Δ (SB X cl Δ (gE C rest))) :
  PB X (.ListComp elt gens scope pos) elt gens d Δ (SB X cl Δ (gE C (.gen t [] wX di rest))):=by
 intro aa s σ H Q I h;obtain ⟨β,ρ,m,acc,vs,acc',ρ',m',r,l,hd,nd,q,ev,k⟩:=h;simp only [gE,bY] at ev;obtain ⟨src,m1,e1,ev⟩:=R.ah ev;rw [hg];have go:=hi aa s σ H (λ J H1=>∃β1,Ext β H β1 H1/\Rel X.K cl β1 m1 H1/\IS X cl J src β1 H1) I ⟨β,ρ,m,src,m1,r,l,e1,fun β1 H1 J x1 r1 is=>⟨β1,x1,r1,is⟩⟩;rw [hx] at go;refine wpAny_mono go (λ v s1 h1=>wpAny_mono h1 (λ itv s2 h2=>?_) λ _ _ z=>z) λ _ _ z=>z;obtain ⟨it,fp,tn,J,H1,e2,I1,Tu,st,Aj,β1,x1,r1,is⟩:=h2;subst e2;obtain ⟨hd1,nd1⟩:=x1.qt hd nd;have loop:codeAny (model X.prog X.w) X.A (.compLoop (.ListComp elt gens scope pos) (d+1) (.ref it) (.ref Δ) X.env) (λ rr s₆=>match rr with
   | .ok _=>∃σ' H',Inv X aa σ' H' s₆/\Q σ' H'
   | .error _=>False) s2:=
  oz hx hc hg hn Tu is pg Ai pb I1 st Aj ⟨[],by simp⟩ (λ h=>h) (λ h=>h) r1 (l.mono r x1) hd1 nd1 (q.mono r x1) ev λ s' σ' H' β' vs' I' x' r' l' hd' nd' q'=>⟨σ',H',I',k β' H' σ' vs' (x1.toD.trans r1 x' (Ah hd1)) r' l' hd' nd' q'⟩
 exact gF hg loop (Tu.self _ 0 _ _ _ st loop)
theorem RL.bY:∀{js:List Nat} {ρ:Loc} {σ:L2.St},RL K β H ρ σ->RL K β H (D.bY js ρ) (L2.bY js σ)
 | [],_,_,l=>l
 | j::js,ρ,σ,l=>by
  refine RL.bY (js:=js) ⟨by simp [l.len],λ {i w} h=>?_⟩
  by_cases e:j=i
  ·subst e;rw [getElem?_set] at h;rw [if_pos rfl] at h;split at h<;>cases h
  ·rw [getElem?_set_ne e] at h ⊢;exact l.at_ h
theorem oA {js:List Nat} {wX:E} (hc:X.calm=true) (ok:gI X.N js scope X.env.scope) (hg:gens[0]?=some ⟨tg,iter,ifs,0⟩) (hn:∀g',gens[1]?=some g'->g'.is_async=0/\∀env x,foldedSetIterable g'.iter env x=pure x)
  (hi:PI X tg iter (SI X cl (cz C wX))) (pg:∀cl' s₀ H₀ fp pn,PG (X.comp scope cl' s₀ H₀ fp pn) tg (SG (X.comp scope cl' s₀ H₀ fp pn) cl (fK C (.pt t)))) (Ai:∀cl' s₀ H₀ fp pn,kI (X.comp scope cl' s₀ H₀ fp pn) ifs (ST (X.comp scope cl' s₀ H₀ fp pn) cl (bz C di)))
  (pb:∀cl' s₀ H₀ fp pn Δ,PB (X.comp scope cl' s₀ H₀ fp pn) (.ListComp elt gens scope pos) elt gens 0 Δ (SB (X.comp scope cl' s₀ H₀ fp pn) cl Δ (gE C rest)))
  (hs:∀x,foldedSetIterable iter X.env x=pure x) {Q:VK} (I:Inv X aa σ H s) (h:SE X cl (ai C (.comp (.gen t js wX di rest))) σ H Q) {use:Option (Value->Sem Unit)} {Q':Value->Shared->Prop}
  (fin:∀(D Cf:Addr) (s':Shared) (H':Hp),(∀h',(∀b o,b≠Cf->s'.heap.get? b=some o->h'.get? b=some o)->Inv X aa σ H' {s' with heap:=h'})->Q (.ref D) H'->(∃m,s'.heap.Ns Cf m)->H' Cf=none->Cf≠X.env.locals->X.s₀.heap.objs.size<=Cf->(∀x c,X.env.cells.lookup x=some c->c≠Cf)->(∀p∈X.pn++aa,p.1≠Cf)->
   compPost (model X.prog X.w) X.A X.xe use Q' (.ref D) Cf (.ok .next) s') :
  wpAny (model X.prog X.w) X.A (comprehension (.ListComp elt gens scope pos) scope X.env p (newList []) false (eval iter X.env) use) Q' X.xe s:=by
 obtain ⟨β,ρ,m,w,m',r,l,e,k⟩:=h;simp only [ai] at e;obtain ⟨⟨ws,ρ9⟩,m9,e8,e9⟩:=R.ah e;cases e9;clear e;simp only [gE] at e8;obtain ⟨src,m1,e1,e⟩:=R.ah e8;clear e8;have hgs:∃gs,gens=⟨tg,iter,ifs,0⟩::gs:=by
  cases gens with
  | nil=>simp at hg
  | cons g gs=>simp at hg; exact ⟨gs,by rw [hg]⟩
 obtain ⟨gs,rfl⟩:=hgs;have hclos:closureFor scope X.env=pure (cY X.env scope.names []):=kH λ y hy hk=>I.ok.has y.1 (ok.free y hy hk);refine wpAny_comprehension_free rfl hs hclos ok.kind ok.loc (bQ (hi aa s σ H (λ J H1=>∃β1,Ext β H β1 H1/\Rel X.K cl β1 m1 H1/\IS X cl J src β1 H1) I ⟨β,ρ,m,src,m1,r,l,e1,fun β1 H1 J x1 r1 is=>⟨β1,x1,r1,is⟩⟩) λ v s1 h1=>bQ h1 λ itv s2 h2=>?_);obtain ⟨it,fp,tn,J,H2,e2,I2,Tu,st2,f2,β2,x2,r2,is⟩:=h2;subst e2;have IG:H2 s2.heap.objs.size=none:=I2.fresh;refine wpAny_newObj_type ?_;have I3:Inv X aa σ (upd H2 s2.heap.objs.size (.lst [])) {s2 with heap:=s2.heap.push {cls:=.type "list",dict:=none,data:=.seq ([]:List Value).toArray}}:=
  I2.Gn (its:=[]) (t':=s2.toks) .nil (Nat.zero_le _)
 generalize hs3:({s2 with heap:=s2.heap.push {cls:=.type "list",dict:=none,data:=.seq ([]:List Value).toArray}}:Shared)=s3 at I3 ⊢;have G5:∀b o,s2.heap.get? b=some o->s3.heap.get? b=some o:=λ b o e=>by rw [<-hs3]; exact Heap.get?_push_of_some _ e
 have Al:∀b∈fp,b < s2.heap.objs.size:=λ b hb=>by
  obtain ⟨o,e,_⟩:=Tu.obj _ _ st2 b hb;exact Heap.lt_size e
 have Ef:s3.heap.objs.size=s2.heap.objs.size+1:=by rw [<-hs3]; exact Heap.size_push _ _
 have f3:∀b∈fp,gv X aa (upd H2 s2.heap.objs.size (.lst [])) b:=λ b hb=>⟨by rw [av (Nat.ne_of_lt (Al b hb))]; exact (f2 b hb).1,(f2 b hb).2⟩;refine I3.enter ok f3 (λ b hb=>by rw [Ef]; exact Nat.lt_succ_of_lt (Al b hb)) λ cells h₁ old F I4=>?_;have LK:tn 0 h₁:=Tu.keep _ _ _ st2 λ b hb o e=>old _ _ (G5 _ _ e);have stat:∀{H':Hp},(∀b∈fp,H' b=none)->∀b∈fp,gv (X.comp scope cells s3 (upd H2 s2.heap.objs.size (.lst [])) fp aa) [] H' b:=λ {H'} hn b hb=>by
  refine ⟨hn b hb,?_,λ z=>?_,.inl hb,λ x c e=>?_,λ p hp=>?_⟩
  ·show b≠s3.heap.objs.size;exact Nat.ne_of_lt (by rw [Ef]; exact Nat.lt_succ_of_lt (Al b hb))
  ·rcases List.mem_cons.mp (I3.lV b z) with q | q
   ·exact (f2 b hb).2.1 q
   ·exact (f2 b hb).2.2.1 q
  ·rcases F.old x c e with e | e
   ·exact (f2 b hb).2.2.2.2.1 x c e
   ·exact Nat.ne_of_gt (Nat.lt_trans (by rw [Ef]; exact Nat.lt_succ_of_lt (Al b hb)) e)
  ·exact (f2 b hb).2.2.2.2.2 p (by simpa using hp)
 have x3:Ext β2 H2 β2 (upd H2 s2.heap.objs.size (.lst [])):=⟨⟨[],by simp,by simp⟩,λ h _ _=>by rw [av (aB h IG)]; exact h⟩;have r3:Rel X.K cl β2 m1 (upd H2 s2.heap.objs.size (.lst [])):=⟨r2.len,r2.nd,λ h1 h2=>by
  have q:=r2.obj h1 h2;obtain ⟨u,e,_⟩:=q.ex;exact q.mono r2 x3 (av (aB e IG))⟩
 have l3:RL X.K β2 (upd H2 s2.heap.objs.size (.lst [])) (D.bY js ρ) (L2.bY js σ):=((l.mono r x2).mono r2 x3).bY;have nD:s2.heap.objs.size∉β2:=r2.By IG;have hD:H s2.heap.objs.size=none:=by
  cases z:H s2.heap.objs.size with
  | none=>rfl
  | some o=>
   by_cases hb:s2.heap.objs.size∈β
   ·obtain ⟨γ,hγ,_⟩:=x2.pre;exact absurd (by rw [hγ]; exact mem_append_left _ hb) nD
   ·have:=x2.keep z hb (by simp);rw [IG] at this; cases this
 have loop:∀s₄:Shared,s₄={s3 with heap:=h₁}->
   codeAny (model X.prog X.w) X.A (.compLoop (.ListComp elt (⟨tg,iter,ifs,0⟩::gs) scope pos) 0 (.ref it) (.ref s2.heap.objs.size) (compEnvC scope cells s3.heap.objs.size X.env))
    (compPost (model X.prog X.w) X.A X.xe use Q' (.ref s2.heap.objs.size) s3.heap.objs.size) s₄:=by
  intro s₄ e₄;subst e₄;refine oz (X:=X.comp scope cells s3 (upd H2 s2.heap.objs.size (.lst [])) fp aa) (cl:=cl) (C:=C) (Δ:=s2.heap.objs.size) rfl hc rfl (λ g' hg'=>⟨(hn g' hg').1,(hn g' hg').2 _⟩) Tu is (pg _ _ _ _ _) (Ai _ _ _ _ _) (pb _ _ _ _ _ _)
   I4 LK (stat λ b hb=>(f3 b hb).1) ⟨[],by simp⟩ (λ h=>x3.IA r2 zT h) (λ h=>x3.fz r2 zT h) r3 l3 aG nD .nil e ?_
  intro s' σ' H' β' vs' I' x' r' l' hd' nd' q';obtain ⟨m6,hm6,_⟩:=id I'.loc;have KL:=r'.out hd' nd' q';have KN:Ext β H (β'++[s2.heap.objs.size]) H':=by
   obtain ⟨γ,hγ,fγ⟩:=x2.pre;obtain ⟨δ,hδ,fδ⟩:=x'.pre;refine ⟨⟨γ++δ++[s2.heap.objs.size],by rw [hδ,hγ]; simp,λ a ha=>?_⟩,λ {a o} h hb _=>?_⟩
   ·rcases List.mem_append.mp ha with ha | ha
    ·rcases List.mem_append.mp ha with ha | ha
     ·exact fγ a ha
     ·have z3:=fδ a ha;have na:a≠s2.heap.objs.size:=by
       rintro rfl;rw [aG] at z3; cases z3
      rw [av na] at z3;cases z:H a with
      | none=>rfl
      | some o=>
       by_cases hb:a∈β
       ·obtain ⟨u,eu,_⟩:=r2.ex (a:=a) (by rw [hγ]; exact mem_append_left _ hb);rw [z3] at eu; cases eu
       ·have:=x2.keep z hb (by simp);rw [z3] at this; cases this
    ·simp at ha; rw [ha]; exact hD
   ·have h2:=x2.keep h hb (by simp);have na:a≠s2.heap.objs.size:=aB h hD;have nb:a∉β2:=λ z=>by
     rw [hγ] at z;rcases List.mem_append.mp z with z | z
     ·exact hb z
     ·rw [fγ a z] at h; cases h
    exact x'.keep (by rw [av na]; exact h2) nb (by simpa using na)
  have KO:Q (.ref s2.heap.objs.size) H':=k _ _ _ KN KL (.ref (r'.last _));refine fin _ _ s' H' (λ h' hk=>I3.Dr f3 I' hk) KO ⟨m6,hm6⟩ I'.free (Nat.ne_of_gt (Nat.lt_of_lt_of_le I3.lt (Nat.le_refl _))) I3.sz (λ x c e=>?_) (λ p hp=>Nat.ne_of_lt (Heap.lt_size (I3.pin p hp).1));obtain ⟨v,o,q,_⟩:=I3.cell x c e;exact Nat.ne_of_lt (Heap.lt_size q)
 exact gF rfl (loop _ rfl) (Tu.self _ 0 _ _ _ LK (loop _ rfl))
variable {scope:Scope} {pos:Pos} {js:List Nat} {tg iter:Expr} {ifs:List Expr} {t:T} {wX:E} {di:Es} {rest:G}
theorem Eg (hc:X.calm=true) (ok:gI X.N js scope X.env.scope) (hg:gens[0]?=some ⟨tg,iter,ifs,0⟩) (hn:∀g',gens[1]?=some g'->g'.is_async=0/\∀env x,foldedSetIterable g'.iter env x=pure x)
  (hi:PI X tg iter (SI X cl (cz C wX))) (pg:∀cl' s₀ H₀ fp pn,PG (X.comp scope cl' s₀ H₀ fp pn) tg (SG (X.comp scope cl' s₀ H₀ fp pn) cl (fK C (.pt t)))) (Ai:∀cl' s₀ H₀ fp pn,kI (X.comp scope cl' s₀ H₀ fp pn) ifs (ST (X.comp scope cl' s₀ H₀ fp pn) cl (bz C di)))
  (pb:∀cl' s₀ H₀ fp pn Δ,PB (X.comp scope cl' s₀ H₀ fp pn) (.ListComp elt gens scope pos) elt gens 0 Δ (SB (X.comp scope cl' s₀ H₀ fp pn) cl Δ (gE C rest)))
  (hs:∀x,foldedSetIterable iter X.env x=pure x) {pp:Pos} (hev:eval (.ListComp elt gens scope pos) X.env=comprehension (.ListComp elt gens scope pos) scope X.env pp (newList []) false (eval iter X.env) none):PE X (.ListComp elt gens scope pos) (SE X cl (ai C (.comp (.gen t js wX di rest)))):=by
 intro aa s σ H Q I h;rw [hev];refine oA hc ok hg hn hi pg Ai pb hs I h ?_;intro D Cf s' H' hI q hm hn h1 h2 h3 h4;obtain ⟨m,hm⟩:=hm;exact ⟨m,hm,λ h' hs'=>⟨.ref D,H',hI h' λ b o hb e=>hs'.extBut b o hb e,rfl,q⟩⟩
theorem Am {gs:List Comprehension} (hc:X.calm=true) (hN:X.N.Nodup) (hy:X.N[i]?=some y) (hx:L2.Loc X.env.scope y) (ok:gI X.N js scope X.env.scope) (hn:∀g',gs[0]?=some g'->g'.is_async=0/\∀env x,foldedSetIterable g'.iter env x=pure x)
  (hi:PI X tg iter (SI X cl (cz C wX))) (pg:∀cl' s₀ H₀ fp pn,PG (X.comp scope cl' s₀ H₀ fp pn) tg (SG (X.comp scope cl' s₀ H₀ fp pn) cl (fK C (.pt t)))) (Ai:∀cl' s₀ H₀ fp pn,kI (X.comp scope cl' s₀ H₀ fp pn) ifs (ST (X.comp scope cl' s₀ H₀ fp pn) cl (bz C di)))
  (pb:∀cl' s₀ H₀ fp pn Δ,PB (X.comp scope cl' s₀ H₀ fp pn) (.ListComp elt (⟨tg,iter,ifs,0⟩::gs) scope pos) elt (⟨tg,iter,ifs,0⟩::gs) 0 Δ (SB (X.comp scope cl' s₀ H₀ fp pn) cl Δ (gE C rest)))
  (hs:∀x,foldedSetIterable iter X.env x=pure x) (hsw:swapsWith (.ListComp elt (⟨tg,iter,ifs,0⟩::gs) scope pos) (some (.Name y py)) spos.line X.env=pure true) (hf:X.fn y=true\/X.env.scope.names.lookup y=some .local) :
  PS X (.Assign [.Name y py] (.ListComp elt (⟨tg,iter,ifs,0⟩::gs) scope pos) spos) (SS X cl (bN C (.asg (.pt (.var i)) (.comp (.gen t js wX di rest))))):=by
 intro aa s σ H D I h;obtain ⟨β,ρ,m,f,m',r,l,e,k⟩:=h;simp only [bN] at e;obtain ⟨w,m1,e1,e⟩:=R.ah e;simp only [fK,aV,R.bind] at e;cases e;have h:SE X cl (ai C (.comp (.gen t js wX di rest))) σ H (λ v H'=>D.nx (σ.set i (some v)) H'):=⟨β,ρ,m,w,_,r,l,e1,fun β1 H1 v1 x1 r1 q1=>k _ _ x1 r1 _ ((l.mono r x1).set q1)⟩;rw [exec_Assign_Name_used _ _ _ _ hsw];refine wpAny_bind (wpAny_standAt (wpAny_bind ?_));show wpAny _ X.A (do let _ <-comprehension (.ListComp elt (⟨tg,iter,ifs,0⟩::gs) scope pos) scope X.env _ (newList []) false (eval iter X.env) (some (assign (.Name y py) X.env))) _ _ s;refine wpAny_bind (wpAny_mono (oA (use:=some (assign (.Name y py) X.env)) (Q':=λ _ s'=>SP X aa D .next s') hc ok rfl (by simpa using hn) hi pg Ai pb hs I h ?_) (λ _ s' hq=>wpAny_pure (wpAny_pure hq)) λ _ _ e=>e);intro Dl Cf s' H' hI q hm hn h1 h2 h3 h4;obtain ⟨m,hm⟩:=hm;have I':Inv X aa σ H' s':=hI s'.heap λ b o _ e=>e;refine wpAny_assign_Name (kX I' hN hy hx (v:=.ref Dl) (u:=.ref Dl) rfl (λ s2 I2 hsb=>?_) hf);obtain ⟨a,sb,ha⟩:=hsb;have hne:Cf≠a:=by
  rcases ha with rfl | ha
  ·exact h1
  ·exact (h3 _ _ ha).symm
 refine ⟨m,hm.sameBut sb hne,λ h' hs'=>⟨_,H',?_,q⟩⟩;exact I2.turned (t':=s2.toks) (it:=Cf) (λ b o hb e=>hs'.extBut b o hb e) hn h1 (.inr h2) h3 h4
theorem An:kI X [] (ST X cl (bz C .nil)):=by
 intro aa s σ H Q I h;obtain ⟨β,ρ,m,b,m',r,l,e,k⟩:=h;simp only [bz] at e;cases e;exact vP aa s σ H Q I (k _ _ Ext.refl r)
theorem Ao {a:Expr} (ha:PT X a (ST X cl (aT C da))):kI X [a] (ST X cl (bz C (.cons da .nil))):=by
 intro aa s σ H Q I h;refine vQ ha aa s σ H Q I ?_;obtain ⟨β,ρ,m,b,m',r,l,e,k⟩:=h;simp only [bz] at e;obtain ⟨c,m1,e1,e⟩:=R.ah e;refine ⟨β,ρ,m,c,m1,r,l,e1,fun β1 H1 x1 r1=>?_⟩;cases c with
 | true=>simp only [if_true] at e; cases e; exact k _ _ x1 r1
 | false=>simp only [Bool.false_eq_true,if_false] at e; cases e; exact k _ _ x1 r1
end
structure ZJ where
 k:Bool
 it:Addr
 l:Addr
 xs:Array Value
def ZJ.At (j:ZJ) (h:Heap) (i:Nat):Prop:=(j.k=true/\h.IsListIter j.it j.l i)\/(j.k=false/\h.IsTupleIter j.it j.l i)
def ZJ.Sq (j:ZJ) (h:Heap):Prop:=(j.k=true/\h.IsList j.l j.xs)\/(j.k=false/\h.IsTuple j.l j.xs)
theorem ZJ.At.keep (a:j.At h i) (k:∀o,h.get? j.it=some o->h'.get? j.it=some o):j.At h' i:=by
 rcases a with ⟨e,o,a,r⟩ | ⟨e,o,a,r⟩
 ·exact .inl ⟨e,o,k o a,r⟩
 ·exact .inr ⟨e,o,k o a,r⟩
theorem ZJ.Sq.keep (a:j.Sq h) (k:∀o,h.get? j.l=some o->h'.get? j.l=some o):j.Sq h':=by
 rcases a with ⟨e,o,a,r⟩ | ⟨e,o,a,r⟩
 ·exact .inl ⟨e,o,k o a,r⟩
 ·exact .inr ⟨e,o,k o a,r⟩
abbrev eV (h:Heap) (T:Addr) (a:Array Value):Prop:=h.get? T=some {cls:=.type "tuple",data:=.seq a}
section
variable {prog:Program} {w:World} {A:Around} {E:Value->Shared->Prop} {s:Shared}
theorem ZJ.next {x:Value} (a:j.At s.heap i) (b:j.Sq s.heap) (hx:j.xs[i]?=some x) (q:∀h',j.At h' (i+1)->Heap.SameBut j.it s.heap h'->Q x {s with heap:=h'}):wpAny (model prog w) A (Builtin.SmallTypes.nextOf (.ref j.it)) Q E s:=by
 rcases a with ⟨e,a⟩ | ⟨e,a⟩
 ·rcases b with ⟨_,b⟩ | ⟨e',_⟩
  ·exact wpAny_nextOf_list_item a b hx λ h' a' s'=>q h' (.inl ⟨e,a'⟩) s'
  ·rw [e] at e'; cases e'
 ·rcases b with ⟨e',_⟩ | ⟨_,b⟩
  ·rw [e] at e'; cases e'
  ·exact nextT a b hx λ h' a' s'=>q h' (.inr ⟨e,a'⟩) s'
theorem ZJ.stop (hh:A.handled=none) (a:j.At s.heap i) (b:j.Sq s.heap) (hx:j.xs[i]?=none)
  (hE:∀h' e,Heap.ExtBut j.it s.heap h'->(∃o,h'.get? e=some o/\o.cls=.type "StopIteration")->E (.ref e) {s with heap:=h'}):wpAny (model prog w) A (Builtin.SmallTypes.nextOf (.ref j.it)) Q E s:=by
 rcases a with ⟨e,a⟩ | ⟨e,a⟩
 ·rcases b with ⟨_,b⟩ | ⟨e',_⟩
  ·exact wpAny_nextOf_list_end hh a b hx hE
  ·rw [e] at e'; cases e'
 ·rcases b with ⟨e',_⟩ | ⟨_,b⟩
  ·rw [e] at e'; cases e'
  ·exact oh hh a b hx hE
noncomputable def jT (T:Array Value):Nat->List Value->Array Value
 | _,[]=>T
 | k,v::vs=>jT (T.setIfInBounds k v) (k+1) vs
theorem jU:∀(vs:List Value) (T:Array Value) (k c:Nat),k+vs.length<=T.size->(jT T k vs)[c]?=if k<=c/\c < k+vs.length then vs[c - k]? else T[c]?
 | [],T,k,c,h=>by
  rw [if_neg (by intro q; simp only [length_nil] at q; omega)]; rfl
 | v::vs,T,k,c,h=>by
  simp only [length_cons] at h;rw [jT,jU vs _ (k+1) c (by rw [Array.size_setIfInBounds]; omega)]
  by_cases h1:c=k
  ·subst h1;rw [if_neg (by omega),if_pos (by simp),Array.getElem?_setIfInBounds_self_of_lt (by omega)];simp
  ·by_cases h2:k+1<=c/\c < k+1+vs.length
   ·rw [if_pos h2,if_pos (by simp; omega)];rw [show c - k=(c - (k+1))+1 by omega,getElem?_cons_succ]
   ·rw [if_neg h2,if_neg (by simp; omega),Array.getElem?_setIfInBounds_ne (by omega)]
theorem qB {vs:List Value} {T:Array Value} (h:T.size=vs.length):jT T 0 vs=vs.toArray:=by
 apply Array.ext_getElem?;intro c;rw [jU vs T 0 c (by omega)]
 by_cases hc:c < vs.length
 ·rw [if_pos (by omega)]; simp
 ·rw [if_neg (by omega)];rw [Array.getElem?_eq_none (by omega),Array.getElem?_eq_none (by simp; omega)]
structure Apart (TO:Addr) (js:List ZJ):Prop where
 its:(js.map (·.it)).Nodup
 toi:∀j∈js,j.it≠TO
 tol:∀j∈js,j.l≠TO
 il:∀j∈js,∀j'∈js,j.l≠j'.it
theorem Apart.tail {TO:Addr} (a:Apart TO (j::js)):Apart TO js:=
 ⟨(List.nodup_cons.mp a.its).2,λ x hx=>a.toi x (mem_cons_of_mem _ hx),λ x hx=>a.tol x (mem_cons_of_mem _ hx),λ x hx y hy=>a.il x (mem_cons_of_mem _ hx) y (mem_cons_of_mem _ hy)⟩
def BH (prog:Program) (w:World) (A:Around) (E:Value->Shared->Prop) (Eb:Value->Shared->Prop) (TO:Addr) {β:Type} (b0:β) (body:Value×Nat->β->Sem (ForInStep β)):Prop:=
 ∀(it:Addr) (k:Nat) (s:Shared) (R':ForInStep β->Shared->Prop),wpAny (model prog w) A (Builtin.SmallTypes.nextOf (.ref it)) (λ x s1=>∃T,eV s1.heap TO T/\T.size<=100/\∀h',eV h' TO (T.setIfInBounds k x)->Heap.SameBut TO s1.heap h'->R' (.yield b0) {s1 with heap:=h'}) Eb s->
  wpAny (model prog w) A (body (.ref it,k) b0) R' E s
theorem ja {β:Type} {b0:β} {body:Value×Nat->β->Sem (ForInStep β)} {TO:Addr} {Eb:Value->Shared->Prop} (hb:BH prog w A E Eb TO b0 body) {Q:β->Shared->Prop}:∀(js:List ZJ) (k:Nat) (s:Shared) (T:Array Value) (vs:List Value),
  Apart TO js->(∀j∈js,j.At s.heap i/\j.Sq s.heap)->Paired (λ (j:ZJ) v=>j.xs[i]?=some v) js vs->eV s.heap TO T->T.size<=100->
  (∀h',(∀j∈js,j.At h' (i+1))->eV h' TO (jT T k vs)->h'.objs.size=s.heap.objs.size->(∀c o,c≠TO->c∉js.map (·.it)->s.heap.get? c=some o->h'.get? c=some o)->Q b0 {s with heap:=h'})->
  wpAny (model prog w) A (forIn ((js.map λ j=>Value.ref j.it).zipIdx k) b0 body) Q E s
 | [],k,s,T,vs,ap,hj,hv,hT,hz,q=>by
  cases hv;rw [map_nil,zipIdx_nil,forIn_nil];exact wpAny_pure (q s.heap (by simp) hT rfl λ c o _ _ e=>e)
 | j::js,k,s,T,vs,ap,hj,hv,hT,hz,q=>by
  cases hv with
  | @cons _ v _ vs hx hv=>
   rw [map_cons,zipIdx_cons,forIn_cons];obtain ⟨a0,b0'⟩:=hj j mem_cons_self;refine wpAny_bind (hb j.it k s _ (ZJ.next a0 b0' hx λ h1 a1 s1=>⟨T,s1.extBut _ _ (ap.toi j mem_cons_self).symm hT,hz,λ h2 hT2 s2=>?_⟩));have keep:∀c o,c≠TO->c≠j.it->s.heap.get? c=some o->h2.get? c=some o:=λ c o n1 n2 e=>s2.extBut c o n1 (s1.extBut c o n2 e);have By:j.it∉js.map (·.it):=(List.nodup_cons.mp ap.its).1;refine ja hb js (k+1) {s with heap:=h2} (T.setIfInBounds k v) vs ap.tail (λ j' hj'=>?_) hv hT2 (by rw [Array.size_setIfInBounds]; exact hz) λ h3 q1 q2 q3 q4=>?_
   ·obtain ⟨x1,x2⟩:=hj j' (mem_cons_of_mem _ hj');exact ⟨x1.keep λ o e=>keep _ o (ap.toi j' (mem_cons_of_mem _ hj')) (λ z=>By (z▸mem_map_of_mem hj')) e,x2.keep λ o e=>keep _ o (ap.tol j' (mem_cons_of_mem _ hj')) (ap.il j' (mem_cons_of_mem _ hj') j mem_cons_self) e⟩
   ·refine q h3 (λ j' hj'=>?_) q2 (by rw [q3]; show h2.objs.size=_; rw [s2.1]; exact s1.1) λ c o n1 n2 e=>q4 c o n1 (λ z=>n2 (mem_cons_of_mem _ z)) (keep c o n1 (λ z=>n2 (by rw [z]; exact mem_cons_self)) e);rcases List.mem_cons.mp hj' with rfl | hj'
    ·exact a1.keep λ o e=>q4 _ o (ap.toi j' mem_cons_self) By (s2.extBut _ _ (ap.toi j' mem_cons_self) e)
    ·exact q1 j' hj'
theorem jV {β:Type} {b0:β} {body:Value×Nat->β->Sem (ForInStep β)} {TO:Addr} {Eb:Value->Shared->Prop} (hh:A.handled=none) (hb:BH prog w A E Eb TO b0 body) {Q:β->Shared->Prop}:∀(pre:List ZJ) (j:ZJ) (post:List ZJ) (k:Nat) (s:Shared) (T:Array Value) (vs:List Value),
  Apart TO (pre++j::post)->(∀x∈pre++j::post,x.At s.heap i/\x.Sq s.heap)->Paired (λ (j:ZJ) v=>j.xs[i]?=some v) pre vs->j.xs[i]?=none->eV s.heap TO T->T.size<=100->
  (∀h' e,(∀c o,c≠TO->c∉(pre++j::post).map (·.it)->s.heap.get? c=some o->h'.get? c=some o)->(∃o,h'.get? e=some o/\o.cls=.type "StopIteration")->Eb (.ref e) {s with heap:=h'})->
  wpAny (model prog w) A (forIn (((pre++j::post).map λ j=>Value.ref j.it).zipIdx k) b0 body) Q E s
 | [],j,post,k,s,T,vs,ap,hj,hv,hx,hT,hz,q=>by
  rw [nil_append,map_cons,zipIdx_cons,forIn_cons];obtain ⟨a0,b0'⟩:=hj j (by simp);refine wpAny_bind (hb j.it k s _ (ZJ.stop hh a0 b0' hx λ h' e x y=>q h' e (λ c o _ n2 z=>x c o (λ z'=>n2 (by simp [z'])) z) y))
 | p::pre,j,post,k,s,T,vs,ap,hj,hv,hx,hT,hz,q=>by
  cases hv with
  | @cons _ v _ vs II hv=>
   rw [cons_append,map_cons,zipIdx_cons,forIn_cons];obtain ⟨a0,b0'⟩:=hj p mem_cons_self;refine wpAny_bind (hb p.it k s _ (ZJ.next a0 b0' II λ h1 a1 s1=>⟨T,s1.extBut _ _ (ap.toi p mem_cons_self).symm hT,hz,λ h2 hT2 s2=>?_⟩));have keep:∀c o,c≠TO->c≠p.it->s.heap.get? c=some o->h2.get? c=some o:=λ c o n1 n2 e=>s2.extBut c o n1 (s1.extBut c o n2 e);have By:p.it∉(pre++j::post).map (·.it):=(List.nodup_cons.mp ap.its).1;refine jV hh hb pre j post (k+1) {s with heap:=h2} (T.setIfInBounds k v) vs ap.tail (λ j' hj'=>?_) hv hx hT2 (by rw [Array.size_setIfInBounds]; exact hz) λ h3 e q4 q5=>?_
   ·obtain ⟨x1,x2⟩:=hj j' (mem_cons_of_mem _ hj');exact ⟨x1.keep λ o e=>keep _ o (ap.toi j' (mem_cons_of_mem _ hj')) (λ z=>By (z▸mem_map_of_mem hj')) e,x2.keep λ o e=>keep _ o (ap.tol j' (mem_cons_of_mem _ hj')) (ap.il j' (mem_cons_of_mem _ hj') p mem_cons_self) e⟩
   ·exact q h3 e (λ c o n1 n2 e'=>q4 c o n1 (λ z=>n2 (mem_cons_of_mem _ z)) (keep c o n1 (λ z=>n2 (by rw [z]; exact mem_cons_self)) e')) q5
structure uA (h:Heap) (z TI TO:Addr) (f0:Value) (js:List ZJ):Prop where
 rc:IsZip h z TI TO f0
 ti:eV h TI (js.map λ j=>Value.ref j.it).toArray
structure iN (z TI TO:Addr) (js:List ZJ):Prop extends Apart TO js where
 iz:∀j∈js,j.it≠z
 lz:∀j∈js,j.l≠z
 toz:TO≠z
 tiz:TI≠z
 tito:TI≠TO
 tii:∀j∈js,j.it≠TI
 ne:js≠[]
theorem jW {TI TO:Addr} {T:Array Value} {vs:List Value} (D:iN z TI TO js) (hz:uA s.heap z TI TO .none js) (hT:eV s.heap TO T) (hsz:T.size=js.length) (hl:js.length<=100)
  (hj:∀j∈js,j.At s.heap i/\j.Sq s.heap) (hv:Paired (λ (j:ZJ) v=>j.xs[i]?=some v) js vs)
  (q:∀h',uA h' z TI TO (rawInt s.heap.objs.size) js->eV h' TO vs.toArray->(∀j∈js,j.At h' (i+1))->eV h' s.heap.objs.size vs.toArray->h'.objs.size=s.heap.objs.size+1->(∀c o,c≠z->c≠TO->c∉js.map (·.it)->s.heap.get? c=some o->h'.get? c=some o)->Q (.ref s.heap.objs.size) {s with heap:=h'}) :
  wpAny (model prog w) A (Builtin.«zip.__next__» ⟨[.ref z],[]⟩) (λ fin s'=>∃v,fin=.done (.ret v)/\Q v s') E s:=by
 have Ms:vs.length=js.length:=(Paired.length hv).symm;obtain ⟨hz,hTI⟩:=hz;show wpAny _ _ (field (.ref z) 2 >>= _) _ _ _;refine wpAny_bind (wpAny_field hz rfl (x:=.bool false) rfl ?_);show wpAny _ _ (field (.ref z) 3 >>= _) _ _ _;refine wpAny_bind (wpAny_field hz rfl (x:=.ref TI) rfl ?_);refine wpAny_bind (wpAny_seqItems hTI rfl ?_);have hne:((js.map λ j=>Value.ref j.it).toArray.isEmpty)=false:=by
  have:=D.ne;cases hjs:js with
  | nil=>exact absurd hjs this
  | cons _ _=>simp
 dsimp only;rw [hne];simp only [Bool.false_eq_true,if_false];show wpAny _ _ (Builtin.SmallTypes.ownedTupleIsFree (.ref z) >>= _) _ _ _;refine wpAny_bind ?_;unfold Builtin.SmallTypes.ownedTupleIsFree;refine wpAny_bind (wpAny_field hz rfl (x:=.none) rfl (wpAny_pure ?_));simp only [if_true];refine wpAny_bind (wpAny_rule ?_);refine wpAny_bind (wpAny_field hz rfl (x:=.ref TO) rfl ?_);refine wpAny_bind (wpAny_setField_rec hz (by simp) λ h₁ hz₁ hs₁=>?_);replace hz₁:IsZip h₁ z TI TO .ellipsis:=hz₁;replace hs₁:Heap.SameBut z s.heap h₁:=hs₁;refine wpAny_bind (ja (TO:=TO) (i:=i) (Eb:=λ e s1=>wpAny (model prog w) A (setField (.ref z) 0 .none) (λ _ s2=>E e s2) E s1) ?hb js 0 {s with heap:=h₁} T vs D.toApart (λ j h=>?_) hv (hs₁.extBut _ _ D.toz hT) (by omega) λ h₂ q1 q2 q3 q4=>?_)
 case hb=>
  intro it k s' R' h;refine wpAny_bind (wpAny_onRaise ?_);show wpAny _ _ (Builtin.SmallTypes.nextOf (.ref it) >>= _) _ _ _;refine wpAny_bind (wpAny_mono h (λ x s1 ⟨T1,t1,z1,k1⟩=>wpAny_pure ?_) λ e s1 he=>he);refine wpAny_bind (wpAny_seqItems t1 rfl ?_);refine wpAny_bind (wpAny_updateSeq t1 rfl ?_ (by rw [sizeLine_eq]; omega) (by rw [Array.size_setIfInBounds,sizeLine_eq]; omega));refine wpAny_bind (wpAny_letGo (wpAny_pure ?_));refine k1 _ ?_ (Heap.SameBut.update ..);rw [eV,Heap.get?_update_self _ t1 rfl];simp [Obj.mapSeq]
 ·obtain ⟨x1,x2⟩:=hj j h;exact ⟨x1.keep λ o e=>hs₁.extBut _ o (D.iz j h) e,x2.keep λ o e=>hs₁.extBut _ o (D.lz j h) e⟩
 ·rw [qB (by omega)] at q2;have KP:z∉js.map (·.it):=λ z'=>by
   obtain ⟨j,h1,h2⟩:=List.mem_map.mp z';exact D.iz j h1 h2
  have Mt:TI∉js.map (·.it):=λ z'=>by
   obtain ⟨j,h1,h2⟩:=List.mem_map.mp z';exact D.tii j h1 h2
  have hz₂:IsZip h₂ z TI TO .ellipsis:=q4 z _ D.toz.symm KP hz₁;have hTI₂:eV h₂ TI (js.map λ j=>Value.ref j.it).toArray:=q4 TI _ D.tito Mt (hs₁.extBut _ _ D.tiz hTI);have hs2:h₂.objs.size=s.heap.objs.size:=by rw [q3]; exact hs₁.1
  have G6:z < h₂.objs.size:=Heap.lt_size hz₂;refine wpAny_bind (wpAny_seqItems q2 rfl ?_);refine wpAny_bind (wpAny_newTuple ?_ (by show vs.length<=_; rw [sizeLine_eq]; omega));show wpAny _ _ (Builtin.SmallTypes.ownedTupleHandOut (.ref z) (.ref h₂.objs.size) >>= _) _ _ _;refine wpAny_bind ?_;unfold Builtin.SmallTypes.ownedTupleHandOut;have hz₆:IsZip (h₂.push {cls:=.type "tuple",data:=.seq vs.toArray}) z TI TO .ellipsis:=Heap.get?_push_of_some _ hz₂;refine wpAny_bind (wpAny_setField_rec hz₆ (by simp) λ h₇ hz₇ hs₇=>?_);replace hz₇:IsZip h₇ z TI TO (rawInt h₂.objs.size):=hz₇;replace hs₇:Heap.SameBut z (h₂.push {cls:=.type "tuple",data:=.seq vs.toArray}) h₇:=hs₇;refine wpAny_setField_rec hz₇ (by simp) λ h₈ hz₈ hs₈=>?_;replace hz₈:IsZip h₈ z TI TO (rawInt h₂.objs.size):=hz₈;replace hs₈:Heap.SameBut z h₇ h₈:=hs₈;have up:∀c o,c≠z->h₂.get? c=some o->h₈.get? c=some o:=λ c o c1 e=>hs₈.extBut _ _ c1 (hs₇.extBut _ _ c1 (Heap.get?_push_of_some _ e));have hT₈:eV h₈ h₂.objs.size vs.toArray:=hs₈.extBut _ _ (Nat.ne_of_gt G6) (hs₇.extBut _ _ (Nat.ne_of_gt G6) (Heap.get?_push_size _ rfl));have LL:h₈.objs.size=h₂.objs.size+1:=by rw [hs₈.1,hs₇.1,Heap.size_push]
  rw [hs2] at hz₈ hT₈ LL;refine wpAny_pure ⟨_,rfl,?_⟩;show Q (.ref h₂.objs.size) _;rw [hs2];exact q h₈ ⟨hz₈,up _ _ D.tiz hTI₂⟩ (up _ _ D.toz q2) (λ j hj'=>(q1 j hj').keep λ o e=>up _ o (D.iz j hj') e) hT₈ LL λ c o c1 c2 c3 e=>up c o c1 (q4 c o c2 c3 (hs₁.extBut _ _ c1 e))
theorem kQ {TI TO:Addr} {pre post:List ZJ} {T:Array Value} {vs:List Value} {Q:Fin->Shared->Prop} (hh:A.handled=none) (D:iN z TI TO (pre++j::post)) (hz:uA s.heap z TI TO .none (pre++j::post)) (hT:eV s.heap TO T) (hsz:T.size<=100)
  (hj:∀x∈pre++j::post,x.At s.heap i/\x.Sq s.heap) (hv:Paired (λ (j:ZJ) v=>j.xs[i]?=some v) pre vs) (hx:j.xs[i]?=none)
  (q:∀h' e,(∀c o,c≠z->c≠TO->c∉(pre++j::post).map (·.it)->s.heap.get? c=some o->h'.get? c=some o)->(∃o,h'.get? e=some o/\o.cls=.type "StopIteration")->E (.ref e) {s with heap:=h'}) :
  wpAny (model prog w) A (Builtin.«zip.__next__» ⟨[.ref z],[]⟩) Q E s:=by
 obtain ⟨hz,hTI⟩:=hz;show wpAny _ _ (field (.ref z) 2 >>= _) _ _ _;refine wpAny_bind (wpAny_field hz rfl (x:=.bool false) rfl ?_);show wpAny _ _ (field (.ref z) 3 >>= _) _ _ _;refine wpAny_bind (wpAny_field hz rfl (x:=.ref TI) rfl ?_);refine wpAny_bind (wpAny_seqItems hTI rfl ?_);have hne:(((pre++j::post).map λ j=>Value.ref j.it).toArray.isEmpty)=false:=by
  have:=D.ne;cases hjs:(pre++j::post) with
  | nil=>exact absurd hjs this
  | cons _ _=>simp
 dsimp only;rw [hne];simp only [Bool.false_eq_true,if_false];show wpAny _ _ (Builtin.SmallTypes.ownedTupleIsFree (.ref z) >>= _) _ _ _;refine wpAny_bind ?_;unfold Builtin.SmallTypes.ownedTupleIsFree;refine wpAny_bind (wpAny_field hz rfl (x:=.none) rfl (wpAny_pure ?_));simp only [if_true];refine wpAny_bind (wpAny_rule ?_);refine wpAny_bind (wpAny_field hz rfl (x:=.ref TO) rfl ?_);refine wpAny_bind (wpAny_setField_rec hz (by simp) λ h₁ hz₁ hs₁=>?_);replace hz₁:IsZip h₁ z TI TO .ellipsis:=hz₁;replace hs₁:Heap.SameBut z s.heap h₁:=hs₁;refine wpAny_bind (jV (TO:=TO) (i:=i) (Eb:=λ e s1=>wpAny (model prog w) A (setField (.ref z) 0 .none) (λ _ s2=>E e s2) E s1) hh ?hb pre j post 0 {s with heap:=h₁} T vs D.toApart (λ x h=>?_) hv hx (hs₁.extBut _ _ D.toz hT) hsz λ h₂ e q4 q5=>?_)
 case hb=>
  intro it k s' R' h;refine wpAny_bind (wpAny_onRaise ?_);show wpAny _ _ (Builtin.SmallTypes.nextOf (.ref it) >>= _) _ _ _;refine wpAny_bind (wpAny_mono h (λ x s1 ⟨T1,t1,z1,k1⟩=>wpAny_pure ?_) λ e s1 he=>he);refine wpAny_bind (wpAny_seqItems t1 rfl ?_);refine wpAny_bind (wpAny_updateSeq t1 rfl ?_ (by rw [sizeLine_eq]; omega) (by rw [Array.size_setIfInBounds,sizeLine_eq]; omega));refine wpAny_bind (wpAny_letGo (wpAny_pure ?_));refine k1 _ ?_ (Heap.SameBut.update ..);rw [eV,Heap.get?_update_self _ t1 rfl];simp [Obj.mapSeq]
 ·obtain ⟨x1,x2⟩:=hj x h;exact ⟨x1.keep λ o e=>hs₁.extBut _ o (D.iz x h) e,x2.keep λ o e=>hs₁.extBut _ o (D.lz x h) e⟩
 ·have KP:z∉(pre++j::post).map (·.it):=λ z'=>by
   obtain ⟨j,h1,h2⟩:=List.mem_map.mp z';exact D.iz j h1 h2
  have hz₂:IsZip h₂ z TI TO .ellipsis:=q4 z _ D.toz.symm KP hz₁;obtain ⟨oe,hoe,hce⟩:=q5;have Mu:e≠z:=λ x=>by subst x; rw [hz₂] at hoe; cases hoe; simp at hce
  refine wpAny_setField_rec hz₂ (by simp) λ h₃ _ hs₃=>q h₃ e (λ c o c1 c2 c3 x=>hs₃.extBut _ _ c1 (q4 c o c2 c3 (hs₁.extBut _ _ c1 x))) ⟨oe,hs₃.extBut _ _ Mu hoe,hce⟩
theorem wY {TI TO:Addr} {T:Array Value} {vs:List Value} {Q:Option Value->Shared->Prop} (D:iN z TI TO js) (hz:uA s.heap z TI TO .none js) (hT:eV s.heap TO T) (hsz:T.size=js.length) (hl:js.length<=100)
  (hj:∀j∈js,j.At s.heap i/\j.Sq s.heap) (hv:Paired (λ (j:ZJ) v=>j.xs[i]?=some v) js vs)
  (q:∀h',uA h' z TI TO (rawInt s.heap.objs.size) js->eV h' TO vs.toArray->(∀j∈js,j.At h' (i+1))->eV h' s.heap.objs.size vs.toArray->h'.objs.size=s.heap.objs.size+1->(∀c o,c≠z->c≠TO->c∉js.map (·.it)->s.heap.get? c=some o->h'.get? c=some o)->Q (some (.ref s.heap.objs.size)) {s with heap:=h'}) :
  wpAny (model prog w) A (pyNext (.ref z)) Q E s:=by
 have G7:s.TypeIs (.ref z) "zip":=⟨_,hz.rc,rfl⟩;unfold pyNext;exact wpAny_bind (wpAny_attempt (wpAny_callSpecial?_slot (name:=Str.ofString "__next__") G7 F.slot_zip_next (wpAny_call_entry F.slot_zip_next G7 F.entry_zip_next
  (jW D hz hT hsz hl hj hv λ h' a1 a2 a3 a4 a5 a6=>wpAny_pure (q h' a1 a2 a3 a4 a5 a6)) (F.args_zip_next_1 _))))
theorem wZ {TI TO:Addr} {pre post:List ZJ} {T:Array Value} {vs:List Value} {Q:Option Value->Shared->Prop} (hh:A.handled=none) (D:iN z TI TO (pre++j::post)) (hz:uA s.heap z TI TO .none (pre++j::post)) (hT:eV s.heap TO T) (hsz:T.size<=100)
  (hj:∀x∈pre++j::post,x.At s.heap i/\x.Sq s.heap) (hv:Paired (λ (j:ZJ) v=>j.xs[i]?=some v) pre vs) (hx:j.xs[i]?=none)
  (q:∀h',(∀c o,c≠z->c≠TO->c∉(pre++j::post).map (·.it)->s.heap.get? c=some o->h'.get? c=some o)->Q none {s with heap:=h'}) :
  wpAny (model prog w) A (pyNext (.ref z)) Q E s:=by
 have G7:s.TypeIs (.ref z) "zip":=⟨_,hz.rc,rfl⟩;unfold pyNext;refine wpAny_bind (wpAny_attempt (wpAny_callSpecial?_slot (name:=Str.ofString "__next__") G7 F.slot_zip_next (wpAny_call_entry F.slot_zip_next G7 F.entry_zip_next
  (kQ (A:=A.in1) hh D hz hT hsz hj hv hx λ h' e hk he=>?_) (F.args_zip_next_1 _))))
 obtain ⟨o,ho,hc⟩:=he;refine wpAny_bind (wpAny_isInstance (T:="StopIteration") (b:=true) ⟨o,ho,hc⟩ isSubtype_stop ?_);exact wpAny_pure (q _ hk)
end
def g9 (K:PySem.W.Frag) (H:Hp) (q:Bool×Addr) (xs:List V):Prop:=(q.1=true/\fJ K H q.2 xs)\/(q.1=false/\cL K H q.2 xs)
noncomputable def ZJ.key (j:ZJ):Bool×Addr×Addr:=(j.k,j.it,j.l)
noncomputable def uB (x:Bool×Addr×Addr):Bool×Addr:=(x.1,x.2.2)
noncomputable def KQ (K:PySem.W.Frag) (qs:List (Bool×Addr)):It:=
 ⟨λ i H=>∀q∈qs,∃xs v,g9 K H q xs/\xs[i]?=some v,λ i H x H'=>∃p vs,H p=none/\x=.ref p/\H'=upd H p (.tup vs)/\Paired (λ q v=>∀xs,g9 K H q xs->xs[i]?=some v) qs vs,λ i H=>(∀q∈qs,∃xs,g9 K H q xs)/\∃pre q post,qs=pre++q::post/\(∀p∈pre,∃xs v,g9 K H p xs/\xs[i]?=some v)/\∃xs,g9 K H q xs/\xs.length<=i⟩
section
variable {X:L2.Cx} {aa:List (Addr×Obj)} {σ:L2.St} {H:Hp} {s:Shared} {h':Heap}
theorem oB {t':Nat} {ch:List Addr} (I:Inv X aa σ H s) (k:∀b o,b∉ch->s.heap.get? b=some o->h'.get? b=some o) (hf:∀b∈ch,gv X aa H b):Inv X aa σ H {s with heap:=h',toks:=t'}:=by
 have Bj:∀b u,H b=some u->b∉ch:=λ b u e z=>by rw [(hf b z).1] at e; cases e
 refine I.step (g':=s.gens) (d':=s.drawn) (ch:=ch) (λ b hb=>?_) (λ b o _ _ hc e _=>k b o hc e) (λ b o _ _ hc e _=>⟨o.slots,k b o hc e⟩) (λ _ _ _ _ n=>n)
  (λ b o hc e=>⟨o,k b o hc e⟩) (λ _ _ e=>e) (λ _ _ _ e=>e) (λ b ps e=>⟨#[],by rw [e]; simp⟩) (λ m hm=>?_) (λ b u e=>?_) I.bare
 ·obtain ⟨f0,f1,f2,f3,f4,f5⟩:=hf b hb;exact ⟨f3,f1,f4,f5⟩
 ·obtain ⟨o,es,ep,ho,r⟩:=hm;exact ⟨o,es,ep,k _ o (λ z=>(hf _ z).2.1 rfl) ho,r⟩
 ·refine (I.hok b u e).stay (λ c v hc q=>k c v ?_ q) (λ _ q=>q) λ _ _ q=>q;rcases hc with z | z
  ·rw [z]; exact Bj b u e
  ·exact Bj c _ z
theorem oE {t':Nat} {ch:List Addr} {us:List Value} (I:Inv X aa σ H s) (k:∀b o,b∉ch->s.heap.get? b=some o->h'.get? b=some o) (hf:∀b∈ch,gv X aa H b)
  (ht:h'.get? s.heap.objs.size=some {cls:=.type "tuple",data:=.seq us.toArray}) (rv:Vals vs us) (hz:vs.length<=sizeLine):Inv X aa σ (upd H s.heap.objs.size (.tup vs)) {s with heap:=h',toks:=t'}:=by
 have Bj:∀b u,H b=some u->b∉ch:=λ b u e z=>by rw [(hf b z).1] at e; cases e
 have kJ:H s.heap.objs.size=none:=I.hok.fresh (Nat.le_refl _);have hok:fG X.prog X.w (upd H s.heap.objs.size (.tup vs)) h':=by
  have lift:∀b o,H b=some o->bF X.prog X.w (upd H s.heap.objs.size (.tup vs)) h' b o:=λ b o q=>
   (I.hok b o q).stay (λ c v hcv r=>k c v (by
    rcases hcv with z | z
    ·rw [z]; exact Bj b o q
    ·exact Bj c _ z) r) (λ c r=>by rw [av (aB r kJ)]; exact r) λ c ys r=>by rw [av (aB r kJ)]; exact r
  intro b o q
  by_cases eb:b=s.heap.objs.size
  ·subst eb;rw [aG] at q;cases q;exact ⟨hz,us,rv,⟨_,ht,rfl,_,rfl⟩⟩
  ·rw [av eb] at q;exact lift b o q
 refine I.step (g':=s.gens) (d':=s.drawn) (ch:=ch) (λ b hb=>?_) (λ b o hL hb hcb q n=>k b o hcb q) (λ b o hL hb hcb q n=>⟨o.slots,k b o hcb q⟩) (λ b o hcb q n=>?_) (λ b o hcb q=>⟨o,k b o hcb q⟩) (λ b ys q=>by rw [av (aB q kJ)]; exact q) (λ b o u q=>by rw [av (aB q kJ)]; exact q)
  (λ b ps q=>⟨#[],by rw [av (aB q kJ),q]; simp⟩) (λ m hm=>?_) hok I.bare
 ·obtain ⟨f0,f1,f2,f3,f4,f5⟩:=hf b hb;exact ⟨f3,f1,f4,f5⟩
 ·rw [av (Nat.ne_of_lt (Heap.lt_size q))]; exact n
 ·obtain ⟨o,es,ep,q,r⟩:=hm;exact ⟨o,es,ep,k _ o (λ z=>(hf _ z).2.1 rfl) q,r⟩
theorem g9.heap (I:Inv X aa σ H s) (h:g9 X.K H (j.k,j.l) xs):∃its:List Value,Vals xs its/\({j with xs:=its.toArray}:ZJ).Sq s.heap/\xs.length<=sizeLine:=by
 rcases h with ⟨e,h⟩ | ⟨e,h⟩
 ·obtain ⟨its,rv,p,hz⟩:=I.list h;exact ⟨its,rv,.inl ⟨e,p.isList⟩,hz⟩
 ·obtain ⟨its,rv,p,hz⟩:=I.tuple h;exact ⟨its,rv,.inr ⟨e,(show s.heap.IsTuple j.l its.toArray from p)⟩,hz⟩
theorem g9.inj (I:Inv X aa σ H s) {ys:List V} (h:g9 X.K H q xs) (h':g9 X.K H q ys):xs=ys:=by
 rcases h with ⟨e,h⟩ | ⟨e,h⟩<;>rcases h' with ⟨e',h'⟩ | ⟨e',h'⟩
 ·exact I.jF h h'
 ·rw [e] at e'; cases e'
 ·rw [e] at e'; cases e'
 ·exact I.iE h h'
theorem w9 (I:Inv X aa σ H s):∀{js:List ZJ},(∀q∈js.map (λ j=>uB j.key),∃xs v,g9 X.K H q xs/\xs[i]?=some v)->
  ∃(yW:List ZJ) (us:List Value) (vs:List V),yW.map ZJ.key=js.map ZJ.key/\(∀j∈yW,j.Sq s.heap)/\Paired (λ (j:ZJ) u=>j.xs[i]?=some u) yW us/\Vals vs us/\Paired (λ q v=>∀xs,g9 X.K H q xs->xs[i]?=some v) (js.map λ j=>uB j.key) vs
 | [],_=>⟨[],[],[],rfl,by simp,.nil,.nil,.nil⟩
 | j::js,h=>by
  obtain ⟨yW,us,vs,h1,h2,h3,h4,h5⟩:=w9 I (js:=js) λ q hq=>h q (mem_cons_of_mem _ hq);obtain ⟨xs,v,hs,hx⟩:=h (uB j.key) mem_cons_self;obtain ⟨its,rv,sq,hz⟩:=hs.heap I;obtain ⟨u,hu,ru⟩:=rv.get hx;refine ⟨{j with xs:=its.toArray}::yW,u::us,v::vs,by simp only [map_cons,h1]; rfl,λ x hx'=>?_,.cons (by simpa using hu) h3,.cons ru h4,.cons (λ ys hy=>by rw [hs.inj I hy] at hx; exact hx) h5⟩;rcases List.mem_cons.mp hx' with rfl | z
  ·exact sq
  ·exact h2 x z
theorem BI (I:Inv X aa σ H s):∀{js:List ZJ},(∀q∈js.map (λ j=>uB j.key),∃xs,g9 X.K H q xs)->∃yW:List ZJ,yW.map ZJ.key=js.map ZJ.key/\(∀j∈yW,j.Sq s.heap)
 | [],_=>⟨[],rfl,by simp⟩
 | j::js,h=>by
  obtain ⟨yW,h1,h2⟩:=BI I (js:=js) λ q hq=>h q (mem_cons_of_mem _ hq);obtain ⟨xs,hs⟩:=h (uB j.key) mem_cons_self;obtain ⟨its,rv,sq,hz⟩:=hs.heap I;refine ⟨{j with xs:=its.toArray}::yW,by simp only [map_cons,h1]; rfl,λ x hx'=>?_⟩;rcases List.mem_cons.mp hx' with rfl | z
  ·exact sq
  ·exact h2 x z
def BJ (h:Heap) (i:Nat) (x:Bool×Addr×Addr):Prop:=(x.1=true/\h.IsListIter x.2.1 x.2.2 i)\/(x.1=false/\h.IsTupleIter x.2.1 x.2.2 i)
theorem qC (e:js.map ZJ.key=ks):(∀j∈js,j.At h i)↔∀x∈ks,BJ h i x:=by
 subst e;simp only [forall_mem_map];exact Iff.rfl
theorem qD (e:js.map ZJ.key=ks):js.map (·.it)=ks.map (·.2.1):=by
 subst e; simp [ZJ.key,Function.comp_def]
theorem rV (e:js.map ZJ.key=ks):js.map (λ j=>uB j.key)=ks.map uB:=by
 subst e; simp [Function.comp_def]
structure ZK (h:Heap) (z TI TO:Addr) (f0:Value) (ks:List (Bool×Addr×Addr)) (i:Nat):Prop where
 rc:IsZip h z TI TO f0
 ti:eV h TI (ks.map λ x=>Value.ref x.2.1).toArray
 to:∃T,eV h TO T/\T.size=ks.length
 at_:∀x∈ks,BJ h i x
theorem BJ.keep {x:Bool×Addr×Addr} (a:BJ h i x) (k:∀o,h.get? x.2.1=some o->h'.get? x.2.1=some o):BJ h' i x:=by
 rcases a with ⟨e,o,a,r⟩ | ⟨e,o,a,r⟩
 ·exact .inl ⟨e,o,k o a,r⟩
 ·exact .inr ⟨e,o,k o a,r⟩
theorem BJ.obj {x:Bool×Addr×Addr} (a:BJ h i x):∃o,h.get? x.2.1=some o/\∃vs,o.data=.fields vs:=by
 rcases a with ⟨e,o,a,_,r⟩ | ⟨e,o,a,_,r⟩<;>exact ⟨o,a,_,r⟩
noncomputable def xg (z TI TO:Addr) (ks:List (Bool×Addr×Addr)):List Addr:=z::TI::TO::ks.map (·.2.1)
theorem xh {P:Program} {w:World} {x1} {TI TO:Addr} (D:∀js:List ZJ,js.map ZJ.key=ks->iN z TI TO js) (hl:ks.length<=100) :
  Turn P w K (.Tuple elts x1 pos) (KQ K (ks.map uB)) (xg z TI TO ks) z (λ i h=>ZK h z TI TO .none ks i) where
 mem:=by simp [xg]
 obj:=λ i h st b hb=>by
  simp only [xg,mem_cons] at hb;rcases hb with rfl | rfl | rfl | hb
  ·refine ⟨_,st.rc,λ v q=>?_⟩;have q':Data.fields _=Data.cell v:=q;cases q'
  ·refine ⟨_,st.ti,λ v q=>?_⟩;have q':Data.seq _=Data.cell v:=q;cases q'
  ·obtain ⟨T,st,_⟩:=st.to;refine ⟨_,st,λ v q=>?_⟩;have q':Data.seq _=Data.cell v:=q;cases q'
  ·obtain ⟨x,hx,rfl⟩:=List.mem_map.mp hb;obtain ⟨o,ho,vs,hd⟩:=(st.at_ x hx).obj;exact ⟨o,ho,λ v q=>by rw [hd] at q; cases q⟩
 keep:=λ i h h' st k=>by
  obtain ⟨T,t1,t2⟩:=st.to;exact ⟨k z (by simp [xg]) _ st.rc,k TI (by simp [xg]) _ st.ti,⟨T,k TO (by simp [xg]) _ t1,t2⟩,λ x hx=>(st.at_ x hx).keep λ o e=>k _ (by simp only [xg,mem_cons]; exact .inr (.inr (.inr (mem_map_of_mem (f:=λ x=>x.2.1) hx)))) o e⟩
 item:=by
  intro X hP hw hK hc i aa s σ H E I hf st hg;subst hP hw hK;have hg:∀q∈ks.map uB,∃xs v,g9 X.K H q xs/\xs[i]?=some v:=hg;obtain ⟨js0,e0⟩:∃js0:List ZJ,js0.map ZJ.key=ks:=⟨ks.map λ x=>⟨x.1,x.2.1,x.2.2,#[]⟩,by simp [ZJ.key,Function.comp_def]⟩;obtain ⟨js,us,vs,h1,h2,h3,h4,h5⟩:=w9 I (js:=js0) (i:=i) (by rw [rV e0]; exact hg);rw [e0] at h1;rw [rV e0] at h5;have dz:=D js h1;obtain ⟨T,t1,t2⟩:=st.to;have hlen:js.length=ks.length:=by rw [<-h1,length_map]
  have IJ:(js.map λ j=>Value.ref j.it)=ks.map λ x=>Value.ref x.2.1:=by subst h1; simp [ZJ.key,Function.comp_def]
  refine wY dz ⟨st.rc,by rw [IJ]; exact st.ti⟩ t1 (by rw [t2,hlen]) (by rw [hlen]; exact hl) (λ j hj=>⟨(qC h1).mpr st.at_ j hj,h2 j hj⟩) h3 λ h' a1 a2 a3 a4 a5 a6=>⟨_,rfl,?_⟩;have G6:z < s.heap.objs.size:=Heap.lt_size st.rc;refine wpAny_letOwnedTupleGo_zip (s:={s with heap:=h'}) a1.rc λ h2' hE sb=>?_;have hit:js.map (·.it)=ks.map (·.2.1):=qD h1;have k2:∀b o,b∉z::TO::ks.map (·.2.1)->s.heap.get? b=some o->h2'.get? b=some o:=λ b o nb q=>by
   simp only [mem_cons,not_or] at nb;exact sb.extBut b o nb.1 (a6 b o nb.1 nb.2.1 (by rw [hit]; exact nb.2.2) q)
  have hf':∀b∈z::TO::ks.map (·.2.1),gv X aa H b:=λ b hb=>hf b (by
   simp only [xg,mem_cons] at hb ⊢;rcases hb with q | q | q
   ·exact .inl q
   ·exact .inr (.inr (.inl q))
   ·exact .inr (.inr (.inr q)))
  have kJ:H s.heap.objs.size=none:=I.hok.fresh (Nat.le_refl _);have Mv:vs.length<=sizeLine:=by
   have e1:vs.length=us.length:=h4.length;have e2:js.length=us.length:=Paired.length h3;rw [sizeLine_eq]; omega
  have I2:Inv X aa σ (upd H s.heap.objs.size (.tup vs)) {s with heap:=h2'}:=oE (t':=s.toks) I k2 hf' (sb.extBut _ _ (Nat.ne_of_gt G6) a4) h4 Mv;refine ⟨.ref s.heap.objs.size,_,I2,rfl,⟨_,vs,kJ,rfl,rfl,h5⟩,⟨hE,?_,⟨us.toArray,sb.extBut _ _ dz.toz a2,?_⟩,?_⟩,λ b hb=>?_⟩
  ·have:=sb.extBut _ _ dz.tiz a1.ti;rw [IJ] at this;exact this
  ·have e2:js.length=us.length:=Paired.length h3;simp; omega
  ·refine (qC h1).mp λ j hj=>(a3 j hj).keep λ o e=>sb.extBut _ o (dz.iz j hj) e
  ·have:b < s.heap.objs.size:=by
    simp only [xg,mem_cons] at hb;rcases hb with rfl | rfl | rfl | hb
    ·exact G6
    ·exact Heap.lt_size st.ti
    ·exact Heap.lt_size t1
    ·obtain ⟨x,hx,rfl⟩:=List.mem_map.mp hb;obtain ⟨o,ho,_⟩:=(st.at_ x hx).obj;exact Heap.lt_size ho
   rw [av (Nat.ne_of_lt this)];exact (hf b hb).1
 done:=by
  intro X hP hw hK hc i aa s σ H E I hf st hg;subst hP hw hK;obtain ⟨hall,pre,q,post,hq,hpre,xs,hsx,hxl⟩:(∀q∈ks.map uB,∃xs,g9 X.K H q xs)/\∃pre q post,ks.map uB=pre++q::post/\(∀p∈pre,∃xs v,g9 X.K H p xs/\xs[i]?=some v)/\∃xs,g9 X.K H q xs/\xs.length<=i:=hg;obtain ⟨kpre,kr,ek,ep,er⟩:=List.map_eq_append_iff.mp hq;obtain ⟨kq,kpost,er',eq',epost⟩:=List.map_eq_cons_iff.mp er;subst er' eq' epost ep;obtain ⟨p0,e0⟩:∃js0:List ZJ,js0.map ZJ.key=kpre:=⟨kpre.map λ x=>⟨x.1,x.2.1,x.2.2,#[]⟩,by simp [ZJ.key,Function.comp_def]⟩;obtain ⟨o0,f0⟩:∃js0:List ZJ,js0.map ZJ.key=kpost:=⟨kpost.map λ x=>⟨x.1,x.2.1,x.2.2,#[]⟩,by simp [ZJ.key,Function.comp_def]⟩;obtain ⟨jp,us,vs,h1,h2,h3,h4,h5⟩:=w9 I (js:=p0) (i:=i) (by rw [rV e0]; exact hpre);obtain ⟨jo,o1,o2⟩:=BI I (js:=o0) (by rw [rV f0]; exact λ q hq'=>hall q (by rw [ek]; simp at hq' ⊢; exact .inr (.inr hq')));rw [e0] at h1;rw [f0] at o1;obtain ⟨its,rv,sq,hz⟩:=g9.heap I (j:=⟨kq.1,kq.2.1,kq.2.2,#[]⟩) hsx;have hkey:(jp++(⟨kq.1,kq.2.1,kq.2.2,its.toArray⟩:ZJ)::jo).map ZJ.key=ks:=by rw [ek,map_append,map_cons,h1,o1]; rfl
  have dz:=D _ hkey;obtain ⟨T,t1,t2⟩:=st.to;have IJ:((jp++(⟨kq.1,kq.2.1,kq.2.2,its.toArray⟩:ZJ)::jo).map λ j=>Value.ref j.it)=ks.map λ x=>Value.ref x.2.1:=by rw [<-hkey]; simp [ZJ.key,Function.comp_def]
  have Ms:xs.length=its.length:=rv.length;refine wZ (I.ok.hd hc) dz ⟨st.rc,by rw [IJ]; exact st.ti⟩ t1 (by rw [t2]; exact hl) (λ j hj=>⟨(qC hkey).mpr st.at_ j hj,?_⟩) h3 (by simp; omega) λ h' a6=>⟨rfl,?_⟩
  ·rcases List.mem_append.mp hj with z1 | z1
   ·exact h2 j z1
   ·rcases List.mem_cons.mp z1 with rfl | z1
    ·exact sq
    ·exact o2 j z1
  ·refine oB (t':=s.toks) (ch:=z::TO::ks.map (·.2.1)) I (λ b o nb q=>?_) λ b hb=>hf b (by
    simp only [xg,mem_cons] at hb ⊢;rcases hb with q | q | q
    ·exact .inl q
    ·exact .inr (.inr (.inl q))
    ·exact .inr (.inr (.inr q)))
   simp only [mem_cons,not_or] at nb;exact a6 b o nb.1 nb.2.1 (by rw [qD hkey]; exact nb.2.2) q
 self:=λ _ _ _ _ _ st h=>wpAny_pyIter_zip st.rc h
end
abbrev Aq (q:Bool×Addr):Obj:={cls:=.type (if q.1 then "list_iterator" else "tuple_iterator"),data:=.fields #[.ref q.2,.int 0 0]}
def rW (h:Heap) (q:Bool×Addr):Prop:=∃xs,(q.1=true/\h.IsList q.2 xs)\/(q.1=false/\h.IsTuple q.2 xs)
theorem rW.push (x:rW h q) (o:Obj):rW (h.push o) q:=by
 obtain ⟨xs,⟨e,x⟩ | ⟨e,p,x,r⟩⟩:=x
 ·exact ⟨xs,.inl ⟨e,Heap.IsList.push x o⟩⟩
 ·exact ⟨xs,.inr ⟨e,p,Heap.get?_push_of_some _ x,r⟩⟩
section
variable {prog:Program} {w:World} {A:Around} {E:Value->Shared->Prop} {s:Shared}
theorem rX {k:Bool} {l:Addr} (x:rW s.heap (k,l)) (hQ:Q (.ref s.heap.objs.size) {s with heap:=s.heap.push (Aq (k,l))}):wpAny (model prog w) A (pyIter (.ref l)) Q E s:=by
 obtain ⟨xs,⟨e,x⟩ | ⟨e,x⟩⟩:=x
 ·cases e; exact wpAny_pyIter_list x hQ
 ·cases e; exact wpAny_pyIter_tuple x hQ
end
theorem oF (p q:Bool×Addr) :
  Meets (Builtin.«zip.__new__» ⟨[.type "zip",.ref p.2,.ref q.2],[]⟩) (λ _ R s=>rW s.heap p/\rW s.heap q/\
   R (.ok (.ret (.ref (s.heap.objs.size+4)))) {s with heap:=((((s.heap.push (Aq p)).push (Aq q)).push {cls:=.type "tuple",data:=.seq #[.ref s.heap.objs.size,.ref (s.heap.push (Aq p)).objs.size]}).push {cls:=.type "tuple",data:=.seq #[.none,.none]}).push {cls:=.type "zip",data:=.fields #[.none,.bool false,.bool false,.ref (s.heap.objs.size+2),.ref (s.heap.objs.size+3)]}}):=
 .of_wp λ prog w A R s h=>by
  obtain ⟨k1,l1⟩:=p; obtain ⟨k2,l2⟩:=q;obtain ⟨hp,g,d,tk,os⟩:=s; obtain ⟨hl1,hl2,h⟩:=h;have hsub:=sub_zip;have G8:rW (Shared.heap ⟨hp,g,d,tk,os⟩) (k1,l1):=hl1;have Mw:rW (Shared.heap ⟨hp.push (Aq (k1,l1)),g,d,tk,os⟩) (k2,l2):=rW.push hl2 _
  wp_walk using rX G8,rX Mw
  refine ⟨_,rfl,?_⟩;simp only [Heap.size_push] at h ⊢;exact h
theorem rY {a:Addr} (e:h.get? a=some (Aq q)):BJ h 0 (q.1,a,q.2):=by
 obtain ⟨k,l⟩:=q;cases k
 ·exact .inr ⟨rfl,_,e,rfl,rfl⟩
 ·exact .inl ⟨rfl,_,e,rfl,rfl⟩
noncomputable def keysAt (n:Nat):List (Bool×Addr)->List (Bool×Addr×Addr)
 | []=>[]
 | q::qs=>(q.1,n,q.2)::keysAt (n+1) qs
theorem oG:∀(qs:List (Bool×Addr)) (n:Nat),(keysAt n qs).map uB=qs
 | [],_=>rfl
 | q::qs,n=>by simp [keysAt,uB,oG qs]
theorem gK:∀(qs:List (Bool×Addr)) (n:Nat),(keysAt n qs).length=qs.length
 | [],_=>rfl
 | q::qs,n=>by simp [keysAt,gK qs]
theorem fm:∀{qs:List (Bool×Addr)} {n:Nat} {x:Bool×Addr×Addr},x∈keysAt n qs->(@LE.le Nat _ n x.2.1/\@LT.lt Nat _ x.2.1 (n+qs.length))/\(x.1,x.2.2)∈qs
 | [],_,_,h=>by cases h
 | q::qs,n,x,h=>by
  rcases List.mem_cons.mp h with rfl | h
  ·exact ⟨⟨Nat.le_refl _,by simp⟩,mem_cons_self⟩
  ·obtain ⟨⟨h1,h2⟩,h3⟩:=fm h;exact ⟨⟨by omega,by simp; omega⟩,mem_cons_of_mem _ h3⟩
theorem ia:∀(qs:List (Bool×Addr)) (n:Nat),((keysAt n qs).map (·.2.1)).Nodup
 | [],_=>nodup_nil
 | q::qs,n=>by
  rw [keysAt,map_cons,nodup_cons];refine ⟨λ h=>?_,ia qs (n+1)⟩;obtain ⟨x,hx,e⟩:=List.mem_map.mp h;have h1:=(fm hx).1.1;have e':@Eq Nat x.2.1 n:=e;omega
theorem Eh {m:Nat} (hq:∀q∈qs,@LT.lt Nat _ q.2 n) (hne:qs≠[]) (hm:m=n+qs.length) (js:List ZJ) (hk:js.map ZJ.key=keysAt n qs):iN (m+2) m (m+1) js:=by
 have hj:∀j∈js,(@LE.le Nat _ n j.it/\@LT.lt Nat _ j.it (n+qs.length))/\@LT.lt Nat _ j.l n:=λ j h=>by
  have h1:j.key∈keysAt n qs:=by rw [<-hk]; exact mem_map_of_mem h
  obtain ⟨h2,h3⟩:=fm h1;exact ⟨h2,hq _ h3⟩
 refine {its:=?_,toi:=λ j h=>?_,tol:=λ j h=>?_,il:=λ j h j' h'=>?_,iz:=λ j h=>?_,lz:=λ j h=>?_,toz:=?_,tiz:=?_,tito:=?_,tii:=λ j h=>?_,ne:=λ h=>?_}
 ·rw [qD hk]; exact ia qs n
 ·have:=hj j h; exact λ e=>by have e':@Eq Nat _ _:=e; omega
 ·have:=hj j h; exact λ e=>by have e':@Eq Nat _ _:=e; omega
 ·have:=hj j h; have:=hj j' h'; exact λ e=>by have e':@Eq Nat _ _:=e; omega
 ·have:=hj j h; exact λ e=>by have e':@Eq Nat _ _:=e; omega
 ·have:=hj j h; exact λ e=>by have e':@Eq Nat _ _:=e; omega
 ·exact λ e=>by have e':@Eq Nat _ _:=e; omega
 ·exact λ e=>by have e':@Eq Nat _ _:=e; omega
 ·exact λ e=>by have e':@Eq Nat _ _:=e; omega
 ·have:=hj j h; exact λ e=>by have e':@Eq Nat _ _:=e; omega
 ·subst h;have:=gK qs n;rw [<-hk] at this;exact hne (List.length_eq_zero_iff.mp this.symm)
theorem oH {o:Obj} (e:h.objs.size=n) (f:o.isFreed=false):(h.push o).get? n=some o:=by subst e; exact Heap.get?_push_size _ f
section
variable {prog:Program} {w:World} {A:Around} {E:Value->Shared->Prop} {s:Shared}
theorem rW.lt (x:rW h q):@LT.lt Nat _ q.2 h.objs.size:=by
 obtain ⟨xs,⟨e,p,x,_⟩ | ⟨e,p,x,_⟩⟩:=x<;>exact Heap.lt_size x
theorem uC (hq:∀q∈qs,rW s.heap q) (hl:qs.length=2)
  (h:∀h' m,m=s.heap.objs.size+qs.length->ZK h' (m+2) m (m+1) .none (keysAt s.heap.objs.size qs) 0->(∀c o,s.heap.get? c=some o->h'.get? c=some o)->Q (.ref (m+2)) {s with heap:=h'}) :
  wpAny (model prog w) A (call (.type "zip") (qs.map λ q=>.ref q.2)) Q E s:=by
 match qs,hl,hq,h with
 | [p,q],_,hq,h=>
  refine callType_new F.called_zip (by decide) (F.typeCall_zip_2 _ _) (F.newCall_zip_2 _ _) (λ obj=>F.args_object_init_3 obj _ _) F.entry_zip_new (oF p q) ⟨hq p (by simp),hq q (by simp),?_⟩;have z1:(s.heap.push (Aq p)).objs.size=s.heap.objs.size+1:=Heap.size_push ..;have z2:((s.heap.push (Aq p)).push (Aq q)).objs.size=s.heap.objs.size+2:=by rw [Heap.size_push,z1]
  rw [z1];have e1:∀(h:Heap) (o:Obj) (n:Nat),h.objs.size=n->(h.push o).objs.size=n+1:=λ h o n z=>by rw [Heap.size_push,z]
  refine ⟨⟨_,oH (e1 _ _ _ (e1 _ _ _ z2)) rfl,rfl⟩,h _ (s.heap.objs.size+2) rfl ⟨oH (e1 _ _ _ (e1 _ _ _ z2)) rfl,Heap.get?_push_of_some _ (Heap.get?_push_of_some _ (oH z2 rfl)),⟨#[.none,.none],Heap.get?_push_of_some _ (oH (e1 _ _ _ z2) rfl),rfl⟩,λ x hx=>?_⟩ λ c o x=>?_⟩
  ·simp only [keysAt,mem_cons,not_mem_nil,or_false] at hx;rcases hx with rfl | rfl
   ·exact rY (Heap.get?_push_of_some _ (Heap.get?_push_of_some _ (Heap.get?_push_of_some _ (Heap.get?_push_of_some _ (Heap.get?_push_size _ rfl)))))
   ·exact rY (Heap.get?_push_of_some _ (Heap.get?_push_of_some _ (Heap.get?_push_of_some _ (oH z1 rfl))))
  ·exact Heap.get?_push_of_some _ (Heap.get?_push_of_some _ (Heap.get?_push_of_some _ (Heap.get?_push_of_some _ (Heap.get?_push_of_some _ x))))
end
section
variable {X:L2.Cx}
theorem g9.hp (I:Inv X aa σ H s) (h:g9 X.K H q xs):rW s.heap q:=by
 rcases h with ⟨e,h⟩ | ⟨e,h⟩
 ·obtain ⟨its,rv,p,hz⟩:=I.list h;exact ⟨_,.inl ⟨e,p.isList⟩⟩
 ·obtain ⟨its,rv,p,hz⟩:=I.tuple h;exact ⟨_,.inr ⟨e,(show s.heap.IsTuple q.2 its.toArray from p)⟩⟩
noncomputable def KR (K:PySem.W.Frag) (ta:TA):TI:=fun σ H R=>ta σ H λ vs H1=>∃qs:List (Bool×Addr),vs=qs.map (λ q=>.ref q.2)/\qs.length=2/\(∀q∈qs,∃xs,g9 K H1 q xs)/\R (KQ K qs) H1
theorem oJ:∀{qs:List (Bool×Addr)} {us:List Value},Vals (qs.map λ q=>V.ref q.2) us->us=qs.map λ q=>Value.ref q.2
 | [],_,.nil=>rfl
 | q::qs,_,.cons r t=>by rw [oJ t]; cases r; rfl
theorem Ei {a:Expr} {r:List Expr} {ta:TA} {x1} (hg:Gl X "zip") (hm:X.mg "zip"=none) (ha:PA X (a::r) ta) (hs:starEach (a::r) X.env=(false,eval a X.env)::starEach r X.env) (hp:∀pos,(backTo pos (starEach r X.env)).any (·.1)=false) :
  PI X (.Tuple elts x1 tpos) (.Call (.Name "zip" p) (a::r) [] pos) (KR X.K ta):=by
 intro aa s σ H R I h;refine Call_ (fM I hg hm (u:=.type "zip") (by decide +kernel) (PyProof.Rows.callWith_type1 (bQ (ha pos aa s σ H _ I h) λ us s1 ⟨vs,H1,I1,r1,q1⟩=>?_) hs (hp _)));obtain ⟨qs,rfl,hl,hq,q⟩:=q1;rw [oJ r1];have LM:∀q∈qs,rW s1.heap q:=λ q hq'=>by obtain ⟨xs,z⟩:=hq q hq'; exact z.hp I1
 refine uC LM hl λ h' m hm' hz hk=>?_;refine wpAny_pyIter_zip hz.rc ?_;have I2:Inv X aa σ H1 {s1 with heap:=h'}:=I1.kept (t':=s1.toks) hk;have hlen:qs.length<=4:=by omega
 have hT:=xh (P:=X.prog) (w:=X.w) (K:=X.K) (elts:=elts) (x1:=x1) (pos:=tpos) (ks:=keysAt s1.heap.objs.size qs) (Eh (m:=m) (λ q hq'=>(LM q hq').lt) (by intro z; subst z; simp at hl) hm') (by rw [gK]; omega);rw [oG] at hT;refine ⟨_,_,_,_,H1,rfl,I2,hT,hz,λ b hb=>?_,q⟩;have:@LE.le Nat _ s1.heap.objs.size b:=by
  simp only [xg,mem_cons] at hb;rcases hb with rfl | rfl | rfl | hb
  ·omega
  ·omega
  ·omega
  ·obtain ⟨x,hx,rfl⟩:=List.mem_map.mp hb;exact (fm hx).1.1
 exact I1.lW this (I1.hok.fresh this)
end
def QS (X:L2.Cx) (cl:Cl) (src:Src) (q:Bool×Addr) (β0:List Addr) (H0:Hp):Prop:=∀(β:List Addr) (m:Mem) (H:Hp) (i:Nat),(∃γ,β=β0++γ)->(∀{a:Addr} {vs:List V},cL X.K H0 a vs->cL X.K H a vs)->(∀{a:Addr} {o:Obj} {u:HO},H0 a=some (.frz o u)->H a=some (.frz o u))->Rel X.K cl β m H->
 src.get m i≠.bad->∃xs,g9 X.K H q xs/\(∀w,src.get m i=.it w->∃v,xs[i]?=some v/\RW X.K β H w v)/\(src.get m i=.fin->xs.length<=i)
section
variable {X:L2.Cx} {cl:Cl} {C:D.Cx} {pos:Pos}
theorem Ej {a:Addr} (hb:β0[n]?=some a):QS X cl (.lst n) (true,a) β0 H0:=by
 intro β m H i hβ _ _ r nb;obtain ⟨γ,rfl⟩:=hβ;have hb':(β0++γ)[n]?=some a:=by rw [getElem?_append_left (List.getElem?_eq_some_iff.mp hb).1]; exact hb
 simp only [Src.get] at nb ⊢;cases e1:getL m (.ref n) with
 | none=>rw [e1] at nb; exact absurd rfl nb
 | some xs=>
  obtain ⟨a',vs,z,hs,t⟩:=r.getL (.ref hb') e1;cases z;refine ⟨vs,.inl ⟨rfl,hs⟩,λ w e=>?_,λ e=>?_⟩
  ·dsimp only at e;split at e
   ·rename_i w' e2;cases e;exact t.get e2
   ·cases e
  ·dsimp only at e;split at e
   ·cases e
   ·rename_i e2;rw [<-t.length];exact List.getElem?_eq_none_iff.mp e2
theorem xj {ws:List W} (t0:aZ X.K β0 H0 ws vs) (hq:∀{H:Hp},(∀{a:Addr} {vs:List V},cL X.K H0 a vs->cL X.K H a vs)->(∀{a:Addr} {o:Obj} {u:HO},H0 a=some (.frz o u)->H a=some (.frz o u))->g9 X.K H q vs):QS X cl (.tup ws) q β0 H0:=by
 intro β m H i hβ ht hf r nb;have t:=t0.keep hβ ht hf;simp only [Src.get] at nb ⊢;refine ⟨vs,hq ht hf,λ w e=>?_,λ e=>?_⟩
 ·split at e
  ·rename_i w' e2;cases e;exact t.get e2
  ·cases e
 ·split at e
  ·cases e
  ·rename_i e2;rw [<-t.length];exact List.getElem?_eq_none_iff.mp e2
inductive Fi (X:L2.Cx) (cl:Cl) (β:List Addr) (H:Hp):List Src->List (Bool×Addr)->Prop
 | nil:Fi X cl β H [] []
 | cons {s:Src} {q:Bool×Addr} {ss:List Src} {qs:List (Bool×Addr)}:QS X cl s q β H->Fi X cl β H ss qs->Fi X cl β H (s::ss) (q::qs)
theorem rZ (r:Rel X.K cl β m H):∀{ws:List W} {vs:List V} {ss:List Src},aZ X.K β H ws vs->mH m ws=some ss->∃qs:List (Bool×Addr),vs=qs.map (λ q=>V.ref q.2)/\Fi X cl β H ss qs/\∀q∈qs,∃xs,g9 X.K H q xs
 | _,_,_,.nil,e=>by cases e; exact ⟨[],rfl,.nil,by simp⟩
 | _,_,_,.cons q t,e=>by
  simp only [mH] at e;split at e
  ·cases e
  ·rename_i s e1;split at e
   ·cases e
   ·rename_i ss e2;cases e;obtain ⟨qs,rfl,h1,h2⟩:=rZ r t e2;obtain ⟨a,rfl,h⟩:=wO r q e1;rcases h with ⟨n,vs,rfl,rfl,hb,hs⟩ | ⟨ws,vs,rfl,rfl,hs,t'⟩ | ⟨ws,vs,rfl,rfl,hs,t'⟩
    ·refine ⟨(true,a)::qs,rfl,.cons (Ej hb) h1,λ q hq=>?_⟩;rcases List.mem_cons.mp hq with rfl | hq
     ·exact ⟨vs,.inl ⟨rfl,hs⟩⟩
     ·exact h2 q hq
    ·refine ⟨(true,a)::qs,rfl,.cons (xj t' λ _ hf=>.inl ⟨rfl,(hs.keep hf).l⟩) h1,λ q hq=>?_⟩;rcases List.mem_cons.mp hq with rfl | hq
     ·exact ⟨vs,.inl ⟨rfl,hs.l⟩⟩
     ·exact h2 q hq
    ·refine ⟨(false,a)::qs,rfl,.cons (xj t' λ ht _=>.inr ⟨rfl,ht hs⟩) h1,λ q hq=>?_⟩;rcases List.mem_cons.mp hq with rfl | hq
     ·exact ⟨vs,.inr ⟨rfl,hs⟩⟩
     ·exact h2 q hq
theorem r9 (hβ:∃γ,β=β0++γ) (ht:∀{a:Addr} {vs:List V},cL X.K H0 a vs->cL X.K H a vs) (hf:∀{a:Addr} {o:Obj} {u:HO},H0 a=some (.frz o u)->H a=some (.frz o u)) (r:Rel X.K cl β m H):∀{ss:List Src} {qs:List (Bool×Addr)},Fi X cl β0 H0 ss qs->
  (Src.jm ss m i≠.bad->∀q∈qs,∃xs,g9 X.K H q xs)/\
  (∀ws,Src.jm ss m i=.its ws->(∀q∈qs,∃xs v,g9 X.K H q xs/\xs[i]?=some v)/\∀vs,Paired (λ q v=>∀xs,g9 X.K H q xs->xs[i]?=some v) qs vs->aZ X.K β H ws vs)/\
  (Src.jm ss m i=.fin->∃pre q post,qs=pre++q::post/\(∀p∈pre,∃xs v,g9 X.K H p xs/\xs[i]?=some v)/\∃xs,g9 X.K H q xs/\xs.length<=i)
 | _,_,.nil=>by
  refine ⟨λ _ q hq=>(nomatch hq),λ ws e=>?_,λ e=>?_⟩
  ·unfold Src.jm at e; cases e; exact ⟨by simp,λ vs p=>by cases p; exact .nil⟩
  ·unfold Src.jm at e; cases e
 | _,_,.cons (s:=s) (q:=q) (ss:=ss) (qs:=qs) h t=>by
  obtain ⟨i1,i2,i3⟩:=r9 hβ ht hf r t;simp only [Src.jm];cases e1:s.get m i with
  | bad=>refine ⟨λ z=>absurd (by simp) z,λ ws e=>by simp at e,λ e=>by simp at e⟩
  | fin=>
   obtain ⟨xs,x1,x2,x3⟩:=h β m H i hβ ht hf r (by rw [e1]; intro z; cases z);cases e2:Src.jm ss m i with
   | bad=>refine ⟨λ z=>absurd (by simp) z,λ ws e=>by simp at e,λ e=>by simp at e⟩
   | fin=>
    refine ⟨λ _ p hp=>?_,λ ws e=>by simp at e,λ _=>⟨[],q,qs,rfl,by simp,xs,x1,x3 e1⟩⟩;rcases List.mem_cons.mp hp with rfl | hp
    ·exact ⟨xs,x1⟩
    ·exact i1 (by rw [e2]; intro z; cases z) p hp
   | its ws=>
    refine ⟨λ _ p hp=>?_,λ ws e=>by simp at e,λ _=>⟨[],q,qs,rfl,by simp,xs,x1,x3 e1⟩⟩;rcases List.mem_cons.mp hp with rfl | hp
    ·exact ⟨xs,x1⟩
    ·exact i1 (by rw [e2]; intro z; cases z) p hp
  | it w=>
   obtain ⟨xs,x1,x2,x3⟩:=h β m H i hβ ht hf r (by rw [e1]; intro z; cases z);obtain ⟨v,v1,v2⟩:=x2 w e1;cases e2:Src.jm ss m i with
   | bad=>refine ⟨λ z=>absurd (by simp) z,λ ws e=>by simp at e,λ e=>by simp at e⟩
   | fin=>
    refine ⟨λ _ p hp=>?_,λ ws e=>by simp at e,λ _=>?_⟩
    ·rcases List.mem_cons.mp hp with rfl | hp
     ·exact ⟨xs,x1⟩
     ·exact i1 (by rw [e2]; intro z; cases z) p hp
    ·obtain ⟨pre,p,post,rfl,h1,h2⟩:=i3 e2;refine ⟨q::pre,p,post,rfl,λ p' hp'=>?_,h2⟩;rcases List.mem_cons.mp hp' with rfl | hp'
     ·exact ⟨xs,v,x1,v1⟩
     ·exact h1 p' hp'
   | its ws=>
    obtain ⟨j1,j2⟩:=i2 ws e2;refine ⟨λ _ p hp=>?_,λ IB e=>?_,λ e=>by simp at e⟩
    ·rcases List.mem_cons.mp hp with rfl | hp
     ·exact ⟨xs,x1⟩
     ·exact i1 (by rw [e2]; intro z; cases z) p hp
    ·simp only [LB.its.injEq] at e;subst e;refine ⟨λ p hp=>?_,λ vs p=>?_⟩
     ·rcases List.mem_cons.mp hp with rfl | hp
      ·exact ⟨xs,v,x1,v1⟩
      ·exact j1 p hp
     ·cases p with
      | cons y p=>
       have:=y xs x1;rw [v1] at this;cases this;exact .cons v2 (j2 _ p)
theorem Ek {ss:List Src} (h:Fi X cl β0 H0 ss qs):IS X cl (KQ X.K qs) (.zip ss) β0 H0:=by
 intro β m H i hβ ht hf r;obtain ⟨i1,i2,i3⟩:=r9 (i:=i) hβ ht hf r h;refine ⟨λ w e=>?_,λ e=>?_⟩
 ·simp only [Src.get] at e;split at e
  ·rename_i ws e1;cases e;obtain ⟨j1,j2⟩:=i2 ws e1;refine ⟨j1,λ x H' y=>?_⟩;obtain ⟨p,vs,hp,rfl,rfl,hv⟩:=y;obtain ⟨x2,r2⟩:=r.mJ hp vs;exact ⟨x2,r2,.tup (.of aG) ((j2 vs hv).mono r x2)⟩
  ·cases e
  ·cases e
 ·simp only [Src.get] at e;split at e
  ·cases e
  ·rename_i e1;exact ⟨i1 (by rw [e1]; intro z; cases z),i3 e1⟩
  ·cases e
theorem G9 {a:Expr} {x1} (hg:Gl X "zip") (hm:X.mg "zip"=none) (ha:PA X (a::es) (SA X cl (bg C ds))) (hl:∀ρ m ws m',bg C ds ρ m=.ok ws m'->ws.length=2)
  (hs:starEach (a::es) X.env=(false,eval a X.env)::starEach es X.env) (hp:∀pos,(backTo pos (starEach es X.env)).any (·.1)=false):PI X (.Tuple elts x1 tpos) (.Call (.Name "zip" p) (a::es) [] pos) (SI X cl (cz C (.zip ds))):=by
 refine PI.imp (Ei hg hm ha hs hp) ?_;rintro σ H Rr ⟨β,ρ,m,src,m',r,l,e,k⟩;simp only [cz] at e;obtain ⟨ws,m1,e1,e⟩:=R.ah e;split at e
 ·rename_i ss e2;cases e;refine ⟨β,ρ,m,ws,_,r,l,e1,fun β1 H1 vs x1 r1 q1=>?_⟩;obtain ⟨qs,rfl,h1,h2⟩:=rZ r1 q1 e2;have hlen:=hl _ _ _ _ e1;have:=q1.length;simp only [length_map] at this;exact ⟨qs,rfl,by omega,h2,k _ _ _ x1 r1 (Ek h1)⟩
 ·cases e
end
noncomputable def cQ (γ:List Addr) (h:Heap) (H:Hp):Hp:=λ b=>if b∈γ then match H b,h.get? b with
  | some (.lst vs),some o=>some (.frz o (.lst vs))
  | some (.ins c dx fs),some o=>some (.frz o (.ins c dx fs))
  | u,_=>u else H b
section
variable {γ:List Addr} {h:Heap} {H:Hp} {b:Addr}
theorem gM:cQ γ h H b=H b\/∃o u,b∈γ/\H b=some u/\h.get? b=some o/\cQ γ h H b=some (.frz o u)/\((∃vs,u=.lst vs)\/∃c dx fs,u=.ins c dx fs):=by
 unfold cQ
 by_cases hb:b∈γ
 ·simp only [if_pos hb];split
  ·rename_i vs o h1 h2;exact .inr ⟨o,_,hb,h1,h2,rfl,.inl ⟨vs,rfl⟩⟩
  ·rename_i c dx fs o h1 h2;exact .inr ⟨o,_,hb,h1,h2,rfl,.inr ⟨c,dx,fs,rfl⟩⟩
  ·exact .inl rfl
 ·exact .inl (if_neg hb)
theorem gj (e:H b=none):cQ γ h H b=none:=by
 rcases gM (γ:=γ) (h:=h) (H:=H) (b:=b) with z | ⟨o,u,_,z,_⟩
 ·rw [z,e]
 ·rw [e] at z; cases z
theorem bW {u:HO} (e:H b=some u) (h1:∀vs,u≠.lst vs) (h2:∀c dx fs,u≠.ins c dx fs):cQ γ h H b=some u:=by
 rcases gM (γ:=γ) (h:=h) (H:=H) (b:=b) with z | ⟨o,u',_,z,_,_,⟨vs,rfl⟩ | ⟨c,dx,fs,rfl⟩⟩
 ·rw [z,e]
 ·rw [e] at z; cases z; exact absurd rfl (h1 _)
 ·rw [e] at z; cases z; exact absurd rfl (h2 _ _ _)
theorem cD (e:b∉γ):cQ γ h H b=H b:=by unfold cQ; rw [if_neg e]
theorem xm {o:Obj} (e:b∈γ) (e1:H b=some (.lst vs)) (e2:h.get? b=some o):cQ γ h H b=some (.frz o (.lst vs)):=by unfold cQ; rw [if_pos e,e1,e2]
theorem xo {c:Addr} {fs:List (Str×V)} {o:Obj} (e:b∈γ) (e1:H b=some (.ins c dx fs)) (e2:h.get? b=some o):cQ γ h H b=some (.frz o (.ins c dx fs)):=by unfold cQ; rw [if_pos e,e1,e2]
theorem Hf {P:Program} {w:World} (x:fG P w H h):fG P w (cQ γ h H) h:=λ a u e=>by
 have go:∀v,H a=some v->bF P w (D.cQ γ h H) h a v:=λ v hv=>(x a v hv).stay (λ _ _ _ q=>q) (λ c q=>bW q (by intro _ z; cases z) (by intro _ _ _ z; cases z)) λ c xs q=>bW q (by intro _ z; cases z) (by intro _ _ _ z; cases z);rcases gM (γ:=γ) (h:=h) (H:=H) (b:=a) with z | ⟨o,v,_,z,z2,z3,_⟩
 ·exact go u (by rw [<-z]; exact e)
 ·rw [z3] at e;cases e;exact ⟨z2,go v z⟩
end
theorem BK (I:Inv X aa σ H s) (γ:List Addr):Inv X aa σ (cQ γ s.heap H) s where
 ok:=I.ok
 os:=I.os
 bare:=I.bare
 base:={
  keep:=I.base.keep
  slot:=I.base.slot
  free:=λ b o q n hx=>gj (I.base.free b o q n hx)
  there:=I.base.there
  tups:=λ b xs q=>bW (I.base.tups b xs q) (by intro _ z; cases z) (by intro _ _ _ z; cases z)
  jh:=λ b o u q=>bW (I.base.jh b o u q) (by intro _ z; cases z) (by intro _ _ _ z; cases z)
  jE:=λ b ps q=>let ⟨more,e⟩:=I.base.jE b ps q; ⟨more,bW e (by intro _ z; cases z) (by intro _ _ _ z; cases z)⟩}
 loc:=I.loc
 cell:=I.cell
 free:=gj I.free
 freeC:=λ x c e=>gj (I.freeC x c e)
 pin:=λ p hp=>let ⟨a,b,c⟩:=I.pin p hp; ⟨a,gj b,c⟩
 hok:=Hf I.hok
 len:=I.len
section
variable {K:PySem.W.Frag} {cl:Cl} {β γ:List Addr} {H:Hp} {h:Heap} {m:Mem}
theorem BL {a:Addr} (q:cL K H a vs):cL K (cQ γ h H) a vs:=by
 rcases q with (q | ⟨o,q⟩) | q
 ·exact .inl (.inl (bW q (by intro _ z; cases z) (by intro _ _ _ z; cases z)))
 ·exact .inl (.inr ⟨o,bW q (by intro _ z; cases z) (by intro _ _ _ z; cases z)⟩)
 ·exact .inr q
theorem BN {a:Addr} (q:oq K H a vs):oq K (cQ γ h H) a vs:=by
 rcases q with ⟨o,q⟩ | q
 ·exact .inl ⟨o,bW q (by intro _ z; cases z) (by intro _ _ _ z; cases z)⟩
 ·exact .inr q
theorem RW.xq (q:RW K (β++γ) H w v):fH β.length w=true->RW K β (cQ γ h H) w v:=
 RW.rec (motive_1:=λ w v _=>fH β.length w=true->RW K β (cQ γ h H) w v) (motive_2:=λ w v _=>cB β.length w=true->aZ K β (cQ γ h H) w v) (λ _=>.non) (λ b _=>.bl b) (λ b _=>.int b) (λ b _=>.str b) (λ h _ i e=>.tup (BL h) (i e)) (λ h _ i e=>.fz (BN h) (i e)) (λ h z _ i e=>.obj (bW h (by intro _ z; cases z) (by intro _ _ _ z; cases z)) z (i e)) (λ q e=>.ref (by rw [getElem?_append_left (of_decide_eq_true e)] at q; exact q)) (λ _=>.nil) (λ _ _ a b e=>.cons (a (Bool.and_eq_true_iff.mp e).1) (b (Bool.and_eq_true_iff.mp e).2)) q
theorem aZ.xq {w:List W} {v:List V} (q:aZ K (β++γ) H w v) (e:cB β.length w=true):aZ K β (cQ γ h H) w v:=by
 induction w generalizing v with
 | nil=>cases q; exact .nil
 | cons x w ih=>cases q with | cons a b=>exact .cons (a.xq (Bool.and_eq_true_iff.mp e).1) (ih b (Bool.and_eq_true_iff.mp e).2)
theorem eT.snd:∀{fs:List (Str×W)} {gs:List (Str×V)},eT K β H fs gs->aZ K β H (fs.map (·.2)) (gs.map (·.2))/\fs.map (·.1)=gs.map (·.1)
 | _,_,.nil=>⟨.nil,rfl⟩
 | _,_,.cons q t=>⟨.cons q t.snd.1,by rw [map_cons,map_cons,t.snd.2]⟩
theorem eT.of:∀{fs:List (Str×W)} {gs:List (Str×V)},fs.map (·.1)=gs.map (·.1)->aZ K β H (fs.map (·.2)) (gs.map (·.2))->eT K β H fs gs
 | [],[],_,_=>.nil
 | (f,w)::fs,(g,v)::gs,e,t=>by
  simp only [map_cons,List.cons.injEq] at e;obtain ⟨rfl,e⟩:=e;cases t with
  | cons q t=>exact .cons q (eT.of e t)
 | [],_::_,e,_=>by simp at e
 | _::_,[],e,_=>by simp at e
mutual
theorem RW.jz {g:Nat->Option W} (hg:∀{n w v},g n=some w->RW K (β++γ) H (.ref n) v->RW K β (cQ γ h H) w v):∀{w:W} {v:V} {w1:W},RW K (β++γ) H w v->D.jz g w=some w1->RW K β (cQ γ h H) w1 v
 | _,_,_,.non,e=>by simp only [D.jz] at e; cases e; exact .non
 | _,_,_,.bl b,e=>by simp only [D.jz] at e; cases e; exact .bl b
 | _,_,_,.int i,e=>by simp only [D.jz] at e; cases e; exact .int i
 | _,_,_,.str s,e=>by simp only [D.jz] at e; cases e; exact .str s
 | _,_,_,.tup q t,e=>by
  simp only [D.jz,Option.map_eq_some_iff] at e;obtain ⟨ys,e1,rfl⟩:=e;exact .tup (BL q) (aZ.ef hg t e1)
 | _,_,_,.fz q t,e=>by
  simp only [D.jz,Option.map_eq_some_iff] at e;obtain ⟨ys,e1,rfl⟩:=e;exact .fz (BN q) (aZ.ef hg t e1)
 | _,_,_,.obj q z t,e=>by
  simp only [D.jz,Option.map_eq_some_iff] at e;obtain ⟨ys,e1,rfl⟩:=e;exact .obj (bW q (by intro _ z; cases z) (by intro _ _ _ z; cases z)) z (aZ.ef hg t e1)
 | _,_,_,.ref q,e=>hg (by simpa only [D.jz] using e) (.ref q)
theorem aZ.ef {g:Nat->Option W} (hg:∀{n w v},g n=some w->RW K (β++γ) H (.ref n) v->RW K β (cQ γ h H) w v):∀{w:List W} {v:List V} {w1:List W},aZ K (β++γ) H w v->D.ef g w=some w1->aZ K β (cQ γ h H) w1 v
 | _,_,_,.nil,e=>by simp only [D.ef] at e; cases e; exact .nil
 | _,_,_,.cons q t,e=>by
  simp only [D.ef] at e;split at e
  ·cases e
  ·rename_i y e1;split at e
   ·cases e
   ·rename_i ys e2;cases e;exact .cons (RW.jz hg q e1) (aZ.ef hg t e2)
end
theorem mQ (hh:∀a u,H a=some u->((∃vs,u=.lst vs)\/∃c dx fs,u=.ins c dx fs)->∃o,h.get? a=some o) (r:Rel K cl (β++γ) m H):∀(d:Nat) {n:Nat} {w:W} {v:V},nH m β.length d n=some w->RW K (β++γ) H (.ref n) v->RW K β (cQ γ h H) w v
 | 0,n,w,v,e,q=>by
  simp only [nH] at e;split at e
  ·rename_i hn;cases e;exact q.xq (by simpa only [fH,decide_eq_true_eq] using hn)
  ·cases e
 | d+1,n,w,v,e,q=>by
  simp only [nH] at e;split at e
  ·rename_i hn;cases e;exact q.xq (by simpa only [fH,decide_eq_true_eq] using hn)
  ·rename_i hn;cases q with
   | ref hb=>
    rename_i a;have ha:a∈γ:=by
     rw [getElem?_append_right (by omega)] at hb;exact mem_of_getElem? hb
    split at e
    ·rename_i xs e1;simp only [Option.map_eq_some_iff] at e;obtain ⟨ys,e2,rfl⟩:=e;obtain ⟨vs,z,t⟩:=r.obj e1 hb;obtain ⟨o,ho⟩:=hh a _ z (.inl ⟨_,rfl⟩);exact .fz (.inl ⟨o,xm ha z ho⟩) (t.ef (λ e q=>mQ hh r d e q) e2)
    ·rename_i c fs e1;simp only [Option.map_eq_some_iff] at e;obtain ⟨ys,e2,rfl⟩:=e;obtain ⟨dx,fs',z,t⟩:=r.obj e1 hb;obtain ⟨o,ho⟩:=hh a _ z (.inr ⟨_,_,_,rfl⟩);exact .obj (xo ha z ho) t.snd.2 (t.snd.1.ef (λ e q=>mQ hh r d e q) e2)
    ·cases e
end
theorem BO {ex:Expr} (hp:PE X ex (SE X cl (ai C d))):PE X ex (SE X cl (ai C (.frz d))):=by
 rintro aa s σ H Q I ⟨β,ρ,m,w,m',r,l,e,k⟩;simp only [ai] at e;cases h0:ai C d ρ m with
 | no=>rw [h0] at e; cases e
 | ok w0 m0=>
  rw [h0] at e;simp only [uu] at e;split at e
  ·rename_i hc;split at e
   ·rename_i w1 e1;cases e;refine bQ (hp aa s σ H (λ v H1=>∃β1,Ext β H β1 H1/\Rel X.K cl β1 m0 H1/\RW X.K β1 H1 w0 v) I ⟨β,ρ,m,w0,m0,r,l,h0,fun β1 H1 v1 x1 r1 q1=>⟨β1,x1,r1,q1⟩⟩) λ u s1 ⟨v,H1,I1,rv,β1,x1,r1,q1⟩=>?_;obtain ⟨γ,rfl,hγ⟩:=x1.pre;have hl:=r.len;have hh:∀a u,H1 a=some u->((∃vs,u=.lst vs)\/∃c dx fs,u=.ins c dx fs)->∃o,s1.heap.get? a=some o:=λ a u q hu=>by
     rcases hu with ⟨vs,rfl⟩ | ⟨c,dx,fs,rfl⟩
     ·obtain ⟨_,_,_,_,e⟩:=I1.hok a _ q;exact ⟨_,e⟩
     ·obtain ⟨_,_,_,e,_⟩:=I1.hok a _ q;exact ⟨_,e⟩
    refine ⟨v,cQ γ s1.heap H1,BK I1 γ,rv,k β _ v ⟨⟨[],by simp,by simp⟩,λ {a o} q hn _=>?_⟩ ⟨?_,?_,λ {n o a} h1 h2=>?_⟩ ?_⟩
    ·rw [cD λ z=>by rw [hγ a z] at q; cases q];exact x1.keep q hn (by simp)
    ·rw [length_take,hl]; omega
    ·exact (List.nodup_append.mp r1.nd).1
    ·have hn:n < m.length:=by
      have:=(List.getElem?_eq_some_iff.mp h1).1;rw [length_take] at this; omega
     rw [getElem?_take_of_lt hn] at h1;have hb:(β++γ)[n]?=some a:=by rw [getElem?_append_left (by omega)]; exact h2
     have qE:eS β.length o=true:=by
      rw [hl];exact List.all_eq_true.mp hc.2 o (mem_of_getElem? (by rw [getElem?_take_of_lt hn]; exact h1))
     have ha:a∉γ:=λ z=>by
      have:=(List.nodup_append.mp r1.nd).2.2 a (mem_of_getElem? h2) a z;exact this rfl
     have q:=r1.obj h1 hb;cases o with
     | lst ws=>obtain ⟨vs,e,t⟩:=q; exact ⟨vs,(cD ha).trans e,t.xq (by simpa only [eS] using qE)⟩
     | ins c fs=>
      obtain ⟨dx,fs',e,t⟩:=q;exact ⟨dx,fs',(cD ha).trans e,.of t.snd.2 (t.snd.1.xq (by simpa only [eS] using qE))⟩
     | set ks=>obtain ⟨S,e,t⟩:=q; exact ⟨S,(cD ha).trans e,t⟩
     | dic fs=>
      obtain ⟨fs',e,t⟩:=q;exact ⟨fs',(cD ha).trans e,.of t.snd.2 (t.snd.1.xq (by simpa only [eS] using qE))⟩
    ·rw [<-hl] at e1;exact q1.jz (λ e q=>mQ hh r1 8 e q) e1
   ·cases e
  ·cases e
theorem RW.Hg (q:RW K β H w v):fH β.length w=true:=
 RW.rec (motive_1:=λ w v _=>fH β.length w=true) (motive_2:=λ w v _=>cB β.length w=true) rfl (λ _=>rfl) (λ _=>rfl) (λ _=>rfl) (λ _ _ i=>i) (λ _ _ i=>i) (λ _ _ _ i=>i) (λ q=>decide_eq_true (List.getElem?_eq_some_iff.mp q).1) rfl (λ _ _ a b=>Bool.and_eq_true_iff.mpr ⟨a,b⟩) q
theorem Rel.frozen {s1:Shared} {H1:Hp} {m0:Mem} (r:Rel X.K cl β m H) (x1:Ext β H (β++γ) H1) (hγ:∀a∈γ,H a=none) (r1:Rel X.K cl (β++γ) m0 H1) (hc:m.length<=m0.length/\ur m.length (m0.take m.length)=true) (I1:Inv X aa σ H1 s1) :
  Ext β H β (cQ γ s1.heap H1)/\Rel X.K cl β (m0.take m.length) (cQ γ s1.heap H1)/\(∀a u,H1 a=some u->((∃vs,u=.lst vs)\/∃c dx fs,u=.ins c dx fs)->∃o,s1.heap.get? a=some o):=by
 have hl:=r.len;refine ⟨⟨⟨[],by simp,by simp⟩,λ {a o} q hn _=>?_⟩,⟨?_,?_,λ {n o a} h1 h2=>?_⟩,λ a u q hu=>?_⟩
 ·rw [cD λ z=>by rw [hγ a z] at q; cases q];exact x1.keep q hn (by simp)
 ·rw [length_take,hl]; omega
 ·exact (List.nodup_append.mp r1.nd).1
 ·have hn:n < m.length:=by
   have:=(List.getElem?_eq_some_iff.mp h1).1;rw [length_take] at this; omega
  rw [getElem?_take_of_lt hn] at h1;have hb:(β++γ)[n]?=some a:=by rw [getElem?_append_left (by omega)]; exact h2
  have qE:eS β.length o=true:=by
   rw [hl];exact List.all_eq_true.mp hc.2 o (mem_of_getElem? (by rw [getElem?_take_of_lt hn]; exact h1))
  have ha:a∉γ:=λ z=>by
   have:=(List.nodup_append.mp r1.nd).2.2 a (mem_of_getElem? h2) a z;exact this rfl
  have q:=r1.obj h1 hb;cases o with
  | lst ws=>obtain ⟨vs,e,t⟩:=q; exact ⟨vs,(cD ha).trans e,t.xq (by simpa only [eS] using qE)⟩
  | ins c fs=>
   obtain ⟨dx,fs',e,t⟩:=q;exact ⟨dx,fs',(cD ha).trans e,.of t.snd.2 (t.snd.1.xq (by simpa only [eS] using qE))⟩
  | set ks=>obtain ⟨S,e,t⟩:=q; exact ⟨S,(cD ha).trans e,t⟩
  | dic fs=>
   obtain ⟨fs',e,t⟩:=q;exact ⟨fs',(cD ha).trans e,.of t.snd.2 (t.snd.1.xq (by simpa only [eS] using qE))⟩
 ·rcases hu with ⟨vs,rfl⟩ | ⟨c,dx,fs,rfl⟩
  ·obtain ⟨_,_,_,_,e⟩:=I1.hok a _ q;exact ⟨_,e⟩
  ·obtain ⟨_,_,_,e,_⟩:=I1.hok a _ q;exact ⟨_,e⟩
theorem El (hp:PS X st (SS X cl (bN C (.asg (.pt (.var i)) d)))):PS X st (SS X cl (bN C (.asg (.pt (.var i)) (.frz d)))):=by
 rintro aa s σ H D I ⟨β,ρ,m,f,m',r,l,e,k⟩;simp only [bN,ai,fK,aV] at e;obtain ⟨w1,m1,e1,e⟩:=R.ah e;simp only [R.bind] at e;cases e;cases h0:ai C d ρ m with
 | no=>rw [h0] at e1; cases e1
 | ok w0 m0=>
  rw [h0] at e1;simp only [uu] at e1;split at e1
  ·rename_i hc;split at e1
   ·rename_i MV e2;cases e1;refine bQ (hp aa s σ H {nx:=fun σ1 H1=>∃β1,Ext β H β1 H1/\Rel X.K cl β1 m0 H1/\RL X.K β1 H1 (ρ.set i (some w0)) σ1,rt:=λ _ _=>False} I ⟨β,ρ,m,.nx (ρ.set i (some w0)),m0,r,l,by simp only [bN,h0,R.bind,fK,aV],fun β1 H1 x1 r1 σ1 l1=>⟨β1,x1,r1,l1⟩⟩) λ fl s1 h=>?_;cases fl with
    | next=>
     obtain ⟨σ1,H1,I1,β1,x1,r1,l1⟩:=h;obtain ⟨γ,rfl,hγ⟩:=x1.pre;obtain ⟨z1,z2,z3⟩:=r.frozen x1 hγ r1 hc I1;refine ⟨σ1,cQ γ s1.heap H1,BK I1 γ,k β _ z1 z2 σ1 ⟨by rw [length_set,<-l1.len,length_set],λ {j w} hj=>?_⟩⟩
     by_cases hij:i=j
     ·subst hij;have hlt:i < ρ.length:=by
       have:=(List.getElem?_eq_some_iff.mp hj).1;simpa using this
      rw [getElem?_set_self hlt] at hj;cases hj;obtain ⟨v,hv,qv⟩:=l1.at_ (i:=i) (w:=w0) (by rw [getElem?_set_self hlt]);rw [<-r.len] at e2;exact ⟨v,hv,qv.jz (λ e q=>mQ z3 r1 8 e q) e2⟩
     ·rw [getElem?_set_ne hij] at hj;obtain ⟨v,hv,qv⟩:=l1.at_ (i:=j) (w:=w) (by rw [getElem?_set_ne hij]; exact hj);obtain ⟨v',_,q'⟩:=l.at_ hj;exact ⟨v,hv,qv.xq q'.Hg⟩
    | brk=>obtain ⟨_,_,_,z⟩:=h; exact False.elim z
    | cont=>obtain ⟨_,_,_,z⟩:=h; exact False.elim z
    | ret u=>obtain ⟨_,_,_,_,_,z⟩:=h; exact False.elim z
   ·cases e1
  ·cases e1
theorem jn {prog:Program} {w:World} {A:Around} {E:Value->Shared->Prop} {name:Str} {apos:Pos}
  (hbase:attributeBase o name env (eval o env)=eval o env)
  (hfew:((backTo pos (starEach args env)).all (λ x=>!x.1)&&(backToKw pos (keywordEach [] env)).all (λ x=>x.1.isSome)
   && decide (args.length+([]:List Keyword).length+(if ([]:List Keyword).isEmpty then 0 else 1) < 30))=true)
  (hline:(apos.endLine==pos.line)=true)
  (h:wpAny (model prog w) A (eval o env) (λ ov s₁=>∀pl,wpAny (model prog w) A (getMethod ov name pl) (λ fx s₂=>wpAny (model prog w) A (callWith pos fx.1 fx.2 (backTo pos (starEach args env)) []) Q E s₂) E s₁) E s) :
  wpAny (model prog w) A (eval (.Call (.Attribute o name apos) args [] pos) env) Q E s:=by
 rw [arm_eval_Call,hbase];refine wpAny_bind (wpAny_mono h (λ ov s₁ h₁=>?_) λ _ _ e=>e);refine wpAny_bind (wpAny_standAt ?_);have Hh:methodCallForm (args.length+([]:List Keyword).length) (backTo pos (starEach args env)) (backToKw pos (keywordEach [] env))=true:=hfew;have hpos:methodCallPos true o env apos pos=pure pos:=by unfold methodCallPos; simp [hline]
 unfold methodCall;rw [Hh];refine wpAny_bind (wpAny_holding (wpAny_mono (h₁ _) (λ fx s2 h2=>?_) λ _ _ e=>e));exact wpAny_bind (wpAny_of_eq hpos h2)
section
variable {X:L2.Cx} {cl:Cl} {C:D.Cx} {pos:Pos}
theorem qF {a Cc:Addr} {fs:List (Str×V)} (I:Inv X aa σ H s) (e:Rd H a (.ins Cc dx fs)):∃mA,nP s.heap a dx Cc mA/\∀f,eL (fs.lookup f) (mA f):=by
 obtain ⟨d,z,ne,ob,mA,n,r,q⟩:=(show bF X.prog X.w H s.heap a (.ins Cc dx fs) from e.ok I.hok);exact ⟨mA,⟨ob,n,ne⟩,r⟩
theorem eT.lookup {f:Str}:∀{fs:List (Str×W)} {gs:List (Str×V)},eT K β H fs gs->(∀{w},fs.lookup f=some w->∃v,gs.lookup f=some v/\RW K β H w v)/\(fs.lookup f=none->gs.lookup f=none)
 | _,_,.nil=>⟨λ h=>by simp at h,λ _=>rfl⟩
 | _,_,.cons (f:=g) q t=>by
  obtain ⟨h1,h2⟩:=t.lookup (f:=f);cases hx:f==g with
  | true=>
   refine ⟨λ h=>?_,λ h=>?_⟩
   ·simp only [lookup_cons,hx] at h ⊢;cases h;exact ⟨_,rfl,q⟩
   ·simp only [lookup_cons,hx] at h; cases h
  | false=>
   refine ⟨λ h=>?_,λ h=>?_⟩
   ·simp only [lookup_cons,hx] at h ⊢;exact h1 h
   ·simp only [lookup_cons,hx] at h ⊢;exact h2 h
theorem xr:∀{gs:List (Str×V)} {xs:List W},aZ K β H xs (gs.map (·.2))->eT K β H ((gs.map (·.1)).zip xs) gs
 | [],_,t=>by cases t; exact .nil
 | (g,v)::gs,xs,t=>by
  cases t with
  | cons q t=>exact .cons q (xr t)
theorem Rel.ins {fs:List (Str×W)} (r:Rel K cl β m H) (q:RW K β H w v) (e:i8 m w=some (c,fs)):∃a dx gs,v=.ref a/\Rd H a (.ins (aW K c) dx gs)/\eT K β H fs gs:=by
 cases q with
 | ref h=>
  simp only [i8] at e;split at e
  ·rename_i c' fs' e1;cases e;obtain ⟨dx,gs,z,t⟩:=r.obj e1 h;exact ⟨_,dx,gs,rfl,.inl z,t⟩
  ·cases e
 | obj h e0 t=>
  simp only [i8] at e;cases e;subst e0;exact ⟨_,_,_,rfl,.inr ⟨_,h⟩,xr t⟩
 | _=>simp only [i8] at e; cases e
theorem Hi {a:Expr} {f:Str} (hc:∀{c f},C.cs.flds.contains (c,f)=true->tV X.K (aW X.K c)/\fP X.K (aW X.K c) f) (ha:PE X a (SE X cl (ai C d))) (hb:attributeBase a f X.env (eval a X.env)=eval a X.env):PE X (.Attribute a f pos) (SE X cl (ai C (.fld d f))):=by
 rintro aa s σ H Q I ⟨β,ρ,m,w,m',r,l,e,k⟩;simp only [ai] at e;obtain ⟨x,m1,e1,e⟩:=R.ah e;unfold lG at e;split at e
 ·rename_i c fs e2;split at e
  ·rename_i hcf;split at e
   ·rename_i w' e3;cases e;refine zo hb (bQ (ha aa s σ H (λ v H1=>∃β1,Ext β H β1 H1/\Rel X.K cl β1 m' H1/\RW X.K β1 H1 x v) I ⟨β,ρ,m,x,m',r,l,e1,fun β1 H1 v1 x1 r1 q1=>⟨β1,x1,r1,q1⟩⟩) λ u s1 ⟨v,H1,I1,rv,β1,x1,r1,q1⟩=>?_);obtain ⟨a',dx,gs,rfl,hr,t⟩:=r1.ins q1 e2;obtain rfl:u=Value.ref a':=rv;obtain ⟨mA,O,ro⟩:=qF I1 hr;obtain ⟨z,ez,qz⟩:=t.lookup.1 e3;obtain ⟨hcl,hna⟩:=hc hcf;obtain ⟨u,hu,ru⟩:=eL.some_of (v:=z) (o:=mA f) (by rw [<-ez]; exact ro f);exact get_map I1.gA O (hcl.get f) hcl.hd hna hu (tU ru) ⟨z,H1,I1.tok _,ru,k _ _ _ x1 r1 qz⟩
   ·cases e
  ·cases e
 ·cases e
theorem Em (hk:wC X.K (aW X.K c)):bU X (.builtin "isinstance") (λ xs H Q=>∃x,xs=[x,.ref (aW X.K c)]/\∃β m w fs,Rel X.K cl β m H/\RW X.K β H w x/\i8 m w=some (c,fs)/\Q (.bl true) H):=by
 intro aa s σ H xs us Q I rv h;obtain ⟨x,rfl,β,m,w,fs,r,q,e,k⟩:=h;obtain ⟨u,u',rfl,r1,r2⟩:=vals2 rv;obtain ⟨a',dx,gs,rfl,hr,t⟩:=r.ins q e;obtain rfl:u=Value.ref a':=r1;obtain rfl:u'=Value.ref (aW X.K c):=r2;obtain ⟨mA,O,ro⟩:=qF I hr;obtain ⟨od,J,_⟩:=O.look;exact PySem.W.kia_one (b:=true) (PySem.W.kitx_own (hk.cls.get _) hk.cls.hd hk.ha hk.hn hk.htk hk.hm) I.gA J (by unfold PySem.W.kitOne; rw [if_pos (by simp)]) (λ z=>nomatch z) λ tk=>⟨.bl true,H,I.tok tk,rfl,k⟩
theorem Hj {a:Expr} {t:Str} (hg:Gl X "isinstance") (hm:X.mg "isinstance"=none) (z6:Gl X t) (hm2:X.mg t=some (.ref (aW X.K t))) (hk:wC X.K (aW X.K t)) (ha:PE X a (SE X cl (ai C d)))
  (hdb:(t==("__debug__":Str))=false) (he:starEach [a,.Name t p2] X.env=(false,eval a X.env)::starEach [.Name t p2] X.env):PE X (.Call (.Name "isinstance" p) [a,.Name t p2] [] pos) (SE X cl (ai C (.fus (.isc t) d))):=by
 refine PE.imp (gU (Em (cl:=cl) hk) hg hm (by decide +kernel) (cG ha (cG (fc (v:=.ref (aW X.K t)) z6 hm2 rfl hdb) ee) he) (by decide +kernel) (by decide +kernel) he rfl) ?_;rintro σ H Q ⟨β,ρ,m,w,m',r,l,e,k⟩;simp only [ai] at e;obtain ⟨x,m1,e1,e⟩:=R.ah e;simp only [dB,Bx] at e;split at e
 ·rename_i c' fs e2;split at e
  ·rename_i hc;cases e;subst hc;exact ⟨β,ρ,m,x,_,r,l,e1,fun β1 H1 v1 x1 r1 q1=>⟨v1,rfl,β1,_,x,fs,r1,q1,e2,k _ _ _ x1 r1 (.bl true)⟩⟩
  ·cases e
 ·cases e
theorem sd {f:Str} (q:RW K β H w v):∀{fs:List (Str×W)} {gs:List (Str×V)},eT K β H fs gs->eT K β H (D.dM f w fs) (L2.dM f v gs)
 | _,_,.nil=>.cons q .nil
 | _,_,.cons (f:=g) (ws:=ws) (vs:=vs) q' t=>by
  simp only [D.dM,L2.dM];split
  ·exact .cons q t
  ·exact .cons q' (sd q t)
theorem eT.length:∀{fs:List (Str×W)} {gs:List (Str×V)},eT K β H fs gs->fs.length=gs.length
 | _,_,.nil=>rfl
 | _,_,.cons _ t=>by rw [length_cons,length_cons,t.length]
theorem eT.mono (r:Rel K cl β m H) (x:Ext β H β' H') {fs:List (Str×W)} {gs:List (Str×V)} (t:eT K β H fs gs):eT K β' H' fs gs:=t.cP r zT x
theorem Rel.KS {a:Addr} (r:Rel K cl β m H) {o:O} {fs:List (Str×W)} {gs:List (Str×V)} (hm:m[n]?=some o) (hb:β[n]?=some a) (q:eT K β H fs gs) :
  Ext β H β (upd H a (.ins (aW K c) dx gs))/\Rel K cl β (m.set n (.ins c fs)) (upd H a (.ins (aW K c) dx gs)):=by
 have ha:a∈β:=mem_of_getElem? hb;have x:Ext β H β (upd H a (.ins (aW K c) dx gs)):=⟨⟨[],by simp,by simp⟩,λ {b u} h hn _=>by rw [av (show b≠a from λ z=>hn (by rw [z]; exact ha))]; exact h⟩;refine ⟨x,by simp [r.len],r.nd,λ {k o' b} h1 h2=>?_⟩
 by_cases hk:n=k
 ·subst hk;rw [hb] at h2; cases h2;rw [getElem?_set_self (List.getElem?_eq_some_iff.mp hm).1] at h1;cases h1;exact ⟨dx,gs,aG,q.mono r x⟩
 ·rw [getElem?_set_ne hk] at h1;have q':=r.obj h1 h2;refine q'.mono r x (av ?_);rintro rfl;obtain ⟨h3,e3⟩:=List.getElem?_eq_some_iff.mp h2;obtain ⟨h4,e4⟩:=List.getElem?_eq_some_iff.mp hb;exact hk ((getElem_inj r.nd).mp (e4.trans e3.symm))
theorem En {a:Expr} {G1:E} {f:Str} {pos':Pos} (hc:∀{c f},C.cs.flds.contains (c,f)=true->tV X.K (aW X.K c)/\fP X.K (aW X.K c) f) (ho:PE X o (SE X cl (ai C G1))) (ha:PE X a (SE X cl (ai C d)))
  (hs:swapsWith a (some (.Attribute o f pos')) pos.line X.env=pure false):PS X (.Assign [.Attribute o f pos'] a pos) (SS X cl (bN C (.fas G1 f d))):=by
 refine PS.imp (C3 ho ha hs) ?_;rintro D σ H ⟨β,ρ,m,ff,m',r,l,e,k⟩;simp only [bN] at e;obtain ⟨w,m1,e1,e⟩:=R.ah e;obtain ⟨x,m2,e2,e⟩:=R.ah e;obtain ⟨_,m3,e3,e⟩:=R.ah e;cases e;refine ⟨β,ρ,m,w,m1,r,l,e1,fun β1 H1 v1 x1 r1 q1=>?_⟩;refine ⟨β1,ρ,m1,x,m2,r1,l.mono r x1,e2,fun β2 H2 v2 x2 r2 q2=>?_⟩;unfold om at e3;split at e3
 ·rename_i n;split at e3
  ·rename_i c fs e4;split at e3
   ·rename_i hcf;cases e3;cases q2 with
    | ref hb=>
     obtain ⟨dx,gs,z,t⟩:=r2.obj e4 hb;obtain ⟨hcl,hna⟩:=hc hcf.1;obtain ⟨x3,r3⟩:=r2.KS (c:=c) (dx:=dx) e4 hb (sd (f:=f) (q1.mono r1 x2) t);exact ⟨_,_,dx,gs,rfl,z,hcl,hna,by rw [<-t.length]; exact hcf.2,k _ _ ((x1.trans r1 x2).trans r2 x3) r3 _ (((l.mono r x1).mono r1 x2).mono r2 x3)⟩
   ·cases e3
  ·cases e3
 ·cases e3
def BP (X:L2.Cx) (cl:Cl) (C:D.Cx) (c name:Str) (i:Nat):Prop:=∃(k:Nat) (fa:Addr) (fd:FuncData) (ps:List Str),cX k X.A/\tV X.K (aW X.K c)/\Meth X.K (aW X.K c) name fa/\Binds X.K fd ps []/\
 eN X.prog X.w X.K X.mg X.base t7 k fa fd ps (u7 X.K cl ps.length (C.call i))/\∀ws m w m',C.call i ws m=.ok w m'->ws.length=ps.length
theorem Hl {name:Str} {apos:Pos} (hM:∀{c name i},C.cs.mths.lookup (c,name)=some i->BP X cl C c name i) (ho:PE X o (SE X cl (ai C d))) (ha:PA X es (SA X cl (bg C ds)))
  (hbase:attributeBase o name X.env (eval o X.env)=eval o X.env)
  (hfew:((backTo pos (starEach es X.env)).all (λ x=>!x.1)&&(backToKw pos (keywordEach [] X.env)).all (λ x=>x.1.isSome)
   && decide (es.length+([]:List Keyword).length+(if ([]:List Keyword).isEmpty then 0 else 1) < 30))=true)
  (hline:(apos.endLine==pos.line)=true) (hs:(es=[]/\ds=.nil)\/∃a r,es=a::r/\starEach (a::r) X.env=(false,eval a X.env)::starEach r X.env/\(backTo pos (starEach r X.env)).any (·.1)=false) :
  PE X (.Call (.Attribute o name apos) es [] pos) (SE X cl (ai C (.mth d name ds))):=by
 rintro aa s σ H Q I ⟨β,ρ,m,w,m',r,l,e,k⟩;simp only [ai] at e;obtain ⟨x,m1,e1,e⟩:=R.ah e;split at e
 ·rename_i i e2;obtain ⟨ws,m2,e3,e⟩:=R.ah e;refine jn hbase hfew hline (bQ (ho aa s σ H (λ v H1=>∃β1,Ext β H β1 H1/\Rel X.K cl β1 m1 H1/\RW X.K β1 H1 x v) I ⟨β,ρ,m,x,m1,r,l,e1,fun β1 H1 v1 x1 r1 q1=>⟨β1,x1,r1,q1⟩⟩) λ u s1 ⟨v,H1,I1,rv,β1,x1,r1,q1⟩ pl=>?_);unfold g6 at e2;split at e2
  ·rename_i c fs e4;split at e2
   ·rename_i hno;obtain ⟨a',dx,gs,rfl,hr,t⟩:=r1.ins q1 e4;obtain rfl:u=Value.ref a':=rv;obtain ⟨mA,O,ro⟩:=qF I1 hr;have hn:mA name=none:=eL.none_of (by rw [<-t.lookup.2 (by simpa using hno)]; exact ro name);obtain ⟨kk,fa,fd,ps,hroom,hcl,hmt,hbd,hF,BQ⟩:=hM e2;refine vB I1.gA O (hcl.get name) hmt.at_ hmt.fn hn ?_;have tX:∀vs β2 H2,Ext β1 H1 β2 H2->Rel X.K cl β2 m2 H2->aZ X.K β2 H2 ws vs->u7 X.K cl ps.length (C.call i) ((.ref a'::vs)++[]) H2 Q E0:=λ vs β2 H2 x2 r2 q2=>by
     rw [append_nil];have hq:aZ X.K β2 H2 (x::ws) (.ref a'::vs):=.cons (q1.mono r1 x2) q2;exact ⟨by rw [<-hq.length]; exact BQ _ _ _ _ e,β2,m2,x::ws,w,m',r2,hq,e,fun β3 H3 v3 x3 r3 q3=>k _ _ _ ((x1.trans r1 x2).trans r2 x3) r3 q3⟩
    rcases hs with ⟨rfl,rfl⟩ | ⟨a,rr,rfl,hst,hpl⟩
    ·simp only [bg] at e3;cases e3;exact PySem.W.callWith_K0 (first:=[.ref a']) I1.gA hmt.kp (l0 (us:=[.ref a']) (vs:=[.ref a']) hF hroom hbd .nil n8 I1 (.cons rfl .nil) (tX [] β1 H1 Ext.refl r1 .nil))
    ·refine PySem.W.callWith_K (first:=[.ref a']) (h₀:=X.base) I.ok.mod.kin hmt.kp (bQ (ha pos aa s1 σ H1 (λ vs H2=>∃β2,Ext β1 H1 β2 H2/\Rel X.K cl β2 m2 H2/\aZ X.K β2 H2 ws vs) I1 ⟨β1,ρ,m1,ws,m2,r1,l.mono r x1,e3,fun β2 H2 v2 x2 r2 q2=>⟨β2,x2,r2,q2⟩⟩) λ us s2 ⟨vs,H2,I2,rr2,β2,x2,r2,q2⟩=>⟨I2.gA,?_⟩) hst hpl;exact l0 (us:=.ref a'::us) (vs:=.ref a'::vs) hF hroom hbd .nil n8 I2 (.cons rfl rr2) (tX vs β2 H2 x2 r2 q2)
   ·cases e2
  ·cases e2
 ·cases e
def BR (X:L2.Cx) (cl:Cl) (C:D.Cx) (c:Str) (i:Nat):Prop:=∃(k:Nat) (fa:Addr) (fd:FuncData) (ps:List Str),cX (k+1) X.A/\Mk X.K (aW X.K c) fa/\X.mg c=some (.ref (aW X.K c))/\Binds X.K fd ps []/\
 eN X.prog X.w X.K X.mg X.base t7 k fa fd ps (u7 X.K cl ps.length (C.call i))/\∀ws m w m',C.call i ws m=.ok w m'->ws.length=ps.length
theorem Eo {a:Expr} (hi:C.cs.ini.lookup c=some i) (hI:BR X cl C c i) (hg:Gl X c) (ha:PA X (a::es) (SA X cl (bg C ds)))
  (hdb:(c==("__debug__":Str))=false) (he:starEach (a::es) X.env=(false,eval a X.env)::starEach es X.env) (hpl:(backTo pos (starEach es X.env)).any (·.1)=false) :
  PE X (.Call (.Name c p) (a::es) [] pos) (SE X cl (ai C (.make c ds))):=by
 obtain ⟨k,fa,fd,ps,hroom,IK,hmg,hbd,hF,BQ⟩:=hI;refine PE.imp (zu IK hF hroom hg hmg hbd .nil n8 ha hdb he hpl) ?_;rintro σ H Q ⟨β,ρ,m,w,m',r,l,e,k⟩;simp only [ai] at e;obtain ⟨ws,m1,e1,e⟩:=R.ah e;refine ⟨β,ρ,m,ws,m1,r,l,e1,fun β1 H1 v1 x1 r1 q1 x dx hx hdx hne=>?_⟩;simp only [fR,hi] at e;obtain ⟨w2,m2,e2,e⟩:=R.ah e;split at e
 ·cases e;obtain ⟨x2,r2⟩:=r1.zZ hdx (.own x);have Mx:upd H1 dx (.own x) x=none:=by rw [av hne.symm]; exact hx
  obtain ⟨x3,r3⟩:=r2.DG (ho:=.ins (aW X.K c) dx []) (o:=.ins c []) Mx λ _=>⟨dx,[],aG,.nil⟩;have hq:aZ X.K (β1++[x]) _ (.ref m1.length::ws) (.ref x::v1):=.cons (.ref (r1.last x)) ((q1.mono r1 x2).mono r2 x3);refine ⟨?_,β1++[x],m1++[.ins c []],.ref m1.length::ws,.non,m',r3,by rw [append_nil]; exact hq,e2,fun β4 H4 v4 x4 r4 q4=>?_⟩
  ·rw [append_nil,<-hq.length]; exact BQ _ _ _ _ e2
  ·cases q4;refine ⟨rfl,k _ _ _ (((x1.trans r1 x2).trans r2 x3).trans r3 x4) r4 (.ref (x4.get (r1.last x)))⟩
 ·cases e
theorem Ar {k f:Nat} {fa:Addr} {fd:FuncData} {ps:List Str} {x:Str} (F:eN X.prog X.w X.K X.mg X.base t7 k fa fd ps (u7 X.K cl ps.length (C.call f))) (hr:cX k X.A) (hg:Gl X x) (hm:X.mg x=some (.ref fa)) (hk:PySem.W.keepIn X.K (.ref fa)=true) (hb:Binds X.K fd ps [])
  (hl:ps.length=0) (hdb:(x==("__debug__":Str))=false):PE X (.Call (.Name x p) [] [] pos) (SE X cl (ai C (.call f .nil))):=by
 refine PE.imp (vD F hr hg hm hk hb .nil n8 hdb) ?_;rintro σ H Q ⟨β,ρ,m,w,m',r,l,e,k⟩;simp only [ai,bg,R.bind] at e;exact ⟨by rw [hl]; rfl,β,m,[],w,m',r,.nil,e,fun β2 H2 v2 x2 r2 q2=>k _ _ _ x2 r2 q2⟩
end
section
variable {X:L2.Cx} {cl:Cl} {C:D.Cx} {pos:Pos}
theorem Ep {a:Expr} {pos2:Pos} (hh:X.A.handled=none) (hu:X.A.units+64 < cLine) (hg:Gl X "len") (hm:X.mg "len"=none) (z6:Gl X "set") (hm2:X.mg "set"=none) (ha:PE X a (SE X cl (ai C d))) (he:starEach [a] X.env=[(false,eval a X.env)]) :
  PE X (.Call (.Name "len" p) [.Call (.Name "set" p2) [a] [] pos2] [] pos) (SE X cl (ai C (.fus .jK d))):=by
 refine PE.imp (gU kK hg hm (by decide +kernel) (cG (gf (uc hh) z6 hm2 (by decide +kernel) (cG ha ee he) (by decide +kernel) (by decide +kernel) he rfl) ee) (by decide +kernel) (by decide +kernel) rfl rfl) ?_;rintro σ H Q ⟨β,ρ,m,w,m',r,l,e,k⟩;simp only [ai] at e;obtain ⟨x,m1,e1,e⟩:=R.ah e;simp only [dB] at e;split at e
 ·rename_i xs;unfold qm at e;split at e
  ·rename_i ns e2;split at e
   ·rename_i hz;cases e;refine ⟨β,ρ,m,_,_,r,l,e1,fun β1 H1 v1 x1 r1 q1=>?_⟩;cases q1 with
    | tup hs t=>
     refine ⟨_,ns,rfl,by rw [<-t.fQ e2]; exact hs,hz,λ p S hp=>?_⟩;obtain ⟨x2,r2⟩:=r1.zZ hp (.set S (L2.unlike ns));exact ⟨p,S,_,rfl,aG,k _ _ _ (x1.trans r1 x2) r2 (.int _)⟩
   ·cases e
  ·cases e
 cases e
end
def TopK (K:PySem.W.Frag) (w:World) (mg:Str->Option Value) (x:Str) (kvs:List (Str×W)):Prop:=∃a gs,mg x=some (.ref a)/\TopD K w a gs/\∀β H,eT K β H kvs gs
section
variable {X:L2.Cx} {cl:Cl} {C:D.Cx} {pos p:Pos} {a:Expr} {d:E} {x:Str} {kvs:List (Str×W)}
theorem Ho (T:TopK X.K X.w X.mg x kvs) (hg:Gl X x) (hd:(x==("__debug__":Str))=false) (ha:PE X a (SE X cl (ai C d))):PE X (.Compare a [.In] [.Name x p] pos) (SE X cl (ai C (.fus (.kin kvs) d))):=by
 obtain ⟨b,gs,hm,hT,hr⟩:=T;refine PE.imp (lX lF ha (fc (v:=.ref b) hg hm rfl hd) rfl) ?_;rintro σ H Q ⟨β,ρ,m,w,m',r,l,e,k⟩;simp only [ai] at e;obtain ⟨y,m1,e1,e⟩:=R.ah e;simp only [dB] at e;split at e
 ·rename_i z;cases e;refine ⟨β,ρ,m,_,_,r,l,e1,fun β1 H1 v1 x1 r1 q1=>?_⟩;cases q1;exact ⟨_,_,_,rfl,rfl,hT,by rw [<-(hr β1 H1).look.1]; exact k _ _ _ x1 r1 (.bl _)⟩
 ·cases e
theorem Er (T:TopK X.K X.w X.mg x kvs) (hg:Gl X x) (hd:(x==("__debug__":Str))=false) (ha:PE X a (SE X cl (ai C d))):PE X (.Compare a [.NotIn] [.Name x p] pos) (SE X cl (ai C (.fus (.knin kvs) d))):=by
 obtain ⟨b,gs,hm,hT,hr⟩:=T;refine PE.imp (lX gW ha (fc (v:=.ref b) hg hm rfl hd) rfl) ?_;rintro σ H Q ⟨β,ρ,m,w,m',r,l,e,k⟩;simp only [ai] at e;obtain ⟨y,m1,e1,e⟩:=R.ah e;simp only [dB] at e;split at e
 ·rename_i z;cases e;refine ⟨β,ρ,m,_,_,r,l,e1,fun β1 H1 v1 x1 r1 q1=>?_⟩;cases q1;exact ⟨_,_,_,rfl,rfl,hT,by rw [<-(hr β1 H1).look.1]; exact k _ _ _ x1 r1 (.bl _)⟩
 ·cases e
theorem Hq (T:TopK X.K X.w X.mg x kvs) (hg:Gl X x) (hd:(x==("__debug__":Str))=false) (ha:PE X a (SE X cl (ai C d))):PT X (.Compare a [.In] [.Name x p] pos) (ST X cl (aT C (.fus (.kin kvs) d))):=by
 obtain ⟨b,gs,hm,hT,hr⟩:=T;refine PT.imp (lY lF ha (fc (v:=.ref b) hg hm rfl hd) rfl) ?_;rintro σ H Q ⟨β,ρ,m,w,m',r,l,e,k⟩;simp only [aT] at e;obtain ⟨y',m2,e0,e⟩:=R.ah e;obtain ⟨y,m1,e1,e0⟩:=R.ah e0;simp only [dB] at e0;split at e0
 ·rename_i z;cases e0;simp only [truthy] at e;cases e;refine ⟨β,ρ,m,_,_,r,l,e1,fun β1 H1 v1 x1 r1 q1=>?_⟩;cases q1;exact ⟨_,_,_,rfl,rfl,hT,by rw [<-(hr β1 H1).look.1]; exact ⟨_,rfl,k _ _ x1 r1⟩⟩
 ·cases e0
theorem Et (T:TopK X.K X.w X.mg x kvs) (hg:Gl X x) (hd:(x==("__debug__":Str))=false) (ha:PE X a (SE X cl (ai C d))):PT X (.Compare a [.NotIn] [.Name x p] pos) (ST X cl (aT C (.fus (.knin kvs) d))):=by
 obtain ⟨b,gs,hm,hT,hr⟩:=T;refine PT.imp (lY gW ha (fc (v:=.ref b) hg hm rfl hd) rfl) ?_;rintro σ H Q ⟨β,ρ,m,w,m',r,l,e,k⟩;simp only [aT] at e;obtain ⟨y',m2,e0,e⟩:=R.ah e;obtain ⟨y,m1,e1,e0⟩:=R.ah e0;simp only [dB] at e0;split at e0
 ·rename_i z;cases e0;simp only [truthy] at e;cases e;refine ⟨β,ρ,m,_,_,r,l,e1,fun β1 H1 v1 x1 r1 q1=>?_⟩;cases q1;exact ⟨_,_,_,rfl,rfl,hT,by rw [<-(hr β1 H1).look.1]; exact ⟨_,rfl,k _ _ x1 r1⟩⟩
 ·cases e0
theorem Eu (T:TopK X.K X.w X.mg x kvs) (hg:Gl X x) (hd:(x==("__debug__":Str))=false) (ha:PE X a (SE X cl (ai C d))) (hs:jx a):PE X (.Subscript (.Name x p) a pos) (SE X cl (ai C (.fus (.kget kvs) d))):=by
 obtain ⟨b,gs,hm,hT,hr⟩:=T;refine PE.imp (Br DF (fc (v:=.ref b) hg hm rfl hd) ha hs) ?_;rintro σ H Q ⟨β,ρ,m,w,m',r,l,e,k⟩;simp only [ai] at e;obtain ⟨y,m1,e1,e⟩:=R.ah e;simp only [dB] at e;split at e
 ·rename_i z;split at e
  ·rename_i w' e2;cases e;refine ⟨β,ρ,m,_,_,r,l,e1,fun β1 H1 v1 x1 r1 q1=>?_⟩;cases q1;obtain ⟨v,e3,q3⟩:=(hr β1 H1).look.2 _ e2;exact ⟨_,_,_,_,rfl,rfl,hT,e3,k _ _ _ x1 r1 q3⟩
  ·cases e
 ·cases e
end
noncomputable def se (X:L2.Cx) (cl:Cl) (C:D.Cx):List Str->Es->List (TE×TE)
 | k::ks,.cons e es=>(tC (.str k),SE X cl (ai C e))::se X cl C ks es
 | _,_=>[]
section
variable {X:L2.Cx} {cl:Cl} {C:D.Cx}
theorem oK:∀{ks:List Str} {es:Es} {β:List Addr} {H:Hp} {m m':Mem} {ws:List W} {Q:List (V×V)->Hp->Prop},ks.length=ws.length->Rel X.K cl β m H->RL X.K β H ρ σ->bg C es ρ m=.ok ws m'->
  (∀β' H' vs,Ext β H β' H'->Rel X.K cl β' m' H'->aZ X.K β' H' ws vs->Q ((ks.map V.str).zip vs) H')->mE (se X cl C ks es) σ H Q
 | ks,.nil,β,H,m,m',ws,Q,hl,r,l,e,k=>by
  simp only [bg] at e;cases e;have:ks=[]:=List.length_eq_zero_iff.mp hl;subst this;exact k _ _ [] Ext.refl r .nil
 | ks,.cons d es,β,H,m,m',ws,Q,hl,r,l,e,k=>by
  simp only [bg] at e;obtain ⟨w,m1,e1,e⟩:=R.ah e;obtain ⟨IB,m2,e2,e⟩:=R.ah e;cases e;cases ks with
  | nil=>simp at hl
  | cons z ks=>
   refine ⟨β,ρ,m,w,m1,r,l,e1,fun β1 H1 v1 x1 r1 q1=>?_⟩;refine oK (by simpa using hl) r1 (l.mono r x1) e2 fun β2 H2 vs x2 r2 q2=>?_;exact k β2 H2 (v1::vs) (x1.trans r1 x2) r2 (.cons (q1.mono r1 x2) q2)
theorem xu {k:Key} {kvs:List (Key×V)} (h:∀p∈kvs,p.1≠k):putK kvs k v=kvs++[(k,v)]:=by
 unfold putK;rw [if_neg];intro z;obtain ⟨p,hp,e⟩:=List.any_eq_true.mp z;exact h p hp (of_decide_eq_true e)
theorem uD:∀{more acc:List (Key×V)},(more.map (·.1)).Nodup->(∀p∈acc,∀q∈more,p.1≠q.1)->fk acc more=acc++more:=by
 intro more
 induction more with
 | nil=>intro acc _ _; simp [fk]
 | cons q r ih=>
  intro acc hn hd;rw [map_cons,nodup_cons] at hn;have e:fk acc (q::r)=fk (putK acc q.1 q.2) r:=rfl;rw [e,xu λ p hp=>hd p hp q mem_cons_self,ih hn.2 λ p hp x hx=>?_,append_assoc]
  ·rfl
  ·rcases List.mem_append.mp hp with hp | hp
   ·exact hd p hp x (mem_cons_of_mem _ hx)
   ·rw [mem_singleton] at hp;subst hp;intro z;exact hn.1 (List.mem_map.mpr ⟨x,hx,z.symm⟩)
theorem oM {fs:List (Str×V)} (h:(fs.map (·.1)).Nodup):((keyed fs).map (·.1)).Nodup:=by
 have e:(keyed fs).map (·.1)=(fs.map (·.1)).map (Sum.inr:Str->Key):=by simp [keyed,Function.comp_def]
 rw [e];generalize fs.map (·.1)=l at h
 induction l with
 | nil=>exact nodup_nil
 | cons a r ih=>
  rw [nodup_cons] at h;rw [map_cons,nodup_cons];refine ⟨λ z=>?_,ih h.2⟩;obtain ⟨b,hb,e⟩:=List.mem_map.mp z;cases e;exact h.1 hb
theorem sj:∀{ks:List Str} {ws:List W} {vs:List V},ks.length=ws.length->aZ K β H ws vs->eT K β H (ks.zip ws) (ks.zip vs)
 | [],_,_,h,.nil=>.nil
 | [],_,_,h,.cons _ _=>by simp at h
 | _::_,_,_,h,.nil=>by simp at h
 | k::ks,_,_,h,.cons q t=>.cons q (sj (by simpa using h) t)
theorem Rel.other {p:Addr} {u u':HO} (r:Rel K cl β m H) (hp:H p=some u) (hb:p∉β) (h1:∀xs,u≠.tup xs) (h2:∀ob x,u≠.frz ob x) :
  Rel K cl β m (upd H p u')/\∀{ws:List W} {vs:List V},aZ K β H ws vs->aZ K β (upd H p u') ws vs:=by
 have hf:∀{a:Addr} {o:Obj} {u:HO},H a=some (.frz o u)->upd H p u' a=some (.frz o u):=λ {a o x} e=>by
  rw [av]
  ·exact e
  ·rintro rfl;rw [hp] at e; cases e; exact h2 _ _ rfl
 have ht:∀{a:Addr} {vs:List V},cL K H a vs->cL K (upd H p u') a vs:=λ {a vs} q=>by
  rcases q with (e | ⟨o,e⟩) | q
  ·refine .inl (.inl ?_);rw [av]
   ·exact e
   ·rintro rfl;rw [hp] at e; cases e; exact h1 _ rfl
  ·exact .inl (.inr ⟨o,hf e⟩)
  ·exact .inr q
 have kW:∀{w:W} {v:V},RW K β H w v->RW K β (upd H p u') w v:=λ q=>q.keep ⟨[],by simp⟩ ht hf;have kS:∀{ws:List W} {vs:List V},aZ K β H ws vs->aZ K β (upd H p u') ws vs:=λ q=>q.keep ⟨[],by simp⟩ ht hf;have kF:∀{ws:List (Str×W)} {vs:List (Str×V)},eT K β H ws vs->eT K β (upd H p u') ws vs:=λ q=>by
  induction q with
  | nil=>exact .nil
  | cons a b ih=>exact .cons (kW a) ih
 refine ⟨⟨r.len,r.nd,λ {n o a} g1 g2=>?_⟩,kS⟩;have na:a≠p:=by
  rintro rfl;exact hb (mem_of_getElem? g2)
 have q:=r.obj g1 g2;cases o with
 | lst ws=>obtain ⟨vs,e,t⟩:=q; exact ⟨vs,(av na).trans e,kS t⟩
 | ins c fs=>obtain ⟨dx,fs',e,t⟩:=q; exact ⟨dx,fs',(av na).trans e,kF t⟩
 | set ks=>obtain ⟨S,e,t⟩:=q; exact ⟨S,(av na).trans e,t⟩
 | dic fs=>obtain ⟨fs',e,t⟩:=q; exact ⟨fs',(av na).trans e,kF t⟩
theorem lI:∀{ks:List Str} {vs:List V},ks.length=vs.length->(ks.map V.str).zip vs=(keyed (ks.zip vs)).map λ kv=>(kV kv.1,kv.2)
 | [],_,_=>rfl
 | _::_,[],h=>by simp at h
 | k::ks,v::vs,h=>by
  have:=lI (ks:=ks) (vs:=vs) (by simpa using h);show (V.str k,v)::(ks.map V.str).zip vs=(V.str k,v)::(keyed (ks.zip vs)).map λ kv=>(kV kv.1,kv.2);rw [this]
theorem Ew {keys:List (Option Expr)} {values:List Expr} {ks:List Str} (h:Fe X pos keys values (se X cl C ks ds)) (hall:keys.all (·.isSome)=true) (hl:keys.length=values.length) (h0:keys≠[]) (Km:keys.length<=15) :
  PE X (.Dict keys values pos) (SE X cl (ai C (.fus (.dict ks) (.tup ds)))):=by
 refine PE.imp (zK h hall hl h0 Km) ?_;rintro σ H Q ⟨β,ρ,m,w,m',r,l,e,k⟩;simp only [ai] at e;obtain ⟨x,m1,e1,e⟩:=R.ah e;obtain ⟨ws,m2,e2,e1⟩:=R.ah e1;split at e1
 ·cases e1;simp only [dB,qp] at e;split at e
  ·rename_i hk;obtain ⟨k1,k2,k3⟩:=hk;cases e;intro p hp;obtain ⟨x1,r1⟩:=r.zZ hp (.dK []);refine oK k1 r1 (l.mono r x1) e2 fun β2 H2 vs x2 r2 q2=>?_;have pb:p∉β:=r.By hp;have hp2:H2 p=some (.dK []):=x2.keep aG pb (by simp);have LN:p∉β2:=λ z=>by
    obtain ⟨γ,rfl,hγ⟩:=x2.pre;rcases List.mem_append.mp z with z | z
    ·exact pb z
    ·have:=hγ p z;rw [aG] at this;cases this
   have vl:ks.length=vs.length:=k1.trans q2.length;refine ⟨hp2,keyed (ks.zip vs),?_,by simp [keyed]; omega,?_⟩
   ·exact lI vl
   ·have hn:((ks.zip vs).map (·.1)).Nodup:=by rw [map_fst_zip (by omega)]; exact k2
    rw [uD (oM hn) (by simp),nil_append];obtain ⟨r3,kS⟩:=r2.other (u':=.dK (keyed (ks.zip vs))) hp2 LN (by intro _ z; cases z) (by intro _ _ z; cases z);have hsub:∀{n:Nat} {a:Addr},β2[n]?=some a->(β2++[p])[n]?=some a:=λ h=>by rw [getElem?_append_left (List.getElem?_eq_some_iff.mp h).1]; exact h
    refine k (β2++[p]) _ (.ref p) ⟨?_,λ {b u} hb hn _=>?_⟩ ⟨by simp [r2.len],?_,λ {n o a} g1 g2=>?_⟩ (.ref (r2.last p))
    ·obtain ⟨γ,rfl,hγ⟩:=x2.pre;refine ⟨γ++[p],by rw [append_assoc],λ a ha=>?_⟩;rcases List.mem_append.mp ha with ha | ha
     ·have z:=hγ a ha
      by_cases e:a=p
      ·rw [e]; exact hp
      ·rw [av e] at z; exact z
     ·rw [mem_singleton] at ha; rw [ha]; exact hp
    ·have nb:b≠p:=aB hb hp;rw [av nb];exact x2.keep (by rw [av nb]; exact hb) hn (by simp)
    ·rw [nodup_append];refine ⟨r2.nd,by simp,λ a ha b hb=>?_⟩;rw [mem_singleton] at hb;subst hb;rintro rfl;exact LN ha
    ·by_cases hn':n < m1.length
     ·rw [getElem?_append_left hn'] at g1;rw [getElem?_append_left (by rw [r2.len]; exact hn')] at g2;exact (r3.obj g1 g2).sub hsub
     ·have:n=m1.length:=by
       have:=(List.getElem?_eq_some_iff.mp g1).1;simp at this; omega
      subst this;rw [getElem?_append_right (Nat.le_refl _)] at g1;simp at g1;subst g1;rw [r2.last p] at g2;cases g2;exact ⟨ks.zip vs,aG,(sj k1 (kS q2)).sub hsub⟩
  ·cases e
 ·cases e1
end
set_option genInjectivity false in
structure Ci where
 N:List Str
 names:List (Str×NameKind)
 fns:List (Str×(Nat×Nat))
 gl:List (Str×W)
 cs:Cs
 fz:List Pos
noncomputable def mR (x:Str):List Str->Option Nat
 | []=>none
 | y::r=>if y=x then some 0 else (mR x r).map (·+1)
theorem oN {x:Str}:∀{N:List Str} {i:Nat},mR x N=some i->N[i]?=some x
 | [],_,h=>by cases h
 | y::r,i,h=>by
  unfold mR at h;split at h
  ·rename_i e; cases h; simp [e]
  ·simp only [Option.map_eq_some_iff] at h;obtain ⟨j,h1,rfl⟩:=h;simpa using oN h1
noncomputable def qG:List (Str×B):=[("len",.len),("abs",.abs),("max",.max),("min",.min),("divmod",.divmod),("all",.all)
 ,("list",.list),("tuple",.tuple),("int",.int),("sorted",.sorted),("repr",.repr)
 ,("str",.str)
 ]
noncomputable def xw:List (Str×String):=[("int","int"),("bool","bool"),("str","str"),("list","list"),("tuple","tuple"),("dict","dict")]
noncomputable def jX:List Str:=["len","abs","max","min","divmod","all","any","list","tuple","int","bool","str","dict","isinstance","range","enumerate","zip","sorted","set","repr"]
noncomputable def xy:List (Str×(String×String)):=[("append",("append","list.append"))
 ,("clear",("clear","list.clear"))
 ,("pop",("pop","list.pop"))
 ,("insert",("insert","list.insert"))
 ,("join",("join","str.join"))
 ,("add",("add","set.add"))
 ,("count",("count","list.count"))
 ,("endswith",("endswith","str.endswith"))
 ,("split",("split","str.split"))
 ]
noncomputable def noStar:Expr->Bool
 | .Starred ..=>false
 | _=>true
noncomputable def isSlice:Expr->Bool
 | .Slice ..=>true
 | _=>false
noncomputable def isSet:Expr->Bool
 | .Set ..=>true
 | _=>false
noncomputable def mS:Expr->Bool
 | .ListComp ..=>true
 | .SetComp ..=>true
 | .DictComp ..=>true
 | _=>false
noncomputable def gk:Expr->Bool
 | .Call (.Name _ _) [] [] _=>true
 | _=>false
noncomputable def Au:Expr->Bool
 | .Call ..=>true
 | .ListComp ..=>true
 | .List ..=>true
 | .BinOp ..=>true
 | .Subscript ..=>true
 | _=>false
noncomputable def wz (c:Ci) (e:Expr) (d:E):E:=if Au e&&c.fz.contains e.pos then .frz d else d
noncomputable def sr:Expr->Bool
 | .Name ..=>true
 | _=>false
noncomputable def mT:Expr->Bool
 | .Tuple ..=>true
 | .List ..=>true
 | _=>false
noncomputable def isIt:E->Bool
 | .rng _=>true
 | .rng2 _ _=>true
 | .enm _=>true
 | .zip _=>true
 | _=>false
noncomputable def special (x:Str):Bool:=x=="__debug__"||x=="__classdict__"||x=="__name__"
noncomputable def kR (f:Expr->Option E):List Expr->Option Es
 | []=>some .nil
 | e::es=>if noStar e then match f e with
  | none=>none
  | some d=>match kR f es with
   | none=>none
   | some ds=>some (.cons d ds) else none
noncomputable def IL (f:Expr->Option E) (op:BoolOp):List Expr->Option E
 | []=>none
 | [e]=>f e
 | e::r=>match f e with
  | none=>none
  | some d=>match IL f op r with
   | none=>none
   | some ds=>match op with
    | .And=>some (.and d ds)
    | .Or=>some (.or d ds)
noncomputable def cO (f:Expr->Option E):Option Expr->Option Oe
 | none=>some .none
 | some e=>(f e).map .some
noncomputable def xA (c:Ci) (x:Str):Option E:=if special x then none else match c.names.lookup x with
 | some .local=>(mR x c.N).map .var
 | some .cell=>(mR x c.N).map .var
 | some .free=>(mR x c.N).map .var
 | some .globalImplicit=>(c.gl.lookup x).map .cst
 | _=>none
noncomputable def ic (c:Ci) (x:Str):Option Nat:=match c.names.lookup x with
 | some .local=>mR x c.N
 | some .cell=>mR x c.N
 | _=>none
noncomputable def IM (f:Expr->Option T):List Expr->Option Ts
 | []=>some .nil
 | e::es=>if noStar e then match f e with
  | none=>none
  | some d=>match IM f es with
   | none=>none
   | some ds=>some (.cons d ds) else none
noncomputable def cT:Nat->Ci->Expr->Option T
 | 0,_,_=>none
 | n+1,c,e=>match e with
  | .Name x _=>(ic c x).map .var
  | .Tuple es _ _=>(IM (cT n c) es).map .tup
  | _=>none
noncomputable def cI (f:Expr->Option E) (c:Ci) (tg e:Expr):Option E:=match e with
 | .Call (.Name x _) args kws _=>if kws.isEmpty&&c.names.lookup x==some .globalImplicit&&(c.fns.lookup x).isNone&&!special x then
   if x="range" then match args with
    | [a]=>if noStar a then (f a).map .rng else none
    | _=>none
   else if x="enumerate" then match tg,args with
    | .Tuple _ _ _,[a]=>if noStar a then (f a).map .enm else none
    | _,_=>none
   else if x="zip" then match tg,args with
    | .Tuple _ _ _,a::r=>if r.length=1 then (kR f (a::r)).map .zip else none
    | _,_=>none
   else match f e with
    | some d=>if isIt d then none else some d
    | none=>none
  else match f e with
   | some d=>if isIt d then none else some d
   | none=>none
 | e=>match f e with
  | some d=>if isIt d then none else some d
  | none=>none
noncomputable def Av (f:Expr->Option E):List Expr->Option Es
 | []=>some .nil
 | [e]=>(f e).map λ d=>.cons d .nil
 | _=>none
noncomputable def Ex (f:Expr->Option E) (n:Nat) (c:Ci) (elt:Expr):List Comprehension->Option G
 | []=>(f elt).map .elt
 | ⟨tg,it,ifs,as⟩::gs=>if as=0/\isSet it=false then match cT n c tg,cI f c tg it,Av f ifs,Ex f n c elt gs with
  | some t,some d,some ds,some g=>some (.gen t [] d ds g)
  | _,_,_,_=>none else none
noncomputable def xB (N:List Str) (names:List (Str×NameKind)):List Nat:=(N.zipIdx.filter λ p=>names.lookup p.1==some .local||names.lookup p.1==some .cell).map (·.2)
noncomputable def qH (N:List Str) (scope:Scope) (onames:List (Str×NameKind)):Bool:=
 decide (scope.kind=.function)&&scope.names.all λ y=>(decide (y.2≠.cell)||decide (scope.names.lookup y.1=some .cell))&&(decide (y.2≠.local)||decide (scope.names.lookup y.1=some .local))&&(decide (y.2≠.free)||decide (onames.lookup y.1=some .cell)||decide (onames.lookup y.1=some .free))
noncomputable def qI (x:Str) (args:List Expr):Option Expr:=if x="list" then match args with
  | [.Call (.Name y _) [a] [] _]=>if y="range" then some a else none
  | _=>none else none
noncomputable def qJ (x:Str) (args:List Expr):Option Expr:=if x="len" then match args with
  | [.Call (.Name y _) [a] [] _]=>if y="set" then some a else none
  | _=>none else none
noncomputable def Aw (c:Ci) (e:Expr):Option (List (Str×W)):=match e with
 | .Name x _=>if special x then none else if c.names.lookup x=some .globalImplicit then c.cs.dic.lookup x else none
 | _=>none
noncomputable def lJ:List (Option Expr)->Option (List Str)
 | []=>some []
 | e::r=>match e with
  | some (.Constant (.str k) _ _)=>(lJ r).map (k::·)
  | _=>none
noncomputable def Hr (op:CmpOp) (kvs:List (Str×W)) (d:Option E):Option E:=match op with
 | .In=>d.map (.fus (.kin kvs))
 | .NotIn=>d.map (.fus (.knin kvs))
 | _=>none
noncomputable def cE:Nat->Ci->Expr->Option E
 | 0,_,_=>none
 | n+1,c,e=>Option.map (wz c e) <| match e with
  | .Name x _=>xA c x
  | .Constant k _ _=>match k with
   | .int i=>some (.cst (.int i))
   | .bool b=>some (.cst (.bl b))
   | .none=>some (.cst .non)
   | .str x=>some (.cst (.str x))
   | _=>none
  | .BinOp a op b _=>match cE n c a,cE n c b with
   | some d,some d'=>some (.bin op d d')
   | _,_=>none
  | .UnaryOp op a _=>match op with
   | .USub=>(cE n c a).map .neg
   | .Not=>(cE n c a).map .not
   | _=>none
  | .BoolOp op vs _=>IL (cE n c) op vs
  | .Compare a ops bs _=>match ops,bs with
   | [op],[b]=>if behindInMarks op b then none else match Aw c b with
    | some kvs=>Hr op kvs (cE n c a)
    | none=>match cE n c a,cE n c b with
     | some d,some d'=>some (.cmp op d d')
     | _,_=>none
   | [o1,o2],[b,b']=>if lastMarks [o1,o2] [b,b'] then none else match cE n c a,cE n c b,cE n c b' with
    | some d,some d',some d''=>some (.chain o1 o2 d d' d'')
    | _,_,_=>none
   | _,_=>none
  | .IfExp t a b _=>match cE n c t,cE n c a,cE n c b with
   | some d,some d',some d''=>some (.ife d d' d'')
   | _,_,_=>none
  | .Tuple es _ _=>(kR (cE n c) es).map .tup
  | .List es _=>(kR (cE n c) es).map .lst
  | .Subscript a s _=>match s with
   | .Slice lo hi st _=>match st with
    | none=>match cE n c a,cO (cE n c) lo,cO (cE n c) hi with
     | some d,some l,some h=>some (.slc d l h)
     | _,_,_=>none
    | some _=>none
   | s=>if isSlice s then none else match Aw c a with
    | some kvs=>(cE n c s).map (.fus (.kget kvs))
    | none=>match cE n c a,cE n c s with
     | some d,some d'=>some (.idx d d')
     | _,_=>none
  | .Dict keys values _=>if keys.length=values.length/\keys.length<=15/\keys≠[] then match lJ keys with
    | some ks=>(kR (cE n c) values).map λ ds=>.fus (.dict ks) (.tup ds)
    | none=>none
   else none
  | .Call f args kws pos=>if kws.isEmpty then match f with
    | .Name x _=>if special x then none else if c.names.lookup x=some .globalImplicit then match c.fns.lookup x with
      | some (i,np)=>match args with
       | []=>if np=0 then some (.call i .nil) else none
       | a::r=>if args.length=np then (kR (cE n c) (a::r)).map (.call i) else none
      | none=>match c.cs.ini.lookup x with
       | some _=>match args with
        | []=>none
        | a::r=>(kR (cE n c) (a::r)).map (.make x)
       | none=>if x="set" then match args with
        | []=>some .gJ
        | _=>none
       else
       match qJ x args with
       | some a=>if noStar a&&c.names.lookup ("set":Str)==some .globalImplicit&&(c.fns.lookup ("set":Str)).isNone then (cE n c a).map (.fus .jK) else none
       | none=>
       match qI x args with
       | some a=>if noStar a&&c.names.lookup ("range":Str)==some .globalImplicit&&(c.fns.lookup ("range":Str)).isNone then (cE n c a).map .lrng else none
       | none=>
       match qG.lookup x with
       | some b=>match args with
        | []=>none
        | a::r=>(kR (cE n c) (a::r)).map (.blt b)
       | none=>if x="isinstance" then match args with
         | [a,.Name t _]=>if special t then none else if noStar a&&c.names.lookup t==some .globalImplicit then if c.cs.isc.contains t then (cE n c a).map (.fus (.isc t)) else match xw.lookup t,cE n c a with
          | some tn,some d=>some (.isI d tn)
          | _,_=>none else none
         | _=>none
        else none
     else none
    | .Attribute o m apos=>if gk o then none else if (apos.endLine==pos.line) then match xy.lookup m,cE n c o with
      | some (nm,_),some d=>if args.length < 20 then (kR (cE n c) args).map (.meth d nm) else none
      | none,some d=>if args.length < 20 then (kR (cE n c) args).map (.mth d m) else none
      | _,_=>none
     else none
    | _=>none
   else none
  | .Attribute o f _=>if gk o then none else (cE n c o).map λ d=>.fld d f
  | .ListComp elt gens scope _=>match gens with
   | []=>none
   | ⟨tg,it,ifs,as⟩::gs=>
    let c':Ci:={c with names:=scope.names}
    if as=0/\isSet it=false/\qH c.N scope c.names=true then match cT n c' tg,cI (cE n c) c tg it,Av (cE n c') ifs,Ex (cE n c') n c' elt gs with
     | some t,some d,some ds,some g=>some (.comp (.gen t (xB c.N scope.names) d ds g))
     | _,_,_,_=>none
    else none
  | _=>none
noncomputable def IP (f:Expr->Option A):List Expr->Option As
 | []=>some .nil
 | e::es=>if noStar e then match f e with
  | none=>none
  | some d=>match IP f es with
   | none=>none
   | some ds=>some (.cons d ds) else none
noncomputable def cA:Nat->Ci->Expr->Option A
 | 0,_,_=>none
 | n+1,c,e=>match e with
  | .Name x _=>(ic c x).map λ i=>.pt (.var i)
  | .Tuple es _ _=>(IP (cA n c) es).map .tup
  | .Subscript o i _=>if isSlice i then none else match cE n c o,cE n c i with
   | some d,some d'=>some (.sub d d')
   | _,_=>none
  | _=>none
noncomputable def xC (f:Stmt->Option S):List Stmt->Option Ss
 | []=>some .nil
 | s::r=>match f s with
  | none=>none
  | some d=>match xC f r with
   | none=>none
   | some ds=>some (.cons d ds)
noncomputable def pairOf:Expr->Expr->Option (Str×Pos×Str×Pos×Expr×Expr)
 | .Tuple [.Name x px,.Name y py] _ _,.Tuple [a,b] _ _=>some (x,px,y,py,a,b)
 | _,_=>none
noncomputable def Ey (n:Nat) (c:Ci) (tg v:Expr):Option S:=if (mT tg&&mT v)||sr tg||!noStar tg then none else match cA n c tg,cE n c v with
 | some t,some d=>some (.asg t d)
 | _,_=>none
noncomputable def Ez (n:Nat) (c:Ci) (tg v:Expr):Option S:=match tg with
 | .Name x _=>match ic c x,cE n c v with
  | some i,some d=>some (.asg (.pt (.var i)) d)
  | _,_=>none
 | .Attribute o f _=>match cE n c o,cE n c v with
  | some d,some d'=>some (.fas d f d')
  | _,_=>none
 | tg=>
  match pairOf tg v with
  | some (x,px,y,py,a,b)=>if px.line==py.line&&c.names.lookup x==some .local&&c.names.lookup y==some .local&&x != y&&noStar a&&noStar b&&!([a,b].all (foldedForSure 8))&&!([a,b].all (constantsAlone 8)) then
    match ic c x,ic c y,cE n c a,cE n c b with
    | some i,some j,some d,some d'=>some (.asg (.pt (.tup (.cons (.var i) (.cons (.var j) .nil)))) (.tup (.cons d (.cons d' .nil))))
    | _,_,_,_=>none else none
  | none=>
  Ey n c tg v
noncomputable def cS:Nat->Ci->Stmt->Option S
 | 0,_,_=>none
 | n+1,c,s=>match s with
  | .Assign ts v _=>match ts with
   | [t]=>Ez n c t v
   | _=>none
  | .AugAssign t op v _=>match t with
   | .Name x _=>if op=.Add\/op=.Sub then match ic c x,cE n c v with
    | some i,some d=>some (.aug i op d)
    | _,_=>none else none
   | _=>none
  | .Expr v _=>if mS v then none else (cE n c v).map .expr
  | .Return o _=>match o with
   | some v=>(cE n c v).map .ret
   | none=>some .retN
  | .If t a b _=>match cE n c t,xC (cS n c) a,xC (cS n c) b with
   | some d,some x,some y=>some (.ife d x y)
   | _,_,_=>none
  | .For tg it body els _=>match els with
   | []=>if isSet it then none else match cT n c tg,cI (cE n c) c tg it,xC (cS n c) body with
    | some t,some d,some x=>some (.for_ t d x)
    | _,_,_=>none
   | _=>none
  | .While t body els _=>match els with
   | []=>match cE n c t,xC (cS n c) body with
    | some d,some x=>some (.while_ d x)
    | _,_=>none
   | _=>none
  | .Pass _=>some .pass
  | .Break _=>some .brk
  | .Continue _=>some .cont
  | .Raise _ _ _=>some .never
  | .Try body hs els fin _=>match hs with
   | _::_=>match els with
    | []=>match fin with
     | []=>(xC (cS n c) body).map λ x=>.ife (.cst (.bl true)) x .nil
     | _=>none
    | _=>none
   | _=>none
  | _=>none
structure Ok (X:L2.Cx) (cl:Cl) (C:D.Cx) (c:Ci):Prop where
 N:X.N=c.N
 nd:c.N.Nodup
 vis:∀{x:Str} {k:NameKind},c.names.lookup x=some k->(k=.local\/k=.cell\/k=.free)->FE X.env.scope x
 loc:∀{x:Str} {k:NameKind},c.names.lookup x=some k->(k=.local\/k=.cell)->L2.Loc X.env.scope x/\(X.fn x=true\/X.env.scope.names.lookup x=some .local)
 cel:∀{x:Str},(c.names.lookup x=some .cell\/c.names.lookup x=some .free)->X.env.scope.names.lookup x=some .cell\/X.env.scope.names.lookup x=some .free
 glb:∀{x:Str},c.names.lookup x=some .globalImplicit->Gl X x
 calm:X.calm=true
 units:UN X cl
 hand:X.A.handled=none
 blt:∀x∈jX,X.mg x=none
 fn:∀{x:Str} {i np:Nat},c.fns.lookup x=some (i,np)->∃(k:Nat) (fa:Addr) (fd:FuncData) (ps:List Str),ps.length=np/\cX k X.A/\X.mg x=some (.ref fa)/\PySem.W.keepIn X.K (.ref fa)=true/\Binds X.K fd ps []/\eN X.prog X.w X.K X.mg X.base t7 k fa fd ps (u7 X.K cl ps.length (C.call i))
 gl:∀{x:Str} {w:W},c.gl.lookup x=some w->∃u v,X.mg x=some u/\RelV v u/\∀β H,RW X.K β H w v
 cs:c.cs=C.cs
 fld:∀{d f:Str},C.cs.flds.contains (d,f)=true->tV X.K (aW X.K d)/\fP X.K (aW X.K d) f
 mth:∀{d f:Str} {i:Nat},C.cs.mths.lookup (d,f)=some i->BP X cl C d f i
 ini:∀{d:Str} {i:Nat},C.cs.ini.lookup d=some i->BR X cl C d i
 dic:∀{x:Str} {kvs:List (Str×W)},C.cs.dic.lookup x=some kvs->TopK X.K X.w X.mg x kvs
 isc:∀{x:Str},C.cs.isc.contains x=true->X.mg x=some (.ref (aW X.K x))/\wC X.K (aW X.K x)
section
variable {env:Env}
theorem bK (h:noStar e=true):starEach (e::es) env=(false,eval e env)::starEach es env:=by
 cases e<;>first | rfl | cases h
theorem dD:∀{es:List Expr} {ds:Es},kR f es=some ds->(backTo pos (starEach es env)).any (·.1)=false
 | [],_,_=>rfl
 | e::es,ds,h=>by
  unfold kR at h;split at h
  ·rename_i hs;split at h
   ·cases h
   ·split at h
    ·cases h
    ·rename_i ds' h2;rw [bK hs];show ((false||(backTo pos (starEach es env)).any (·.1)))=false;rw [dD h2]; rfl
  ·cases h
theorem mU:∀{es:List Expr} {ds:Es},kR f es=some ds->(backTo pos (starEach es env)).all (λ x=>!x.1)=true
 | [],_,_=>rfl
 | e::es,ds,h=>by
  unfold kR at h;split at h
  ·rename_i hs;split at h
   ·cases h
   ·split at h
    ·cases h
    ·rename_i ds' h2;rw [bK hs];show ((true&&(backTo pos (starEach es env)).all (λ x=>!x.1)))=true;rw [mU h2]; rfl
  ·cases h
theorem fV (h:kR f (e::es)=some ds):noStar e=true/\∃d ds',f e=some d/\kR f es=some ds'/\ds=.cons d ds':=by
 unfold kR at h;split at h
 ·rename_i hs;split at h
  ·cases h
  ·rename_i d h1;split at h
   ·cases h
   ·rename_i ds' h2;cases h;exact ⟨hs,d,ds',h1,h2,rfl⟩
 ·cases h
theorem jY (h:noStar e=true):assignEach (e::es) env=(false,assign e env)::assignEach es env:=by
 cases e<;>first | rfl | cases h
theorem su (h:isSlice b=false):jx b:=by
 intro o i;cases b<;>first | rfl | cases h
theorem mV {m:Str} (h:gk o=false):attributeBase o m env (eval o env)=eval o env:=by
 unfold attributeBase;split
 ·cases h
 ·rfl
theorem mW (h:isSet e=false) (x:Value):foldedSetIterable e env x=pure x:=by
 cases e<;>first | rfl | cases h
theorem sy {v:Expr} {t:Option Expr} {l:Nat} (h:mS v=false):swapsWith v t l env=pure false:=by
 cases v<;>first | rfl | cases h
noncomputable def Es.len:Es->Nat
 | .nil=>0
 | .cons _ r=>r.len+1
theorem mX:∀{es:List Expr} {ds:Es},kR f es=some ds->ds.len=es.length
 | [],_,h=>by cases h; rfl
 | e::es,ds,h=>by
  obtain ⟨_,d,ds',_,h2,rfl⟩:=fV h;show ds'.len+1=_;rw [mX h2]; rfl
theorem jZ:∀{ds:Es} {ρ:Loc} {m m':Mem} {ws:List W},bg C ds ρ m=.ok ws m'->ws.length=ds.len
 | .nil,_,_,_,_,h=>by simp only [bg] at h; cases h; rfl
 | .cons d ds,_,_,_,_,h=>by
  simp only [bg] at h;obtain ⟨w,m1,h1,h⟩:=R.ah h;obtain ⟨ws,m2,h2,h⟩:=R.ah h;cases h;rw [length_cons,jZ h2]; rfl
end
theorem lookup_mem {β:Type} {x:Str} {b:β}:∀{l:List (Str×β)},l.lookup x=some b->(x,b)∈l:=λ {l} h=>PySem.mem_of_lookup h
theorem uE {x:Str} {b:B} (h:qG.lookup x=some b):x∈jX/\((∃id,wD b=.builtin id/\bootBuiltins x=some (.builtin id))\/∃id,wD b=.type id/\bootBuiltins x=some (.type id)):=by
 have hm:=lookup_mem h;simp only [qG,mem_cons,Prod.mk.injEq,not_mem_nil,or_false] at hm;rcases hm with ⟨rfl,rfl⟩ | ⟨rfl,rfl⟩ | ⟨rfl,rfl⟩ | ⟨rfl,rfl⟩ | ⟨rfl,rfl⟩ | ⟨rfl,rfl⟩ | ⟨rfl,rfl⟩ | ⟨rfl,rfl⟩ | ⟨rfl,rfl⟩ | ⟨rfl,rfl⟩ | ⟨rfl,rfl⟩
  | ⟨rfl,rfl⟩
 all_goals first
  | exact ⟨by decide +kernel,.inl ⟨_,rfl,by decide +kernel⟩⟩
  | exact ⟨by decide +kernel,.inr ⟨_,rfl,by decide +kernel⟩⟩
theorem xD {x:Str} {b:String} (h:xw.lookup x=some b):x∈jX/\b∈cy/\bootBuiltins x=some (.type b):=by
 have hm:=lookup_mem h;simp only [xw,mem_cons,Prod.mk.injEq,not_mem_nil,or_false] at hm;rcases hm with ⟨rfl,rfl⟩ | ⟨rfl,rfl⟩ | ⟨rfl,rfl⟩ | ⟨rfl,rfl⟩ | ⟨rfl,rfl⟩ | ⟨rfl,rfl⟩
 all_goals exact ⟨by decide +kernel,by decide,by decide +kernel⟩
theorem xE (hu:UN X cl) {m:Str} {nm:String} (h:xy.lookup m=some (nm,id)):PlainAttrs (GW (iI nm))/\Slot (GW (iI nm)) m id/\typeOf (.builtin id)=pure (.type "method_descriptor")/\u6 X id (SM X cl nm):=by
 have hm:=lookup_mem h;simp only [xy,mem_cons,Prod.mk.injEq,not_mem_nil,or_false] at hm;rcases hm with ⟨rfl,rfl,rfl⟩
  | ⟨rfl,rfl,rfl⟩
  | ⟨rfl,rfl,rfl⟩
  | ⟨rfl,rfl,rfl⟩
  | ⟨rfl,rfl,rfl⟩
  | ⟨rfl,rfl,rfl⟩
  | ⟨rfl,rfl,rfl⟩
  | ⟨rfl,rfl,rfl⟩
  | ⟨rfl,rfl,rfl⟩
 ·exact ⟨PySem.F.plainAttrs_list,PySem.F.slot_list_append,PySem.F.type_list_append,uy⟩
 ·exact ⟨PySem.F.plainAttrs_list,PySem.F.slot_list_clear,PySem.F.type_list_clear,wI⟩
 ·exact ⟨PySem.F.plainAttrs_list,PySem.F.slot_list_pop,PySem.F.type_list_pop,DR⟩
 ·exact ⟨PySem.F.plainAttrs_list,PySem.F.slot_list_insert,PySem.F.type_list_insert,uz⟩
 ·exact ⟨PySem.F.plainAttrs_str,PySem.F.slot_str_join,PySem.F.type_str_join,z8⟩
 ·exact ⟨PySem.F.plainAttrs_set,PySem.F.slot_set_add,PySem.F.type_set_add,DS hu⟩
 ·exact ⟨PySem.F.plainAttrs_list,PySem.F.slot_list_count,PySem.F.type_list_count,wJ⟩
 ·exact ⟨PySem.F.plainAttrs_str,PySem.F.slot_str_endswith,PySem.F.type_str_endswith,z9⟩
 ·exact ⟨PySem.F.plainAttrs_str,PySem.F.slot_str_split,PySem.F.type_str_split,wK⟩
theorem fq {x:Str} (h:special x=false):(x==("__debug__":Str))=false/\(x==("__classdict__":Str))=false/\x≠"__name__":=by
 unfold special at h;simp only [Bool.or_eq_false_iff] at h;exact ⟨h.1.1,h.1.2,by simpa using h.2⟩
section
variable {X:L2.Cx} {cl:Cl} {C:D.Cx} {c:Ci}
theorem Ok.slot (o:Ok X cl C c) {x:Str} (h:mR x c.N=some i):X.N[i]?=some x:=by rw [o.N]; exact oN h
theorem Ax (o:Ok X cl C c) {x:Str} (h:xA c x=some d):PE X (.Name x pos) (SE X cl (ai C d))/\∀ρ m,aT C d ρ m=(ai C d ρ m).bind λ w m=>D.truthy m w:=by
 unfold xA at h;split at h
 ·cases h
 ·rename_i hs;obtain ⟨h1,h2,h3⟩:=fq (by simpa using hs);split at h
  ·rename_i hk;simp only [Option.map_eq_some_iff] at h;obtain ⟨i,hi,rfl⟩:=h;exact ⟨wA (o.slot hi) (o.vis hk (.inl rfl)) h1 h2,λ _ _=>by simp only [aT,ai]⟩
  ·rename_i hk;simp only [Option.map_eq_some_iff] at h;obtain ⟨i,hi,rfl⟩:=h;exact ⟨wA (o.slot hi) (o.vis hk (.inr (.inl rfl))) h1 h2,λ _ _=>by simp only [aT,ai]⟩
  ·rename_i hk;simp only [Option.map_eq_some_iff] at h;obtain ⟨i,hi,rfl⟩:=h;exact ⟨wA (o.slot hi) (o.vis hk (.inr (.inr rfl))) h1 h2,λ _ _=>by simp only [aT,ai]⟩
  ·rename_i hk;simp only [Option.map_eq_some_iff] at h;obtain ⟨w,hw,rfl⟩:=h;exact ⟨GF (o.glb hk) (o.gl hw) h1,λ _ _=>by simp only [aT,ai]⟩
  ·cases h
def Tells (X:L2.Cx) (cl:Cl) (C:D.Cx) (e:Expr) (d:E):Prop:=PE X e (SE X cl (ai C d))/\PT X e (ST X cl (aT C d))
theorem aE (h:PE X e (SE X cl (ai C d))) (he:∀whole,isTrue e X.env whole=(do let v <-whole; standAt e.pos; holding [v] (PySem.truthy v))) (hd:∀ρ m,aT C d ρ m=(ai C d ρ m).bind λ w m=>D.truthy m w):Tells X cl C e d:=⟨h,BB h he hd⟩
theorem xF (h:Tells X cl C e d):Tells X cl C e (wz c e d):=by
 unfold wz;split
 ·rename_i hc;simp only [Bool.and_eq_true] at hc;refine ⟨BO h.1,BB (BO h.1) ?_ λ _ _=>by simp only [aT,ai]⟩;have:=hc.1;cases e<;>first | (intro _; rfl) | cases this
 ·exact h
theorem gG (ih:∀e d,f e=some d->Tells X cl C e d):∀{es:List Expr} {ds:Es},kR f es=some ds->PA X es (SA X cl (bg C ds))
 | [],_,h=>by cases h; exact BC
 | e::es,ds,h=>by
  obtain ⟨hs,d,ds',h1,h2,rfl⟩:=fV h;exact qu (ih e d h1).1 (gG ih h2) (bK hs)
theorem Hs (ih:∀e d,f e=some d->Tells X cl C e d) {e:Option Expr} {d:Oe} (h:cO f e=some d):PO X e (Gx X cl (kN C d)):=by
 cases e with
 | none=>cases h; exact DK
 | some e=>
  simp only [cO,Option.map_eq_some_iff] at h;obtain ⟨d',h1,rfl⟩:=h;exact DL (ih e d' h1).1
theorem BS {f:Expr->Option E} (ih:∀e d,f e=some d->Tells X cl C e d) {op:BoolOp} {pos:Pos}:∀{es:List Expr} {d:E},IL f op es=some d->PE X (.BoolOp op es pos) (SE X cl (ai C d))/\PW X (.BoolOp op es pos) (ST X cl (aT C d))
 | [],_,h=>by cases h
 | [e],d,h=>by
  have q:=ih e d h;cases op with
  | And=>exact ⟨ve q.1,y9 q.2⟩
  | Or=>exact ⟨ve q.1,Cu q.2⟩
 | e::e'::r,d,h=>by
  unfold IL at h;split at h
  ·cases h
  ·rename_i d1 h1;split at h
   ·cases h
   ·rename_i d2 h2;obtain ⟨q1,q2⟩:=BS (pos:=pos) ih h2;obtain ⟨p1,p2⟩:=ih e d1 h1;cases op with
    | And=>cases h; exact ⟨GN p1 q1,w_and p2 q2⟩
    | Or=>cases h; exact ⟨KC p1 q1,w_or p2 q2⟩
theorem Ay {a c':Expr} {dc:E} {o1 o2:CmpOp} (hu:UN X cl) (ha:PE X a (SE X cl (ai C da))) (hb:PE X b (SE X cl (ai C db))) (hc:PE X c' (SE X cl (ai C dc))) (hm:lastMarks [o1,o2] [b,c']=false) :
  PT X (.Compare a [o1,o2] [b,c'] pos) (ST X cl (aT C (.chain o1 o2 da db dc))):=by
 refine PT.imp (vv (iL (cl:=cl) hu o1) (iL (cl:=cl) hu o2) ha hb hc hm) ?_;rintro σ H Q ⟨β,ρ,m,w,m',r,l,e,k⟩;simp only [aT,ai] at e;obtain ⟨x,m1,e1,e⟩:=R.ah e;obtain ⟨y,m2,e2,e⟩:=R.ah e;obtain ⟨z,m3,e3,e⟩:=R.ah e;refine ⟨β,ρ,m,x,m1,r,l,e1,fun β1 H1 v1 x1 r1 q1=>?_⟩;refine ⟨β1,ρ,m1,y,m2,r1,l.mono r x1,e2,fun β2 H2 v2 x2 r2 q2=>?_⟩;have l2:=(l.mono r x1).mono r1 x2;refine ⟨β2,m2,x,y,.bl z,m3,r2,q1.mono r1 x2,q2,by dsimp only; rw [e3]; rfl,fun β3 H3 v3 x3 r3 q3=>?_⟩;cases q3;refine ⟨z,rfl,?_⟩;have GP:=(x1.trans r1 x2).trans r2 x3;split at e
 ·rename_i hc;rw [if_pos hc];obtain ⟨u,m4,e4,e⟩:=R.ah e;refine ⟨β3,ρ,m3,u,m4,r3,l2.mono r2 x3,e4,fun β4 H4 v4 x4 r4 q4=>?_⟩;refine ⟨β4,m4,y,u,.bl w,m',r4,(q2.mono r2 x3).mono r3 x4,q4,by dsimp only; rw [e]; rfl,fun β5 H5 v5 x5 r5 q5=>?_⟩;cases q5;exact ⟨_,rfl,k _ _ ((GP.trans r3 x4).trans r4 x5) r5⟩
 ·rename_i hc;rw [if_neg hc];cases e;exact ⟨_,rfl,k _ _ GP r3⟩
theorem Ht {t a:Expr} {dt:E} (ht:PT X t (ST X cl (aT C dt))) (ha:PT X a (ST X cl (aT C da))) (hb:PT X b (ST X cl (aT C db))):PT X (.IfExp t a b pos) (ST X cl (aT C (.ife dt da db))):=by
 intro aa s σ H Q I h;obtain ⟨β,ρ,m,w,m',r,l,e,k⟩:=h;simp only [aT,ai] at e;obtain ⟨x,m1,e1,e⟩:=R.ah e;show wpAny _ _ (isTrue t X.env (eval t X.env) >>= λ z=>if z=true then isTrue a X.env (eval a X.env) else isTrue b X.env (eval b X.env)) _ _ s;refine wpAny_bind (bQ (ht aa s σ H (λ c H1=>c=x/\∃β1,Ext β H β1 H1/\Rel X.K cl β1 m1 H1) I ⟨β,ρ,m,x,m1,r,l,e1,fun β1 H1 x1 r1=>⟨rfl,β1,x1,r1⟩⟩) λ c s1 ⟨H1,I1,hc,β1,x1,r1⟩=>?_);subst hc;cases c with
 | true=>exact ha aa s1 σ H1 Q I1 ⟨β1,ρ,m1,w,m',r1,l.mono r x1,e,fun β2 H2 x2 r2=>k _ _ (x1.trans r1 x2) r2⟩
 | false=>exact hb aa s1 σ H1 Q I1 ⟨β1,ρ,m1,w,m',r1,l.mono r x1,e,fun β2 H2 x2 r2=>k _ _ (x1.trans r1 x2) r2⟩
end
section
variable {X:L2.Cx} {cl:Cl} {C:D.Cx} {c:Ci}
theorem dR (o:Ok X cl C c) {x:Str} (h:ic c x=some i):X.N[i]?=some x/\L2.Loc X.env.scope x/\(X.fn x=true\/X.env.scope.names.lookup x=some .local):=by
 unfold ic at h;split at h
 ·rename_i hk;exact ⟨o.slot h,o.loc hk (.inl rfl)⟩
 ·rename_i hk;exact ⟨o.slot h,o.loc hk (.inr rfl)⟩
 ·cases h
theorem EA (o:Ok X cl C c):X.N.Nodup:=by rw [o.N]; exact o.nd
theorem BU {f:Expr->Option T} (ih:∀e t,f e=some t->PG X e (SG X cl (fK C (.pt t)))):∀{es:List Expr} {ts:Ts},IM f es=some ts->
  pP X es (Fg X cl (eE C (T.qA ts)))/\(assignEach es X.env).length=(T.qA ts).len/\(assignEach es X.env).findIdx? (·.1)=none
 | [],_,h=>by cases h; exact ⟨wR,rfl,rfl⟩
 | e::es,ts,h=>by
  unfold IM at h;split at h
  ·rename_i hs;split at h
   ·cases h
   ·rename_i d h1;split at h
    ·cases h
    ·rename_i ds h2;cases h;obtain ⟨q1,q2,q3⟩:=BU ih h2;have e1:=jY (env:=X.env) (es:=es) hs;refine ⟨rT (ih e d h1) q1 (by rw [e1]; rfl),?_,?_⟩
     ·rw [e1,length_cons,q2]; rfl
     ·rw [e1,findIdx?_cons];simp [q3]
  ·cases h
theorem oO (o:Ok X cl C c):∀(n:Nat) (e:Expr) (t:T),cT n c e=some t->PG X e (SG X cl (fK C (.pt t)))
 | 0,_,_,h=>by cases h
 | n+1,e,t,h=>by
  unfold cT at h;split at h
  ·simp only [Option.map_eq_some_iff] at h;obtain ⟨i,hi,rfl⟩:=h;obtain ⟨h1,h2,h3⟩:=dR o hi;exact BF (EA o) h1 h2 h3
  ·simp only [Option.map_eq_some_iff] at h;obtain ⟨ts,hi,rfl⟩:=h;obtain ⟨q1,q2,q3⟩:=BU (λ e t h=>oO o n e t h) hi;exact D0 (BG o.calm q1 q2 q3)
  ·cases h
theorem uF {x:Str} {a:Expr} (h:qJ x args=some a):∃py p2,x="len"/\args=[.Call (.Name "set" py) [a] [] p2]:=by
 unfold qJ at h;split at h
 ·rename_i hx;split at h
  ·split at h
   ·rename_i hy;cases h;subst hx hy;exact ⟨_,_,rfl,rfl⟩
   ·cases h
  ·cases h
 ·cases h
theorem uG {x:Str} {a:Expr} (h:qI x args=some a):∃py p2,x="list"/\args=[.Call (.Name "range" py) [a] [] p2]:=by
 unfold qI at h;split at h
 ·rename_i hx;split at h
  ·split at h
   ·rename_i hy;cases h;subst hx hy;exact ⟨_,_,rfl,rfl⟩
   ·cases h
  ·cases h
 ·cases h
theorem xG (h:isIt d=false):∀ρ m,cz C d ρ m=(ai C d ρ m).bind fE:=by
 intro ρ m;cases d<;>first | (simp [isIt] at h; done) | (simp only [cz,ai]; done) | rfl
theorem mY (ih:∀e d,f e=some d->Tells X cl C e d) (h:(match f e with | some d=>if isIt d=true then none else some d | none=>none)=some d):PI X tg e (SI X cl (cz C d)):=by
 split at h
 ·rename_i d' h1;split at h
  ·cases h
  ·rename_i hi;cases h;exact GX (ih _ _ h1).1 (xG (by simpa using hi))
 ·cases h
theorem sA (o:Ok X cl C c) (ih:∀e d,f e=some d->Tells X cl C e d) (h:cI f c tg e=some d):PI X tg e (SI X cl (cz C d)):=by
 unfold cI at h;split at h
 ·rename_i x p args kws pos;split at h
  ·rename_i hk;simp only [Bool.and_eq_true,beq_iff_eq,isEmpty_iff] at hk;obtain ⟨⟨⟨hk1,hk2⟩,hk3⟩,hk4⟩:=hk;subst hk1;split at h
   ·rename_i hx;subst hx;have hm:=o.blt "range" (by decide +kernel);split at h
    ·split at h
     ·rename_i hs;simp only [Option.map_eq_some_iff] at h;obtain ⟨d',h1,rfl⟩:=h;exact GY (o.glb hk2) hm (ih _ _ h1).1 (bK hs)
     ·cases h
    ·cases h
   ·split at h
    ·rename_i hx;subst hx;have hm:=o.blt "enumerate" (by decide +kernel);split at h
     ·split at h
      ·rename_i hs;simp only [Option.map_eq_some_iff] at h;obtain ⟨d',h1,rfl⟩:=h;exact GZ (o.glb hk2) hm (ih _ _ h1).1 (bK hs)
      ·cases h
     ·cases h
    ·
     split at h
     ·rename_i hx;subst hx;have hm:=o.blt "zip" (by decide +kernel);split at h
      ·split at h
       ·rename_i hr;simp only [Option.map_eq_some_iff] at h;obtain ⟨ds,h1,rfl⟩:=h;obtain ⟨hst,d1,ds1,z1,z2,rfl⟩:=fV h1;exact G9 (o.glb hk2) hm (gG ih h1) (fun ρ m ws m' e=>by
         have:=jZ e;have:=mX h1;simp only [length_cons] at this;omega) (bK hst) λ _=>dD z2
       ·cases h
      ·cases h
     ·
      exact mY ih h
  ·exact mY ih h
 ·exact mY ih h
theorem mZ (ih:∀e d,f e=some d->Tells X cl C e d) (h:Av f es=some ds):kI X es (ST X cl (bz C ds)):=by
 unfold Av at h;split at h
 ·cases h; exact An
 ·simp only [Option.map_eq_some_iff] at h;obtain ⟨d,h1,rfl⟩:=h;exact Ao (ih _ _ h1).2
 ·cases h
theorem j0 {gs:List Comprehension} {g:G} (h:Ex f n c elt gs=some g):∀g',gs[0]?=some g'->g'.is_async=0/\∀(env:Env) x,foldedSetIterable g'.iter env x=pure x:=by
 intro g' hg;cases gs with
 | nil=>simp at hg
 | cons g0 gs=>
  simp at hg;subst hg;obtain ⟨tg,it,ifs,as⟩:=g0;unfold Ex at h;split at h
  ·rename_i hs;exact ⟨hs.1,λ env x=>mW hs.2 x⟩
  ·cases h
theorem qK (o:Ok X cl C c) (hx:X.xe=λ _ _=>False) (ih:∀e d,f e=some d->Tells X cl C e d) {Δ:Addr}:∀{gs:List Comprehension} {g:G} {d0:Nat},Ex f n c elt gs=some g->(∀i,gens[d0+1+i]?=gs[i]?)->
  PB X (.ListComp elt gens scope pos) elt gens d0 Δ (SB X cl Δ (gE C g))
 | [],g,d0,h,hg=>by
  simp only [Ex,Option.map_eq_some_iff] at h;obtain ⟨d,h1,rfl⟩:=h;exact Ec hx (by simpa using hg 0) (ih _ _ h1).1
 | ⟨tg,it,ifs,as⟩::gs,g,d0,h,hg=>by
  unfold Ex at h;split at h
  ·rename_i hs;split at h
   ·rename_i t d ds g' h1 h2 h3 h4;cases h;obtain ⟨rfl,hs2⟩:=hs;have hh:=j0 h4;refine G4 hx o.calm (by simpa using hg 0) (λ g2 z6=>?_) (sA o ih h2) (oO o n _ _ h1) (mZ ih h3) (qK o hx ih (d0:=d0+1) h4 λ i=>?_)
    ·have:=hg 1;rw [z6] at this;obtain ⟨a1,a2⟩:=hh g2 (by simpa using this.symm);exact ⟨a1,a2 _⟩
    ·have:=hg (i+1);rw [show d0+1+1+i=d0+1+(i+1) by omega,this];simp
   ·cases h
  ·cases h
theorem bD {env:Env}:∀{names:List (Str×NameKind)} {x:Str} {k:NameKind},names.lookup x=some k->
  (names.map λ (n,k)=>if (k==NameKind.free&&env.scope.kind==.function&&env.kindOf n==some .cell) then (n,NameKind.cell) else (n,k)).lookup x=some k\/
  (k=.free/\(names.map λ (n,k)=>if (k==NameKind.free&&env.scope.kind==.function&&env.kindOf n==some .cell) then (n,NameKind.cell) else (n,k)).lookup x=some .cell)
 | [],_,_,h=>by simp at h
 | (n,k0)::r,x,k,h=>by
  have ih:=@bD env r x k;show List.lookup x ((if (k0==NameKind.free&&env.scope.kind==.function&&env.kindOf n==some .cell)=true then (n,NameKind.cell) else (n,k0))::(r.map λ (n,k)=>if (k==NameKind.free&&env.scope.kind==.function&&env.kindOf n==some .cell) then (n,NameKind.cell) else (n,k)))=some k\/(k=.free/\List.lookup x ((if (k0==NameKind.free&&env.scope.kind==.function&&env.kindOf n==some .cell)=true then (n,NameKind.cell) else (n,k0))::(r.map λ (n,k)=>if (k==NameKind.free&&env.scope.kind==.function&&env.kindOf n==some .cell) then (n,NameKind.cell) else (n,k)))=some .cell);cases hx:x==n with
  | true=>
   simp only [lookup_cons,hx] at h;cases h
   by_cases hc:(k0==NameKind.free&&env.scope.kind==.function&&env.kindOf n==some .cell)=true
   ·rw [if_pos hc];have hk:k0=.free:=by
     simp only [Bool.and_eq_true] at hc;simpa using hc.1.1
    exact .inr ⟨hk,by simp only [lookup_cons,hx]⟩
   ·rw [if_neg hc];exact .inl (by simp only [lookup_cons,hx])
  | false=>
   simp only [lookup_cons,hx] at h;have:=ih h;split<;>(simp only [lookup_cons,hx]; exact this)
theorem Ok.comp (o:Ok X cl C c) (hc:qH c.N scope c.names=true):gI X.N (xB c.N scope.names) scope X.env.scope/\∀cl' s₀ H₀ fp pn,Ok (X.comp scope cl' s₀ H₀ fp pn) cl C {c with names:=scope.names}:=by
 unfold qH at hc;simp only [Bool.and_eq_true,decide_eq_true_eq,all_eq_true,Bool.or_eq_true] at hc;obtain ⟨h1,h2⟩:=hc;refine ⟨⟨h1,λ y hy hl=>?_,λ y hy hl=>?_,λ p hp hl=>?_,λ y hy hf=>?_⟩,λ cl' s₀ H₀ fp pn=>⟨o.N,o.nd,λ {x k} hk hv=>?_,λ {x k} hk hv=>?_,λ {x} hk=>?_,λ {x} hk=>?_,o.calm,⟨o.units.un,o.units.P,o.units.w,o.units.gd⟩,o.hand,o.blt,o.fn,o.gl,o.cs,o.fld,o.mth,o.ini,o.dic,o.isc⟩⟩
 ·rcases (h2 y hy).1.1 with z | z
  ·exact absurd hl z
  ·exact z
 ·rcases (h2 y hy).1.2 with z | z
  ·exact absurd hl z
  ·exact z
 ·unfold xB;rw [o.N] at hp;refine List.mem_map.mpr ⟨p,List.mem_filter.mpr ⟨hp,by rcases hl with hl | hl<;>simp [hl]⟩,rfl⟩
 ·rcases (h2 y hy).2 with (z | z) | z
  ·exact absurd hf z
  ·exact o.cel (.inl z)
  ·exact o.cel (.inr z)
 ·rcases bD (env:=X.env) hk with z | ⟨z1,z⟩
  ·rcases hv with rfl | rfl | rfl
   ·exact .inl z
   ·exact .inr (.inl z)
   ·exact .inr (.inr z)
  ·exact .inr (.inl z)
 ·rcases hv with rfl | rfl
  ·rcases bD (env:=X.env) hk with z | ⟨z1,z⟩
   ·exact ⟨.inl z,.inr z⟩
   ·cases z1
  ·rcases bD (env:=X.env) hk with z | ⟨z1,z⟩
   ·exact ⟨.inr z,.inl (by simpa using hk)⟩
   ·cases z1
 ·rcases hk with hk | hk
  ·rcases bD (env:=X.env) hk with z | ⟨z1,z⟩
   ·exact .inl z
   ·cases z1
  ·rcases bD (env:=X.env) hk with z | ⟨z1,z⟩
   ·exact .inr z
   ·exact .inl z
 ·rcases bD (env:=X.env) hk with z | ⟨z1,z⟩
  ·exact z
  ·cases z1
end
theorem sC {c:Ci} (o:Ok X cl C c) {kvs:List (Str×W)} (h:Aw c e=some kvs):∃x p,e=.Name x p/\TopK X.K X.w X.mg x kvs/\Gl X x/\(x==("__debug__":Str))=false:=by
 unfold Aw at h;split at h
 ·rename_i x p;split at h
  ·cases h
  ·rename_i hs;split at h
   ·rename_i hg;rw [o.cs] at h;exact ⟨x,p,rfl,o.dic h,o.glb hg,(fq (by simpa using hs)).1⟩
   ·cases h
 ·cases h
theorem oQ:∀{keys:List (Option Expr)} {ks:List Str},lJ keys=some ks->keys.all (·.isSome)=true
 | [],_,_=>rfl
 | e::r,ks,h=>by
  unfold lJ at h;split at h
  ·simp only [Option.map_eq_some_iff] at h;obtain ⟨ks',h1,rfl⟩:=h;rw [all_cons,oQ h1];rfl
  ·cases h
theorem xH (ih:∀e d,f e=some d->PE X e (SE X cl (ai C d))):∀{keys:List (Option Expr)} {values:List Expr} {ks:List Str} {ds:Es},lJ keys=some ks->kR f values=some ds->keys.length=values.length->Fe X pos keys values (se X cl C ks ds)
 | [],[],ks,ds,hk,hv,_=>by cases hk; cases hv; exact zJ
 | [],_::_,_,_,_,_,hl=>by simp at hl
 | _::_,[],_,_,_,_,hl=>by simp at hl
 | e::r,v::vs,ks,ds,hk,hv,hl=>by
  unfold lJ at hk;split at hk
  ·simp only [Option.map_eq_some_iff] at hk;obtain ⟨ks',h1,rfl⟩:=hk;unfold kR at hv;split at hv
   ·split at hv
    ·cases hv
    ·rename_i d h2;split at hv
     ·cases hv
     ·rename_i ds' h3;cases hv;exact vM vd (ih v d h2) (xH ih h1 h3 (by simpa using hl))
   ·cases hv
  ·cases hk
theorem ie:∀(n:Nat) (X:L2.Cx) (c:Ci) (e:Expr) (d:E),Ok X cl C c->cE n c e=some d->Tells X cl C e d
 | 0,_,_,_,_,_,h=>by cases h
 | n+1,X,c,e,d,o,h=>by
  have ih:∀e d,cE n c e=some d->Tells X cl C e d:=λ e d h=>ie n X c e d o h;unfold cE at h;simp only [Option.map_eq_some_iff] at h;obtain ⟨d,h,rfl⟩:=h;refine xF ?_;split at h
  ·
   obtain ⟨q1,q2⟩:=Ax o h;exact aE q1 (λ _=>rfl) q2
  ·
   split at h
   ·cases h; exact aE GB (λ _=>rfl) λ _ _=>by simp only [aT,ai]
   ·cases h; exact aE KA (λ _=>rfl) λ _ _=>by simp only [aT,ai]
   ·cases h; exact aE GC (λ _=>rfl) λ _ _=>by simp only [aT,ai]
   ·cases h; exact aE GD (λ _=>rfl) λ _ _=>by simp only [aT,ai]
   ·cases h
  ·
   split at h
   ·rename_i d1 d2 h1 h2;cases h;exact aE (GG (ih _ _ h1).1 (ih _ _ h2).1) (λ _=>rfl) λ _ _=>by simp only [aT,ai]
   ·cases h
  ·
   split at h
   ·simp only [Option.map_eq_some_iff] at h;obtain ⟨d',h1,rfl⟩:=h;exact aE (GJ (ih _ _ h1).1) (λ _=>rfl) λ _ _=>by simp only [aT,ai]
   ·simp only [Option.map_eq_some_iff] at h;obtain ⟨d',h1,rfl⟩:=h;exact ⟨GK (ih _ _ h1).1,GL (ih _ _ h1).2⟩
   ·cases h
  ·
   obtain ⟨q1,q2⟩:=BS ih h;exact ⟨q1,q2.pt⟩
  ·
   split at h
   ·split at h
    ·cases h
    ·rename_i hm;split at h
     ·rename_i kvs hk;obtain ⟨x,p,rfl,hT,hg,hd⟩:=sC o hk;unfold Hr at h;split at h
      ·simp only [Option.map_eq_some_iff] at h;obtain ⟨d1,h1,rfl⟩:=h;exact ⟨Ho hT hg hd (ih _ _ h1).1,Hq hT hg hd (ih _ _ h1).1⟩
      ·simp only [Option.map_eq_some_iff] at h;obtain ⟨d1,h1,rfl⟩:=h;exact ⟨Er hT hg hd (ih _ _ h1).1,Et hT hg hd (ih _ _ h1).1⟩
      ·cases h
     split at h
     ·rename_i d1 d2 h1 h2;cases h;exact ⟨GH o.units (ih _ _ h1).1 (ih _ _ h2).1 (by simpa using hm),GI o.units (ih _ _ h1).1 (ih _ _ h2).1 (by simpa using hm)⟩
     ·cases h
   ·split at h
    ·cases h
    ·rename_i hm;split at h
     ·rename_i d1 d2 d3 h1 h2 h3;cases h;have hm:=(Bool.not_eq_true _).mp hm;exact ⟨zW o.units (ih _ _ h1).1 (ih _ _ h2).1 (ih _ _ h3).1 (vt (iL o.units _) (iL o.units _) (ih _ _ h1).1 (ih _ _ h2).1 (ih _ _ h3).1 hm),Ay o.units (ih _ _ h1).1 (ih _ _ h2).1 (ih _ _ h3).1 hm⟩
     ·cases h
   ·cases h
  ·
   split at h
   ·rename_i d1 d2 d3 h1 h2 h3;cases h;exact ⟨GO (ih _ _ h1).2 (ih _ _ h2).1 (ih _ _ h3).1,Ht (ih _ _ h1).2 (ih _ _ h2).2 (ih _ _ h3).2⟩
   ·cases h
  ·
   simp only [Option.map_eq_some_iff] at h;obtain ⟨ds,h1,rfl⟩:=h;exact aE (GQ (gG ih h1)) (λ _=>rfl) λ _ _=>by simp only [aT,ai]
  ·simp only [Option.map_eq_some_iff] at h;obtain ⟨ds,h1,rfl⟩:=h;exact aE (GR (gG ih h1)) (λ _=>rfl) λ _ _=>by simp only [aT,ai]
  ·
   split at h
   ·split at h
    ·split at h
     ·rename_i d1 d2 d3 h1 h2 h3;cases h;exact aE (GU (ih _ _ h1).1 (Hs ih h2) (Hs ih h3)) (λ _=>rfl) λ _ _=>by simp only [aT,ai]
     ·cases h
    ·cases h
   ·split at h
    ·cases h
    ·rename_i hs;split at h
     ·rename_i kvs hk;obtain ⟨x,p,rfl,hT,hg,hd⟩:=sC o hk;simp only [Option.map_eq_some_iff] at h;obtain ⟨d1,h1,rfl⟩:=h;exact aE (Eu hT hg hd (ih _ _ h1).1 (su ((Bool.not_eq_true _).mp hs))) (λ _=>rfl) λ _ _=>by simp only [aT,ai]
     split at h
     ·rename_i d1 d2 h1 h2;cases h;exact aE (GS (ih _ _ h1).1 (ih _ _ h2).1 (su ((Bool.not_eq_true _).mp hs))) (λ _=>rfl) λ _ _=>by simp only [aT,ai]
     ·cases h
  ·
   split at h
   ·rename_i hc;split at h
    ·rename_i ks hk;simp only [Option.map_eq_some_iff] at h;obtain ⟨ds,h1,rfl⟩:=h;exact aE (Ew (xH (λ e d h=>(ih e d h).1) hk h1 hc.1) (oQ hk) hc.1 hc.2.2 hc.2.1) (λ _=>rfl) λ _ _=>by simp only [aT,ai]
    ·cases h
   ·cases h
  ·
   rename_i f args kws pos;split at h
   ·rename_i hk;have hk:kws=[]:=by simpa using hk
    subst hk;split at h
    ·rename_i x p;split at h
     ·cases h
     ·rename_i tX;obtain ⟨hs1,hs2,hs3⟩:=fq (by simpa using tX);split at h
      ·rename_i Mz;have hg:=o.glb Mz;split at h
       ·rename_i i np hf;split at h
        ·split at h
         ·rename_i hnp;cases h;obtain ⟨k,fa,fd,ps,e1,e2,e3,e4,e5,e6⟩:=o.fn hf;exact aE (Ar e6 e2 hg e3 e4 e5 (by rw [e1]; exact hnp) hs1) (λ _=>rfl) λ _ _=>by simp only [aT,ai]
         ·cases h
        ·rename_i a r;split at h
         ·rename_i hlen;simp only [Option.map_eq_some_iff] at h;obtain ⟨ds,h1,rfl⟩:=h;obtain ⟨k,fa,fd,ps,e1,e2,e3,e4,e5,e6⟩:=o.fn hf;obtain ⟨hst,d1,ds1,z1,z2,rfl⟩:=fV h1;refine aE (s_call e6 e2 hg e3 e4 e5 (gG ih h1) (fun ρ m ws m' hw=>?_) hs1 (bK hst) (dD z2)) (λ _=>rfl) λ _ _=>by simp only [aT,ai]
          rw [jZ hw,mX h1,e1];exact hlen
         ·cases h
       ·split at h
        ·rename_i ix hix;split at h
         ·cases h
         ·rename_i a r;simp only [Option.map_eq_some_iff] at h;obtain ⟨ds,h1,rfl⟩:=h;obtain ⟨hst,d1,ds1,z1,z2,rfl⟩:=fV h1;rw [o.cs] at hix;exact aE (Eo hix (o.ini hix) hg (gG ih h1) hs1 (bK hst) (dD z2)) (λ _=>rfl) λ _ _=>by simp only [aT,ai]
        split at h
        ·rename_i xJ;subst xJ;split at h
         ·cases h;exact aE (DU o.units hg (o.blt _ (by decide +kernel))) (λ _=>rfl) λ _ _=>by simp only [aT,ai]
         ·cases h
        split at h
        ·rename_i a hl;split at h
         ·rename_i bZ;simp only [Bool.and_eq_true,beq_iff_eq] at bZ;simp only [Option.map_eq_some_iff] at h;obtain ⟨d1,h1,rfl⟩:=h;obtain ⟨py,p2,rfl,rfl⟩:=uF hl;exact aE (Ep o.hand o.units.un hg (o.blt _ (by decide +kernel)) (o.glb bZ.1.2) (o.blt _ (by decide +kernel)) (ih _ _ h1).1 (bK bZ.1.1)) (λ _=>rfl) λ _ _=>by simp only [aT,ai]
         ·cases h
        split at h
        ·rename_i a hl;split at h
         ·rename_i bZ;simp only [Bool.and_eq_true,beq_iff_eq] at bZ;simp only [Option.map_eq_some_iff] at h;obtain ⟨d1,h1,rfl⟩:=h;obtain ⟨py,p2,rfl,rfl⟩:=uG hl;exact aE (DP o.hand hg (o.blt _ (by decide +kernel)) (o.glb bZ.1.2) (o.blt _ (by decide +kernel)) (ih _ _ h1).1 (bK bZ.1.1)) (λ _=>rfl) λ _ _=>by simp only [aT,ai]
         ·cases h
        split at h
        ·rename_i b hb;split at h
         ·cases h
         ·rename_i a r;simp only [Option.map_eq_some_iff] at h;obtain ⟨ds,h1,rfl⟩:=h;obtain ⟨hst,d1,ds1,z1,z2,rfl⟩:=fV h1;obtain ⟨hm,⟨id,y1,y2⟩ | ⟨id,y1,y2⟩⟩:=uE hb
          ·exact aE (DN o.units o.calm o.hand y1 hg (o.blt _ hm) y2 (gG ih h1) hs3 hs1 (bK hst) (dD z2)) (λ _=>rfl) λ _ _=>by simp only [aT,ai]
          ·exact aE (DO o.units o.calm o.hand y1 hg (o.blt _ hm) y2 (gG ih h1) hs3 hs1 (bK hst) (dD z2)) (λ _=>rfl) λ _ _=>by simp only [aT,ai]
        ·split at h
         ·rename_i hx;subst hx;split at h
          ·rename_i a t p2;split at h
           ·cases h
           ·rename_i KU;obtain ⟨hq1,hq2,hq3⟩:=fq (by simpa using KU);split at h
            ·rename_i bZ;simp only [Bool.and_eq_true,beq_iff_eq] at bZ;split at h
             ·rename_i EB;simp only [Option.map_eq_some_iff] at h;obtain ⟨d1,h1,rfl⟩:=h;rw [o.cs] at EB;exact aE (Hj hg (o.blt _ (by decide +kernel)) (o.glb bZ.2) (o.isc EB).1 (o.isc EB).2 (ih _ _ h1).1 hq1 (bK bZ.1)) (λ _=>rfl) λ _ _=>by simp only [aT,ai]
             split at h
             ·rename_i tn d1 y1 y2;cases h;obtain ⟨z1,z2,z3⟩:=xD y1;exact aE (GV z2 hg (o.blt _ (by decide +kernel)) (o.glb bZ.2) (o.blt _ z1) z3 (ih _ _ y2).1 hq3 hq1 (bK bZ.1)) (λ _=>rfl) λ _ _=>by simp only [aT,ai]
             ·cases h
            ·cases h
          ·cases h
         ·cases h
      ·cases h
    ·rename_i ob mm apos;split at h
     ·cases h
     ·rename_i hc0;split at h
      ·rename_i hline;split at h
       ·rename_i nm id d1 y1 y2;split at h
        ·rename_i hlen;simp only [Option.map_eq_some_iff] at h;obtain ⟨ds,h1,rfl⟩:=h;obtain ⟨w0,w1,w2,w3⟩:=xE (X:=X) (cl:=cl) o.units y1;have hbase:=mV (env:=X.env) (m:=mm) (by simpa using hc0:gk ob=false);cases args with
         | nil=>
          cases h1;exact aE (Aa rfl w0 w1 w2 w3 (ih _ _ y2).1 hbase hline) (λ _=>rfl) λ _ _=>by simp only [aT,ai]
         | cons a r=>
          obtain ⟨hst,d2,ds1,z1,z2,rfl⟩:=fV h1;refine aE (DT rfl w0 w1 w2 w3 (ih _ _ y2).1 (gG ih h1) hbase ?_ hline (bK hst) (dD z2)) (λ _=>rfl) λ _ _=>by simp only [aT,ai]
          rw [mU h1];have:(a::r).length+0+0 < 30:=Nat.lt_of_lt_of_le hlen (by decide);show (true&&true&&decide _)=true;exact decide_eq_true this
        ·cases h
       ·rename_i d1 y1 y2;split at h
        ·rename_i hlen;simp only [Option.map_eq_some_iff] at h;obtain ⟨ds,h1,rfl⟩:=h;have hbase:=mV (env:=X.env) (m:=mm) (by simpa using hc0:gk ob=false);refine aE (Hl (λ hx=>o.mth hx) (ih _ _ y2).1 (gG ih h1) hbase ?_ hline ?_) (λ _=>rfl) λ _ _=>by simp only [aT,ai]
         ·rw [mU h1];have:args.length+0+0 < 30:=Nat.lt_of_lt_of_le hlen (by decide);show (true&&true&&decide _)=true;exact decide_eq_true this
         ·cases args with
          | nil=>cases h1; exact .inl ⟨rfl,rfl⟩
          | cons a r=>
           obtain ⟨hst,d2,ds1,z1,z2,rfl⟩:=fV h1;exact .inr ⟨a,r,rfl,bK hst,dD z2⟩
        ·cases h
       ·cases h
      ·cases h
    ·cases h
   ·cases h
  ·
   rename_i ob f p;split at h
   ·cases h
   ·rename_i hc0;simp only [Option.map_eq_some_iff] at h;obtain ⟨d1,h1,rfl⟩:=h;exact aE (Hi (λ hx=>o.fld hx) (ih _ _ h1).1 (mV (by simpa using hc0:gk ob=false))) (λ _=>rfl) λ _ _=>by simp only [aT,ai]
  ·
   rename_i elt gens scope pos;split at h
   ·cases h
   ·rename_i tg it ifs as gs;split at h
    ·rename_i bZ;obtain ⟨rfl,xJ,hco⟩:=bZ;split at h
     ·rename_i t d1 ds g h1 h2 h3 h4;cases h;obtain ⟨ok,oc⟩:=o.comp hco;have Hu:∀cl' s₀ H₀ fp pn e d,cE n {c with names:=scope.names} e=some d->Tells (X.comp scope cl' s₀ H₀ fp pn) cl C e d:=λ cl' s₀ H₀ fp pn e d h=>ie n _ _ e d (oc cl' s₀ H₀ fp pn) h;refine aE (Eg o.calm ok rfl (by simpa using j0 h4) (sA o ih h2) (λ _ _ _ _ _=>oO (oc _ _ _ _ _) n _ _ h1) (λ _ _ _ _ _=>mZ (Hu _ _ _ _ _) h3)
       (λ _ _ _ _ _ Δ=>qK (oc _ _ _ _ _) rfl (Hu _ _ _ _ _) h4 λ i=>by simp [Nat.add_comm]) (λ x=>mW xJ x) (eval_ListComp _ _ _ _)) (λ _=>rfl) λ _ _=>by simp only [aT,ai]
     ·cases h
    ·cases h
  ·cases h
section
variable {env:Env}
theorem Az {i:Expr} (h:isSlice i=false) (v:Value):assign (.Subscript o i pos) env v=(do
   let ov <-holding [v] (eval o env)
   let iv <-holding [v,ov] (eval i env)
   standAt pos
   holding [v,ov,iv] (setItem ov iv v)
   release [v,ov,iv] []):=by
 cases i<;>first | rfl | cases h
theorem AA {v:Expr} {l:Nat} (h:sr tg=false):swapsWithSole [tg] v l env=pure false:=by
 show swapsWith v (some tg) l env=pure false;cases v<;>first | rfl | (cases tg<;>first | rfl | cases h)
theorem AB {v:Expr} {f:Str} {l:Nat}:swapsWith v (some (.Attribute o f p)) l env=pure false:=by
 cases v<;>rfl
theorem uH {v:Expr} (h:(mT tg&&mT v)=false):swappedStores [tg] v env=pure none:=by
 cases tg<;>first | rfl | (cases v<;>first | rfl | cases h)
theorem oR {x:Str} {pt u5:Pos} {kt k2:Nat} {a:Expr} (bk:env.blockKind=.function) (k1:env.kindOf x=some .local) (MA:env.kindOf y=some .local) (hl:px.line=py.line) (hxy:x≠y) (ha:noStar a=true) (hb:noStar b=true)
  (f1:[a,b].all (foldedForSure 8)=false) (f2:[a,b].all (constantsAlone 8)=false):swappedStores [.Tuple [.Name x px,.Name y py] kt pt] (.Tuple [a,b] k2 u5) env=pure (some [x,y]):=by
 have MB:∀(f:Expr->Bool),(∀e,noStar e=true->f e=false)->[a,b].any f=false:=λ f h=>by simp [h a ha,h b hb]
 have hfm:∀(f:Expr->Option Str),f (.Name x px)=some x->f (.Name y py)=some y->[Expr.Name x px,Expr.Name y py].filterMap f=[x,y]:=λ f h1 h2=>by simp [h1,h2]
 have e2:[x,y].eraseDups=[x,y]:=by
  rw [eraseDups_cons];have:(y==x)=false:=by simpa using hxy.symm
  simp [this,eraseDups_cons]
 unfold swappedStores;simp only [bk,f1,f2];refine (if_neg (by simp)).trans ?_;rw [MB _ (λ e he=>by cases e<;>first | rfl | cases he)];refine (if_neg (by simp)).trans ?_;rw [hfm _ (by simp [k1,Expr.pos]) (by simp [MA,Expr.pos,hl]),e2];rfl
end
theorem uI {c:Ci} {v:Expr} (hc:mS v=true) (h:cE n c v=some d):∃elt gens scope pos,v=.ListComp elt gens scope pos:=by
 cases n with
 | zero=>cases h
 | succ n=>
  cases v with
  | ListComp elt gens scope pos=>exact ⟨_,_,_,_,rfl⟩
  | SetComp elt gens scope pos=>unfold cE at h; simp at h
  | DictComp k v gens scope pos=>unfold cE at h; simp at h
  | _=>cases hc
section
variable {X:L2.Cx} {cl:Cl} {C:D.Cx} {c:Ci}
theorem BV {f:Expr->Option A} (ih:∀e t,f e=some t->PG X e (SG X cl (fK C t))):∀{es:List Expr} {ts:As},IP f es=some ts->
  pP X es (Fg X cl (eE C ts))/\(assignEach es X.env).length=ts.len/\(assignEach es X.env).findIdx? (·.1)=none
 | [],_,h=>by cases h; exact ⟨wR,rfl,rfl⟩
 | e::es,ts,h=>by
  unfold IP at h;split at h
  ·rename_i hs;split at h
   ·cases h
   ·rename_i d h1;split at h
    ·cases h
    ·rename_i ds h2;cases h;obtain ⟨q1,q2,q3⟩:=BV ih h2;have e1:=jY (env:=X.env) (es:=es) hs;refine ⟨rT (ih e d h1) q1 (by rw [e1]; rfl),?_,?_⟩
     ·rw [e1,length_cons,q2]; rfl
     ·rw [e1,findIdx?_cons];simp [q3]
  ·cases h
theorem BW (o:Ok X cl C c):∀(n:Nat) (e:Expr) (t:A),cA n c e=some t->PG X e (SG X cl (fK C t))
 | 0,_,_,h=>by cases h
 | n+1,e,t,h=>by
  unfold cA at h;split at h
  ·simp only [Option.map_eq_some_iff] at h;obtain ⟨i,hi,rfl⟩:=h;obtain ⟨h1,h2,h3⟩:=dR o hi;exact BF (EA o) h1 h2 h3
  ·simp only [Option.map_eq_some_iff] at h;obtain ⟨ts,hi,rfl⟩:=h;obtain ⟨q1,q2,q3⟩:=BV (λ e t h=>BW o n e t h) hi;exact BG o.calm q1 q2 q3
  ·split at h
   ·cases h
   ·rename_i hs;split at h
    ·rename_i d1 d2 h1 h2;cases h;exact G0 (ie n X c _ _ o h1).1 (ie n X c _ _ o h2).1 (Az ((Bool.not_eq_true _).mp hs))
    ·cases h
  ·cases h
theorem j3 {f:Stmt->Option S} (ih:∀s d,f s=some d->PS X s (SS X cl (bN C d))):∀{es:List Stmt} {ds:Ss},xC f es=some ds->iX X es (SS X cl (aK C ds))
 | [],_,h=>by cases h; exact D4
 | e::es,ds,h=>by
  unfold xC at h;split at h
  ·cases h
  ·rename_i d h1;split at h
   ·cases h
   ·rename_i ds h2;cases h;exact Ac (ih e d h1) (j3 ih h2)
theorem xK (o:Ok X cl C c) {x:Str} (ht:ic c x=some i) (h:cE n c (.ListComp elt gens scope pos)=some d) :
  PS X (.Assign [.Name x p] (.ListComp elt gens scope pos) spos) (SS X cl (bN C (.asg (.pt (.var i)) d))):=by
 obtain ⟨h1,h2,h3⟩:=dR o ht;have e:swapsWith (.ListComp elt gens scope pos) (some (.Name x p)) spos.line X.env=pure (X.env.blockKind==.function&&X.env.kindOf x==some .local&&p.line==(Expr.ListComp elt gens scope pos).pos.line&&!(scope.names.any λ (n,k)=>n==x&&(k==.local||k==.cell))):=rfl;cases hb:(X.env.blockKind==.function&&X.env.kindOf x==some .local&&p.line==(Expr.ListComp elt gens scope pos).pos.line&&!(scope.names.any λ (n,k)=>n==x&&(k==.local||k==.cell))) with
 | false=>
  rw [hb] at e;exact wU (EA o) h1 h2 (ie n X c _ _ o h).1 e h3
 | true=>
  rw [hb] at e;cases n with
  | zero=>cases h
  | succ n=>
   have ih:∀e d,cE n c e=some d->Tells X cl C e d:=λ e d h=>ie n X c e d o h;unfold cE at h;simp only [Option.map_eq_some_iff] at h;obtain ⟨d,h,rfl⟩:=h;have wrap:PS X (.Assign [.Name x p] (.ListComp elt gens scope pos) spos) (SS X cl (bN C (.asg (.pt (.var i)) d)))->PS X (.Assign [.Name x p] (.ListComp elt gens scope pos) spos) (SS X cl (bN C (.asg (.pt (.var i)) (wz c (.ListComp elt gens scope pos) d)))):=λ q=>by
    unfold wz;split
    ·exact El q
    ·exact q
   refine wrap ?_;split at h
   ·cases h
   ·rename_i tg it ifs as gs;split at h
    ·rename_i bZ;obtain ⟨rfl,xJ,hco⟩:=bZ;split at h
     ·rename_i t d1 ds g y1 y2 y3 y4;cases h;obtain ⟨ok,oc⟩:=o.comp hco;have Hu:∀cl' s₀ H₀ fp pn e d,cE n {c with names:=scope.names} e=some d->Tells (X.comp scope cl' s₀ H₀ fp pn) cl C e d:=λ cl' s₀ H₀ fp pn e d h=>ie n _ _ e d (oc cl' s₀ H₀ fp pn) h;exact Am o.calm (EA o) h1 h2 ok (j0 y4) (sA o ih y2) (λ _ _ _ _ _=>oO (oc _ _ _ _ _) n _ _ y1) (λ _ _ _ _ _=>mZ (Hu _ _ _ _ _) y3)
       (λ _ _ _ _ _ Δ=>qK (oc _ _ _ _ _) rfl (Hu _ _ _ _ _) y4 λ i=>by simp [Nat.add_comm]) (λ x=>mW xJ x) e h3
     ·cases h
    ·cases h
theorem AD {v a:Expr} {x:Str} (h:pairOf tg v=some (x,px,y,py,a,b)):∃kt pt k2 u5,tg=.Tuple [.Name x px,.Name y py] kt pt/\v=.Tuple [a,b] k2 u5:=by
 unfold pairOf at h;split at h
 ·cases h; exact ⟨_,_,_,_,rfl,rfl⟩
 ·cases h
theorem AE (o:Ok X cl C c) (ih:∀e d,cE n c e=some d->Tells X cl C e d) {v:Expr} {d:S} (h:Ey n c tg v=some d):PS X (.Assign [tg] v spos) (SS X cl (bN C d)):=by
 unfold Ey at h;split at h
 ·cases h
 ·rename_i bZ;simp only [Bool.or_eq_true,Bool.not_eq_true',not_or,Bool.not_eq_false] at bZ;obtain ⟨⟨c1,c2⟩,c3⟩:=bZ;split at h
  ·rename_i t d1 y1 y2;cases h;exact D5 (ih _ _ y2).1 (BW o n _ _ y1) (AA ((Bool.not_eq_true _).mp c2)) (uH ((Bool.not_eq_true _).mp c1)) (by rw [jY c3]; rfl)
  ·cases h
theorem AF (o:Ok X cl C c) (hsc:X.env.scope.names=c.names) (hkd:X.env.scope.kind=.function) {v:Expr} {d:S} (h:Ez n c tg v=some d):PS X (.Assign [tg] v spos) (SS X cl (bN C d)):=by
 have ih:∀e d,cE n c e=some d->Tells X cl C e d:=λ e d h=>ie n X c e d o h;unfold Ez at h;split at h
 ·rename_i x p;split at h
  ·rename_i i d1 y1 y2;cases h;obtain ⟨h1,h2,h3⟩:=dR o y1
   by_cases hc:mS v=true
   ·obtain ⟨_,_,_,_,rfl⟩:=uI hc y2;exact xK o y1 y2
   ·exact wU (EA o) h1 h2 (ih _ _ y2).1 (sy ((Bool.not_eq_true _).mp hc)) h3
  ·cases h
 ·split at h
  ·rename_i d1 d2 y1 y2;cases h;exact En (λ hx=>o.fld hx) (ih _ _ y1).1 (ih _ _ y2).1 AB
  ·cases h
 ·
  split at h
  ·rename_i x px y py a b hpair;obtain ⟨kt,pt,k2,u5,rfl,rfl⟩:=AD hpair;split at h
   ·rename_i bZ;simp only [Bool.and_eq_true,beq_iff_eq,bne_iff_ne,Bool.not_eq_true'] at bZ;obtain ⟨⟨⟨⟨⟨⟨⟨c1,c2⟩,c3⟩,c4⟩,c5⟩,c6⟩,c7⟩,c8⟩:=bZ;split at h
    ·rename_i i j d1 d2 y1 y2 y3 y4;cases h;obtain ⟨h1,h2,h3⟩:=dR o y1;obtain ⟨g1,g2,g3⟩:=dR o y2;have hij:i≠j:=by
      rintro rfl;rw [h1] at g1;exact c4 (Option.some.inj g1)
     have kx:X.env.scope.names.lookup x=some .local:=by rw [hsc]; exact c2
     have ky:X.env.scope.names.lookup y=some .local:=by rw [hsc]; exact c3
     have bk:X.env.blockKind=.function:=by
      unfold Env.blockKind;rw [hkd]; split<;>rfl
     exact D6 o.calm (EA o) h1 g1 hij kx ky (qu (ih _ _ y3).1 (qu (ih _ _ y4).1 BC (bK c6)) (bK c5)) (oR bk kx ky c1 c4 c5 c6 c7 c8) rfl
    ·cases h
   ·cases h
  ·
   exact AE o ih h
theorem EC {h0:ExceptHandler} {hs:List ExceptHandler} {x:Ss} (hx:∀e s,¬X.xe e s) (hb:iX X body (SS X cl (aK C x))):PS X (.Try body (h0::hs) [] [] pos) (SS X cl (bN C (.ife (.cst (.bl true)) x .nil))):=by
 intro aa s σ H Dd I ⟨β,ρ,m,f,m',r,l,e,k⟩;simp only [bN,aT,R.bind,D.truthy,if_true] at e;refine wpAny_Try_except (wpAny_mono (hb aa s σ H Dd I ⟨β,ρ,m,f,m',r,l,e,k⟩) (λ fl s1 hq=>?_) λ e s1 z=>absurd z (hx e s1));cases fl with
 | next=>exact wpAny_execs_nil hq
 | brk=>exact hq
 | cont=>exact hq
 | ret u=>exact hq
theorem BX (o:Ok X cl C c) (hsc:X.env.scope.names=c.names) (hkd:X.env.scope.kind=.function) (hp:PassesOwn (model X.prog X.w) X.A X.env X.xe) (hx:∀e s,¬X.xe e s):∀(n:Nat) (s:Stmt) (d:S),cS n c s=some d->PS X s (SS X cl (bN C d))
 | 0,_,_,h=>by cases h
 | n+1,s,d,h=>by
  have ih:∀e d,cE n c e=some d->Tells X cl C e d:=λ e d h=>ie n X c e d o h;have Hv:∀s d,cS n c s=some d->PS X s (SS X cl (bN C d)):=λ s d h=>BX o hsc hkd hp hx n s d h;unfold cS at h;split at h
  ·split at h
   ·exact AF o hsc hkd h
   ·cases h
  ·split at h
   ·split at h
    ·rename_i hop;split at h
     ·rename_i i d1 y1 y2;cases h;obtain ⟨h1,h2,h3⟩:=dR o y1;exact D7 hop (EA o) h1 h2 (ih _ _ y2).1 h3
     ·cases h
    ·cases h
   ·cases h
  ·split at h
   ·cases h
   ·rename_i hc;simp only [Option.map_eq_some_iff] at h;obtain ⟨d1,h1,rfl⟩:=h;exact Ad (ih _ _ h1).1 (sy ((Bool.not_eq_true _).mp hc))
  ·split at h
   ·simp only [Option.map_eq_some_iff] at h;obtain ⟨d1,h1,rfl⟩:=h;exact D8 (ih _ _ h1).1
   ·cases h; exact Ae
  ·split at h
   ·rename_i d1 x y y1 y2 y3;cases h;exact G2 (ih _ _ y1).2 (j3 Hv y2) (j3 Hv y3)
   ·cases h
  ·split at h
   ·split at h
    ·cases h
    ·rename_i hs;split at h
     ·rename_i t d1 x y1 y2 y3;cases h;exact Ea hp o.calm (sA o ih y2) (oO o n _ _ y1) (j3 Hv y3) (λ x=>mW ((Bool.not_eq_true _).mp hs) x)
     ·cases h
   ·cases h
  ·split at h
   ·split at h
    ·rename_i d1 x y1 y2;cases h;exact wW hp (ih _ _ y1).2 (j3 Hv y2)
    ·cases h
   ·cases h
  ·cases h; exact Af
  ·cases h; exact D9
  ·cases h; exact Ag
  ·cases h; exact wV
  ·split at h
   ·split at h
    ·split at h
     ·simp only [Option.map_eq_some_iff] at h;obtain ⟨x,h1,rfl⟩:=h;exact EC hx (j3 Hv h1)
     ·cases h
    ·cases h
   ·cases h
  ·cases h
end
mutual
noncomputable def aD:W->Bool
 | .tup xs=>ak xs
 | .fz xs=>ak xs
 | .obj _ _ vs=>ak vs
 | .ref _=>false
 | .non=>true
 | .bl _=>true
 | .int _=>true
 | .str _=>true
noncomputable def ak:List W->Bool
 | []=>true
 | x::r=>aD x&&ak r
end
mutual
noncomputable def sD (k:Nat):W->W
 | .tup xs=>.tup (jq k xs)
 | .fz xs=>.fz (jq k xs)
 | .obj c ks vs=>.obj c ks (jq k vs)
 | .ref n=>.ref (k+n)
 | .non=>.non
 | .bl b=>.bl b
 | .int i=>.int i
 | .str x=>.str x
noncomputable def jq (k:Nat):List W->List W
 | []=>[]
 | x::r=>sD k x::jq k r
end
noncomputable def uJ (k:Nat):List (Str×W)->List (Str×W)
 | []=>[]
 | (f,x)::r=>(f,sD k x)::uJ k r
noncomputable def AG (k:Nat):O->O
 | .lst xs=>.lst (jq k xs)
 | .ins c fs=>.ins c (uJ k fs)
 | .set ks=>.set ks
 | .dic fs=>.dic (uJ k fs)
noncomputable def aH (f:List W->Mem->R W) (ws:List W) (m:Mem):R W:=
 if ak ws then match f ws [] with
  | .ok w m1=>if aD w then .ok w m else .ok (sD m.length w) (m++m1.map (AG m.length))
  | .no=>.no
 else f ws m
set_option genInjectivity false in
structure Pg where
 fns:List Fn
 cs:Cs
 fuel:Nat
noncomputable def runN (p:Pg):Nat->Nat->List W->Mem->R W
 | 0,_,_,_=>.no
 | n+1,f,ws,m=>match p.fns[f]? with
  | none=>.no
  | some d=>if ws.length=d.np then (aK ⟨λ f=>aH (runN p n f),p.fuel,p.cs⟩ d.body (dQ d.nl ws) m).bind outF else .no
theorem RW.pure (q:RW K β H w v):aD w=true->RW K β' H w v:=
 RW.rec (motive_1:=λ w v _=>aD w=true->RW K β' H w v) (motive_2:=λ w v _=>ak w=true->aZ K β' H w v) (λ _=>.non) (λ b _=>.bl b) (λ b _=>.int b) (λ b _=>.str b) (λ h _ i e=>.tup h (i e)) (λ h _ i e=>.fz h (i e)) (λ h z _ i e=>.obj h z (i e)) (λ q e=>nomatch (show false=true from e)) (λ _=>.nil) (λ _ _ a b e=>.cons (a (Bool.and_eq_true_iff.mp e).1) (b (Bool.and_eq_true_iff.mp e).2)) q
theorem aZ.pure {w:List W} {v:List V} (q:aZ K β H w v) (e:ak w=true):aZ K β' H w v:=by
 induction w generalizing v with
 | nil=>cases q; exact .nil
 | cons x w ih=>cases q with | cons a b=>exact .cons (a.pure (Bool.and_eq_true_iff.mp e).1) (ih b (Bool.and_eq_true_iff.mp e).2)
theorem RW.shift (q:RW K γ H w v):RW K (β++γ) H (sD β.length w) v:=
 RW.rec (motive_1:=λ w v _=>RW K (β++γ) H (sD β.length w) v) (motive_2:=λ w v _=>aZ K (β++γ) H (jq β.length w) v) .non .bl .int .str (λ h _ i=>.tup h i) (λ h _ i=>.fz h i) (λ h e _ i=>.obj h e i) (λ q=>.ref (by rw [getElem?_append_right (by omega),Nat.add_sub_cancel_left]; exact q)) .nil (λ _ _ a b=>.cons a b) q
theorem aZ.shift {w:List W} {v:List V} (q:aZ K γ H w v):aZ K (β++γ) H (jq β.length w) v:=by
 induction w generalizing v with
 | nil=>cases q; exact .nil
 | cons x w ih=>cases q with | cons a b=>exact .cons a.shift (ih b)
theorem eT.shift {w:List (Str×W)} {v:List (Str×V)} (q:eT K γ H w v):eT K (β++γ) H (uJ β.length w) v:=by
 induction q with
 | nil=>exact .nil
 | cons a b ih=>exact .cons a.shift ih
theorem RO.shift {a:Addr} {o:O} (q:RO K cl γ H a o):RO K cl (β++γ) H a (AG β.length o):=by
 cases o with
 | lst ws=>obtain ⟨vs,e,t⟩:=q; exact ⟨vs,e,t.shift⟩
 | ins c fs=>obtain ⟨dx,fs',e,t⟩:=q; exact ⟨dx,fs',e,t.shift⟩
 | dic fs=>obtain ⟨fs',e,t⟩:=q; exact ⟨fs',e,t.shift⟩
 | set ks=>exact q
theorem iO {np:Nat} {f:List W->Mem->R W} {Q:VK} {E:XK} (h:u7 K cl np (aH f) vs H Q E):u7 K cl np f vs H Q E:=by
 obtain ⟨hl,β,m,ws,w,m',r,t,e,k⟩:=h;unfold aH at e;split at e
 ·rename_i hp;split at e
  ·rename_i w1 m1 e1;refine ⟨hl,[],[],ws,w1,m1,⟨rfl,nodup_nil,λ {n o a} h=>by simp at h⟩,t.pure hp,e1,fun β' H' v x r' q=>?_⟩;have kp:∀{a:Addr} {o:HO},H a=some o->H' a=some o:=λ h=>x.keep h (by simp) (by simp);have x2:Ext β H β H':=⟨⟨[],by simp,by simp⟩,λ h _ _=>kp h⟩;have r2:Rel K cl β m H':=⟨r.len,r.nd,λ h1 h2=>by
    have q:=r.obj h1 h2;obtain ⟨u,e,_⟩:=q.ex;exact q.mono r x2 ((kp e).trans e.symm)⟩
   split at e
   ·rename_i hw;cases e;exact k β H' v x2 r2 (q.pure hw)
   ·cases e;obtain ⟨γ,hγ,fresh⟩:=x.pre;rw [nil_append] at hγ;subst hγ;rw [<-r.len] at k;refine k (β++β') H' v ⟨⟨β',rfl,fresh⟩,λ h _ _=>kp h⟩ ⟨by simp [r.len,r'.len],?_,λ {n o a} h1 h2=>?_⟩ q.shift
    ·rw [nodup_append];refine ⟨r.nd,r'.nd,λ a ha b hb=>?_⟩;rintro rfl;obtain ⟨u,e,_⟩:=r.ex ha;rw [fresh a hb] at e; cases e
    ·by_cases hn:n < β.length
     ·rw [getElem?_append_left (by rw [<-r.len]; exact hn)] at h1;rw [getElem?_append_left hn] at h2;exact (r2.obj h1 h2).sub λ {n a} h=>by rw [getElem?_append_left (List.getElem?_eq_some_iff.mp h).1]; exact h
     ·rw [getElem?_append_right (by rw [<-r.len]; omega),getElem?_map] at h1;rw [getElem?_append_right (by omega)] at h2;simp only [Option.map_eq_some_iff] at h1;obtain ⟨o',h1,rfl⟩:=h1;rw [<-r.len] at h1;exact (r'.obj h1 h2).shift
  ·cases e
 ·exact ⟨hl,β,m,ws,w,m',r,t,e,k⟩
theorem xM {f:List W->Mem->R W} {ws:List W} (h:aH f ws m=.ok w m'):∃m1 w1 m2,f ws m1=.ok w1 m2:=by
 unfold aH at h;split at h
 ·split at h
  ·exact ⟨_,_,_,by assumption⟩
  ·cases h
 ·exact ⟨_,_,_,h⟩
section
variable {P:Program} {w:World} {K:PySem.W.Frag} {mg:Str->Option Value} {base:Heap} {fns:List (Str×(Nat×Nat))} {gl:List (Str×W)} {fz:List Pos} {p:Pg}
def FD (K:PySem.W.Frag) (p:Pg) (fns:List (Str×(Nat×Nat))) (gl:List (Str×W)) (fz:List Pos) (i:Nat) (x:Str) (f:Addr) (fd:FuncData) (ps:List Str):Prop:=
 ∃(qual:Str) (st:Stmt) (N:List Str) (body:Ss),Iu K x qual st f fd/\jv N ps (bB st)/\xC (cS 60 ⟨N,(bB st).names,fns,gl,p.cs,fz⟩) (dN st)=some body/\p.fns[i]?=some ⟨ps.length,N.length,body⟩/\Binds K fd ps []
structure FA (K:PySem.W.Frag) (w:World) (mg:Str->Option Value) (p:Pg) (fns:List (Str×(Nat×Nat))) (gl:List (Str×W)) (fz:List Pos):Prop where
 blt:∀x∈jX,mg x=none
 glo:∀{x:Str} {w:W},gl.lookup x=some w->∃u v,mg x=some u/\RelV v u/\∀β H,RW K β H w v
 fn:∀{x:Str} {i np:Nat},fns.lookup x=some (i,np)->∃f fd ps,ps.length=np/\FD K p fns gl fz i x f fd ps/\mg x=some (.ref f)
 mth:∀{c x:Str} {i:Nat},p.cs.mths.lookup (c,x)=some i->∃f fd ps,FD K p fns gl fz i x f fd ps/\tV K (aW K c)/\Meth K (aW K c) x f
 ini:∀{c:Str} {i:Nat},p.cs.ini.lookup c=some i->∃f fd ps,FD K p fns gl fz i "__init__" f fd ps/\Mk K (aW K c) f/\mg c=some (.ref (aW K c))
 fld:∀{c x:Str},p.cs.flds.contains (c,x)=true->tV K (aW K c)/\fP K (aW K c) x
 dic:∀{x:Str} {kvs:List (Str×W)},p.cs.dic.lookup x=some kvs->TopK K w mg x kvs
 isc:∀{x:Str},p.cs.isc.contains x=true->mg x=some (.ref (aW K x))/\wC K (aW K x)
theorem RL.start {ws:List W} {N:List Str} (t:aZ K β H ws vs):RL K β H (dQ N.length ws) (L2.start N vs):=by
 refine ⟨?_,λ {i w} h=>?_⟩
 ·unfold dQ L2.start;simp [t.length]
 ·unfold dQ at h
  by_cases hi:i < ws.length
  ·rw [getElem?_append_left (by simpa using hi),getElem?_map] at h;simp only [Option.map_eq_some_iff] at h;obtain ⟨w',h1,h2⟩:=h;cases h2;obtain ⟨v,e,q⟩:=t.get h1;refine ⟨v,?_,q⟩;unfold L2.start;rw [getElem?_append_left (by rw [length_map,<-t.length]; exact hi),getElem?_map,e];rfl
  ·rw [getElem?_append_right (by simpa using hi),getElem?_replicate] at h;split at h<;>cases h
theorem sound (A0:FA K w mg p fns gl fz):∀(n:Nat) {i:Nat} {x:Str} {f:Addr} {fd:FuncData} {ps:List Str},FD K p fns gl fz i x f fd ps->eN P w K mg base t7 (2*n) f fd ps (u7 K ⟨P,w⟩ ps.length (runN p n i))
 | 0,i,x,f,fd,ps,h=>⟨λ vs H Q E q=>q.1,λ A outer s H args us vs Q E hr he Ly hv hs=>by
   obtain ⟨_,_,_,_,_,_,_,_,e,_⟩:=hs;cases e⟩
 | n+1,i,x,f,fd,ps,h=>by
  obtain ⟨qual,st,N,body,F,S,hb,hi,hB⟩:=h;refine F.ok (k:=2*n+1) S (λ vs H Q E h=>h.1) (λ cdv A outer s H vs Q E hr h=>?_);obtain ⟨hl,β,m,ws,wv,m',r,t,e,k⟩:=h;have BQ:∀{i':Nat} {x':Str} {f':Addr} {fd':FuncData} {ps':List Str},FD K p fns gl fz i' x' f' fd' ps'->∀ws m w m',aH (runN p n i') ws m=.ok w m'->ws.length=ps'.length:=λ hd ws m w m' hc=>by
   obtain ⟨_,_,_,_,_,_,_,hi',_⟩:=hd;obtain ⟨m1,w1,m2,hc⟩:=xM hc;cases n with
   | zero=>cases hc
   | succ n=>
    simp only [runN,hi'] at hc;split at hc
    ·assumption
    ·cases hc
  have o:Ok (p6 t7 P w K mg base N qual (bB st) f cdv A outer s H E).FO ⟨P,w⟩ ⟨λ f=>aH (runN p n f),p.fuel,p.cs⟩ ⟨N,(bB st).names,fns,gl,p.cs,fz⟩:=by
   refine ⟨rfl,S.nd,λ {x k} hk hv=>?_,λ {x k} hk hv=>?_,λ {x} hk=>hk,λ {x} hk=>hk,rfl,⟨hr.units,rfl,rfl,hr.gd⟩,hr.hd,A0.blt,λ {x i np} hx=>?_,A0.glo,rfl,A0.fld,λ {c x i} hx=>?_,λ {c i} hx=>?_,A0.dic,A0.isc⟩
   ·rcases hv with rfl | rfl | rfl
    ·exact .inl hk
    ·exact .inr (.inl hk)
    ·exact .inr (.inr hk)
   ·rcases hv with rfl | rfl
    ·exact ⟨.inl hk,.inl rfl⟩
    ·exact ⟨.inr hk,.inl rfl⟩
   ·obtain ⟨fa,fd,ps,h1,h2,h3⟩:=A0.fn hx;have hkp:PySem.W.keepIn K (.ref fa)=true:=let ⟨_,_,_,_,F,_⟩:=h2; F.kp;have hbd:Binds K fd ps []:=let ⟨_,_,_,_,_,_,_,_,z⟩:=h2; z;exact ⟨2*n,fa,fd,ps,h1,hr.mono (by omega),h3,hkp,hbd,(sound A0 n h2).imp λ _ _ _ _=>iO⟩
   ·obtain ⟨fa,fd,ps,h2,h3,h4⟩:=A0.mth hx;have hbd:Binds K fd ps []:=let ⟨_,_,_,_,_,_,_,_,z⟩:=h2; z;exact ⟨2*n,fa,fd,ps,hr.mono (by omega),h3,h4,hbd,(sound A0 n h2).imp λ _ _ _ _=>iO,BQ h2⟩
   ·obtain ⟨fa,fd,ps,h2,h3,h4⟩:=A0.ini hx;have hbd:Binds K fd ps []:=let ⟨_,_,_,_,_,_,_,_,z⟩:=h2; z;exact ⟨2*n,fa,fd,ps,hr,h3,h4,hbd,(sound A0 n h2).imp λ _ _ _ _=>iO,BQ h2⟩
  refine ⟨_,j3 (λ s d h=>BX o rfl S.kind PassesOwn.never (λ _ _ z=>z) 60 s d h) hb,?_⟩;simp only [runN,hi] at e;split at e
  ·obtain ⟨ff,m1,e1,e2⟩:=R.ah e;refine ⟨β,dQ N.length ws,m,ff,m1,r,RL.start t,e1,fun β1 H1 x1 r1=>?_⟩;cases ff with
   | nx ρ=>
    simp only [outF] at e2;cases e2;exact fun σ _=>k _ _ _ x1 r1 .non
   | rt w=>
    simp only [outF] at e2;cases e2;exact λ v q=>k _ _ _ x1 r1 q
   | bk ρ=>simp only [outF] at e2; cases e2
   | ct ρ=>simp only [outF] at e2; cases e2
  ·cases e
end
theorem xN {l:PySem.W.OpenLaw} {q:Program} {loose:List Str} {XP:(Str->Option Value)->Heap->Prop} {YP:World->Heap->Prop} {d:DefRec} {K:Params->PySem.W.Frag} {p:Pg} {x:Str}
  (hn:l.most=some 63) (hdf:d.params.defaults=[]) (hY:∀(w:World) (h:Heap),YP w h->(K w.params).In h)
  (F:∀(w:World) (mg:Str->Option Value) (fa:Addr) (h:Heap),(K w.params).In h->h.Ns mainGlobals mg->mg d.name=some (.ref fa)->
   ∃fd:FuncData,(∀(s:Shared) (u:Value),BindsTo s fd ⟨[u],[]⟩ [(x,u)])/\
    ∀base:Heap,(K w.params).In base->base.Ns mainGlobals mg->eN l.prog w (K w.params) mg base t7 80 fa fd [x] (u7 (K w.params) ⟨l.prog,w⟩ 1 (runN p 40 i)))
  (KW:∀ns:List Int,ns.length<=63->∃m',runN p 40 i [.fz (ns.map .int)] []=.ok (.bl true) m') :
  PySem.W.WalkO q loose XP YP l.row.toRowW d [] (λ f vs=>PySem.call f vs):=by
 refine L2.zL (n:=63) (k:=80) (x:=x) (CX:=λ _=>t7) (sp:=λ w=>u7 (K w.params) ⟨l.prog,w⟩ 1 (runN p 40 i)) hn (by decide) hdf ⟨rfl,by decide,by decide,rfl⟩ hY F (λ w H a ns hl hO hS=>?_) λ _ _ _ _ _ z=>z;obtain ⟨m',e⟩:=KW ns hl;have sf:oq (K w.params) H a (ns.map V.int):=by
  rcases hS with (h | ⟨o,h⟩) | h
  ·rcases hO a with z | ⟨o,xs,z⟩
   ·rw [h] at z; cases z
   ·rw [h] at z; cases z
  ·exact .inl ⟨o,h⟩
  ·exact .inr h
 have ri:∀ns:List Int,aZ (K w.params) [] H (ns.map W.int) (ns.map V.int):=λ ns=>by
  induction ns with
  | nil=>exact .nil
  | cons n r ih=>exact .cons (.int n) ih
 refine ⟨rfl,[],[],[.fz (ns.map .int)],.bl true,m',⟨rfl,nodup_nil,λ {n o a} h=>by simp at h⟩,.cons (.fz sf (ri ns)) .nil,e,fun β' H' v _ _ q=>?_⟩;cases q;rfl
end D
end
section
namespace D
open PySem List
variable {C:Cx} {b:Ss} {e it:E} {f:List W->Mem->R W} {i n:Nat} {m m0 m1 m2:Mem} {o:O} {p:Pg} {s:Src} {t:T} {w:W} {xs:List W} {α β:Type} {ρ:Loc}
theorem oS [BEq α] [LawfulBEq α] {x:α} {b:β} {l:List (α×β)} (h:l.lookup x=some b):(x,b)∈l:=by
 induction l with
 | nil=>simp at h
 | cons p l ih=>
  obtain ⟨y,c⟩:=p;rw [lookup_cons] at h;split at h
  ·rename_i hb;cases h;rw [eq_of_beq hb];exact mem_cons_self
  ·exact mem_cons_of_mem _ (ih h)
abbrev Cn (p:Pg) (n:Nat):D.Cx:=⟨λ f=>aH (D.runN p n f),p.fuel,p.cs⟩
section
variable {get:Mem->Nat->Nx} {t:T} {test:Loc->Mem->R Bool} {body:Loc->Mem->List W->R (List W×Loc)} {xO:Loc->Mem->R F} {k i:Nat} {ρ ρ1 ρ2:Loc} {m m1 m2:Mem} {acc qL:List W} {x w:W}
theorem uK (h:get m i=.fin):cC get t test body k i ρ m acc=.ok (acc,ρ) m:=by unfold cC; rw [h]
theorem xP (h:get m i=.it x) (hb:aV t x ρ=some ρ1) (ht:test ρ1 m=.ok true m1) (he:body ρ1 m1 acc=.ok (qL,ρ2) m2):cC get t test body (k+1) i ρ m acc=cC get t test body k (i+1) ρ2 m2 qL:=by
 rw [cC,h]; simp only [hb,ht,R.bind,if_true,he]
theorem qM (h:get m i=.it x) (hb:aV t x ρ=some ρ1) (ht:test ρ1 m=.ok false m1):cC get t test body (k+1) i ρ m acc=cC get t test body k (i+1) ρ1 m1 acc:=by
 rw [cC,h]; simp only [hb,ht,R.bind,Bool.false_eq_true,if_false]
theorem xQ (h:get m i=.fin):gy get t xO k i ρ m=.ok (.nx ρ) m:=by unfold gy; rw [h]
theorem AH (h:get m i=.it x) (hb:aV t x ρ=some ρ1) (he:xO ρ1 m=.ok (.nx ρ2) m2):gy get t xO (k+1) i ρ m=gy get t xO k (i+1) ρ2 m2:=by
 rw [gy,h]; simp only [hb,R.bind,he]
theorem AI (h:get m i=.it x) (hb:aV t x ρ=some ρ1) (he:xO ρ1 m=.ok (.ct ρ2) m2):gy get t xO (k+1) i ρ m=gy get t xO k (i+1) ρ2 m2:=by
 rw [gy,h]; simp only [hb,R.bind,he]
theorem oU (I:Nat->Loc->Mem->Prop) (hs:∀i ρ m,i < n->I i ρ m->∃x ρ1 ρ2 m2,get m i=.it x/\aV t x ρ=some ρ1/\(xO ρ1 m=.ok (.nx ρ2) m2\/xO ρ1 m=.ok (.ct ρ2) m2)/\I (i+1) ρ2 m2) (hf:∀ρ m,I n ρ m->get m n=.fin) :
  ∀(k i:Nat) (ρ:Loc) (m:Mem),i+k=n->I i ρ m->∃ρ' m',gy get t xO k i ρ m=.ok (.nx ρ') m'/\I n ρ' m'
 | 0,i,ρ,m,hi,h=>by
  have e:i=n:=by omega
  subst e;exact ⟨ρ,m,xQ (hf ρ m h),h⟩
 | k+1,i,ρ,m,hi,h=>by
  obtain ⟨x,ρ1,ρ2,m2,h1,h2,h3,h4⟩:=hs i ρ m (by omega) h;obtain ⟨ρ',m',e,h5⟩:=oU I hs hf k (i+1) ρ2 m2 (by omega) h4;refine ⟨ρ',m',?_,h5⟩;rcases h3 with h3 | h3
  ·rw [AH h1 h2 h3,e]
  ·rw [AI h1 h2 h3,e]
theorem dO (I:Nat->Loc->Mem->List W->Prop)
  (hs:∀i ρ m acc,i < n->I i ρ m acc->∃x ρ1,get m i=.it x/\aV t x ρ=some ρ1/\((∃m1 qL ρ2 m2,test ρ1 m=.ok true m1/\body ρ1 m1 acc=.ok (qL,ρ2) m2/\I (i+1) ρ2 m2 qL)\/∃m1,test ρ1 m=.ok false m1/\I (i+1) ρ1 m1 acc))
  (hf:∀ρ m acc,I n ρ m acc->get m n=.fin) :
  ∀(k i:Nat) (ρ:Loc) (m:Mem) (acc:List W),i+k=n->I i ρ m acc->∃acc' ρ' m',cC get t test body k i ρ m acc=.ok (acc',ρ') m'/\I n ρ' m' acc'
 | 0,i,ρ,m,acc,hi,h=>by
  have e:i=n:=by omega
  subst e;exact ⟨acc,ρ,m,uK (hf ρ m acc h),h⟩
 | k+1,i,ρ,m,acc,hi,h=>by
  obtain ⟨x,ρ1,h1,h2,⟨m1,qL,ρ2,m2,h3,h4,h5⟩ | ⟨m1,h3,h5⟩⟩:=hs i ρ m acc (by omega) h
  ·obtain ⟨a',ρ',m',e,h6⟩:=dO I hs hf k (i+1) ρ2 m2 qL (by omega) h5;exact ⟨a',ρ',m',by rw [xP h1 h2 h3 h4,e],h6⟩
  ·obtain ⟨a',ρ',m',e,h6⟩:=dO I hs hf k (i+1) ρ1 m1 acc (by omega) h5;exact ⟨a',ρ',m',by rw [qM h1 h2 h3,e],h6⟩
end
theorem aj {s:S} {r:Ss} {ρ1:Loc} (h:bN C s ρ m=.ok (.nx ρ1) m1):aK C (.cons s r) ρ m=aK C r ρ1 m1:=by simp only [aK,h,R.bind]
theorem aY {s:S} {r:Ss} (h:bN C s ρ m=.ok (.rt w) m1):aK C (.cons s r) ρ m=.ok (.rt w) m1:=by simp only [aK,h,R.bind]
theorem bw {f:Nat} {ws:List W} {d:Fn} (hd:p.fns[f]?=some d) (hl:ws.length=d.np) (h:aK (Cn p n) d.body (dQ d.nl ws) m=.ok (.rt w) m1):D.runN p (n+1) f ws m=.ok w m1:=by
 rw [D.runN,hd]; simp only [hl,if_true,h,R.bind,outF]
theorem fW {f:Nat} {ws:List W} {d:Fn} (hd:p.fns[f]?=some d) (hl:ws.length=d.np) (h:aK (Cn p n) d.body (dQ d.nl ws) m=.ok (.nx ρ) m1):D.runN p (n+1) f ws m=.ok .non m1:=by
 rw [D.runN,hd]; simp only [hl,if_true,h,R.bind,outF]
theorem ED (h:ai C e ρ m=.ok w m1):bN C (.asg (.pt (.var i)) e) ρ m=.ok (.nx (ρ.set i (some w))) m1:=by simp only [bN,h,R.bind,fK,aV]
theorem aI {ρ1:Loc} (h:ai C e ρ m=.ok w m1) (hs:ρ.set i (some w)=ρ1):bN C (.asg (.pt (.var i)) e) ρ m=.ok (.nx ρ1) m1:=by rw [ED h,hs]
theorem qN {xs:List α} (h:xs.Nodup) (hi:i < xs.length):xs[i]∉xs.take i:=λ hm=>by
 rw [<-take_append_drop i xs] at h;exact (List.nodup_append.mp h).2.2 _ hm _ (mem_of_getElem? (i:=0) (by rw [getElem?_drop,Nat.add_zero,getElem?_eq_getElem hi])) rfl
theorem bq (h:ai C e ρ m=.ok w m1):bN C (.ret e) ρ m=.ok (.rt w) m1:=by simp only [bN,h,R.bind]
theorem bX (h:ai C e ρ m=.ok w m1):bN C (.expr e) ρ m=.ok (.nx ρ) m1:=by simp only [bN,h,R.bind]
theorem iP {o:E} {f:Str} {m3:Mem} {x:W} (h:ai C e ρ m=.ok w m1) (h2:ai C o ρ m1=.ok x m2) (h3:om C.cs x f w m2=.ok () m3):bN C (.fas o f e) ρ m=.ok (.nx ρ) m3:=by simp only [bN,h,h2,h3,R.bind]
theorem uL {t:E} {a:Ss} (h:aT C t ρ m=.ok true m1):bN C (.ife t a b) ρ m=aK C a ρ m1:=by simp only [bN,h,R.bind,if_true]
theorem dF {t:E} {a:Ss} (h:aT C t ρ m=.ok false m1):bN C (.ife t a b) ρ m=aK C b ρ m1:=by simp only [bN,h,R.bind,Bool.false_eq_true,if_false]
theorem aA:aK C .nil ρ m=.ok (.nx ρ) m:=by simp only [aK]
theorem EE {f:F} (h:cz C it ρ m=.ok s m1) (h2:gy s.get t (fun ρ m=>aK C b ρ m) (s.len m1) 0 ρ m1=.ok f m2):bN C (.for_ t it b) ρ m=.ok f m2:=by simp only [bN,h,R.bind,h2]
theorem cJ (hI:cz C it ρ m=.ok s m1) (hn:s.len m1=n) (I:Nat->Loc->Mem->Prop) (h0:I 0 ρ m1)
  (hs:∀i ρ m,i < n->I i ρ m->∃x ρ1 ρ2 m2,s.get m i=.it x/\aV t x ρ=some ρ1/\(aK C b ρ1 m=.ok (.nx ρ2) m2\/aK C b ρ1 m=.ok (.ct ρ2) m2)/\I (i+1) ρ2 m2) (hf:∀ρ m,I n ρ m->s.get m n=.fin) :
  ∃ρ' m',bN C (.for_ t it b) ρ m=.ok (.nx ρ') m'/\I n ρ' m':=by
 obtain ⟨ρ',m',h1,h2⟩:=oU (get:=s.get) (t:=t) (xO:=fun ρ m=>aK C b ρ m) I hs hf n 0 ρ m1 (by omega) h0;exact ⟨ρ',m',EE hI (by rw [hn]; exact h1),h2⟩
theorem dZ {js:List Nat} {ifs:Es} {g:G} {ρ':Loc} {ws:List W} (h:cz C it ρ m=.ok s m1) (h2:cC s.get t (fun ρ m=>bz C ifs ρ m) (fun ρ m acc=>gE C g ρ m acc) (s.len m1) 0 (bY js ρ) m1 []=.ok (ws,ρ') m2):ai C (.comp (.gen t js it ifs g)) ρ m=.ok (.ref m2.length) (m2++[.lst ws]):=by
 simp only [ai,gE,h,R.bind,h2,new]
theorem uM (he:ai C e ρ m=.ok (.int n) m1) (h:-(2^62)<=(n:Int)/\(n:Int) < 2^62):cz C (.rng e) ρ m=.ok (.rng 0 n) m1:=by
 simp only [cz,he,R.bind];rw [if_pos h,Int.toNat_natCast]
theorem fu {lo:Int} (h:i < n):Src.get (.rng lo n) m i=.it (.int (lo+i)):=by simp only [Src.get,h,if_true]
theorem d7 {lo:Int} (h:¬i < n):Src.get (.rng lo n) m i=.fin:=by simp only [Src.get,h,if_false]
theorem bf (h:i < xs.length):Src.get (.tup xs) m i=.it xs[i]:=by simp only [Src.get,getElem?_eq_getElem h]
theorem aM (h:¬i < xs.length):Src.get (.tup xs) m i=.fin:=by simp only [Src.get,getElem?_eq_none (Nat.le_of_not_lt h)]
theorem fB (h:s.get m i=.it w):Src.get (.enm s) m i=.it (.tup [.int i,w]):=by simp only [Src.get,h]
theorem d8 (h:s.get m i=.fin):Src.get (.enm s) m i=.fin:=by simp only [Src.get,h]
theorem cR (h:m[n]?=some (.lst xs)) (i:Nat):Src.get (.lst n) m i=Src.get (.tup xs) m i:=by simp only [Src.get,getL,h]
theorem dS:∀ns:List Int,ak (ns.map W.int)=true
 | []=>rfl
 | n::r=>by simp [ak,aD,dS r]
theorem aX:∀ns:List Str,ak (ns.map W.str)=true
 | []=>rfl
 | n::r=>by simp [ak,aD,aX r]
theorem bE:∀{xs:List W},ak xs=true↔∀x∈xs,aD x=true
 | []=>by simp [ak]
 | x::r=>by simp [ak,bE (xs:=r)]
theorem ig {f:α->W} (h:∀a,aD (f a)=true) (xs:List α):ak (xs.map f)=true:=bE.mpr λ x hx=>by
 obtain ⟨a,_,rfl⟩:=List.mem_map.mp hx;exact h a
theorem sE {ys:List W}:ak (xs++ys)=(ak xs&&ak ys):=by
 induction xs with
 | nil=>simp [ak]
 | cons x r ih=>simp [ak,ih,Bool.and_assoc]
mutual
theorem j4 (g:Nat->Option W):∀{w:W},aD w=true->jz g w=some w
 | .non,_=>rfl
 | .bl _,_=>rfl
 | .int _,_=>rfl
 | .str _,_=>rfl
 | .tup xs,h=>by simp only [jz,bS g (by simpa only [aD] using h:ak xs=true)]; rfl
 | .fz xs,h=>by simp only [jz,bS g (by simpa only [aD] using h:ak xs=true)]; rfl
 | .obj c ks vs,h=>by simp only [jz,bS g (by simpa only [aD] using h:ak vs=true)]; rfl
 | .ref _,h=>by simp [aD] at h
theorem bS (g:Nat->Option W):∀{w:List W},ak w=true->ef g w=some w
 | [],_=>rfl
 | x::r,h=>by
  simp only [ak,Bool.and_eq_true] at h;simp only [ef,j4 g h.1,bS g h.2]
end
theorem xR (k:Nat):aD w=true->fH k w=true:=
 W.rec (motive_1:=λ w=>aD w=true->fH k w=true) (motive_2:=λ w=>ak w=true->cB k w=true) (λ _=>rfl) (λ _ _=>rfl) (λ _ _=>rfl) (λ _ _=>rfl) (λ _ i e=>i e) (λ _ i e=>i e) (λ _ _ _ i e=>i e) (λ _ e=>nomatch (show false=true from e)) (λ _=>rfl) (λ _ _ a b e=>Bool.and_eq_true_iff.mpr ⟨a (Bool.and_eq_true_iff.mp e).1,b (Bool.and_eq_true_iff.mp e).2⟩) w
theorem bA (k:Nat) {w:List W} (e:ak w=true):cB k w=true:=by
 induction w with
 | nil=>rfl
 | cons x r ih=>exact Bool.and_eq_true_iff.mpr ⟨xR k (Bool.and_eq_true_iff.mp e).1,ih (Bool.and_eq_true_iff.mp e).2⟩
theorem xS {k l:Nat} (EF:k<=l):fH k w=true->fH l w=true:=
 W.rec (motive_1:=λ w=>fH k w=true->fH l w=true) (motive_2:=λ w=>cB k w=true->cB l w=true) (λ _=>rfl) (λ _ _=>rfl) (λ _ _=>rfl) (λ _ _=>rfl) (λ _ i e=>i e) (λ _ i e=>i e) (λ _ _ _ i e=>i e) (λ _ e=>decide_eq_true (Nat.lt_of_lt_of_le (of_decide_eq_true e) EF)) (λ _=>rfl) (λ _ _ a b e=>Bool.and_eq_true_iff.mpr ⟨a (Bool.and_eq_true_iff.mp e).1,b (Bool.and_eq_true_iff.mp e).2⟩) w
theorem iQ {k l:Nat} (EF:k<=l) {w:List W} (e:cB k w=true):cB l w=true:=by
 induction w with
 | nil=>rfl
 | cons x r ih=>exact Bool.and_eq_true_iff.mpr ⟨xS EF (Bool.and_eq_true_iff.mp e).1,ih (Bool.and_eq_true_iff.mp e).2⟩
theorem lK {k l:Nat} (EF:k<=l) (h:eS k o=true):eS l o=true:=by
 cases o with
 | lst xs=>exact iQ EF h
 | ins c fs=>exact iQ EF h
 | dic fs=>exact iQ EF h
 | set ks=>rfl
def Cm (m:Mem):Prop:=ur m.length m=true
theorem Cm.nil:Cm []:=rfl
theorem oV {k:Nat}:ur k m=true↔∀o∈m,eS k o=true:=by simp [ur,all_eq_true]
theorem Cm.set {p:Nat} (h:Cm m) (ho:eS m.length o=true):Cm (m.set p o):=by
 unfold Cm at h ⊢;rw [length_set,oV] at *;intro x hx;rcases mem_or_eq_of_mem_set hx with hx | rfl
 ·exact h x hx
 ·exact ho
theorem Cm.app {l:Mem} (h:Cm m) (hl:∀o∈l,eS (m.length+l.length) o=true):Cm (m++l):=by
 unfold Cm at h ⊢;rw [oV] at *;intro x hx;rw [length_append];rcases List.mem_append.mp hx with hx | hx
 ·exact lK (by omega) (h x hx)
 ·exact hl x hx
theorem Cm.push (h:Cm m) (ho:eS m.length o=true):Cm (m++[o]):=h.app λ x hx=>by
 rw [mem_singleton] at hx;subst hx;exact lK (by simp) ho
theorem gO {l:Mem} {w1:W} (h:ai C e ρ m=.ok w (m0++l)) (hl:m0.length=m.length) (hm:Cm m0) (hw:jz (nH (m0++l) m0.length 8) w=some w1):ai C (.frz e) ρ m=.ok w1 m0:=by
 have ht:(m0++l).take m.length=m0:=by rw [<-hl,take_left']; rfl
 have hc:m.length<=(m0++l).length/\ur m.length ((m0++l).take m.length)=true:=⟨by rw [length_append]; omega,by rw [ht,<-hl]; exact hm⟩;simp only [ai,h,uu];rw [if_pos hc,<-hl,hw];simp only [hl,ht]
theorem sF {l:Mem} {j:Nat} (h:ai C e ρ m=.ok (.ref j) (m0++l)) (hl:m0.length=m.length) (hm:Cm m0) (hj:m0.length<=j) (hx:(m0++l)[j]?=some (.lst xs)) (hp:ak xs=true):ai C (.frz e) ρ m=.ok (.fz xs) m0:=by
 refine gO h hl hm ?_;simp only [jz,nH,hx,bS _ hp,Option.map_some];rw [if_neg (by omega)]
theorem bL (h:ai C e ρ m=.ok (.ref m0.length) (m0++[.lst xs])) (hl:m0.length=m.length) (hm:Cm m0) (hp:ak xs=true):ai C (.frz e) ρ m=.ok (.fz xs) m0:=
 sF h hl hm (Nat.le_refl _) (by simp) hp
theorem AJ (h:ai C e ρ m=.ok w m0) (hl:m0.length=m.length) (hm:Cm m0) (hp:aD w=true):ai C (.frz e) ρ m=.ok w m0:=
 gO (l:=[]) (by rw [append_nil]; exact h) hl hm (j4 _ hp)
theorem bx {ws:List W} (h:ak ws=false):aH f ws m=f ws m:=by simp [aH,h]
theorem aU {ws:List W} (h:ak ws=true) (e:f ws []=.ok w m1) (hw:aD w=true):aH f ws m=.ok w m:=by simp [aH,h,e,hw]
theorem eW {ws:List W} (h:ak ws=true) (e:f ws []=.ok w m1) (hw:aD w=false):aH f ws m=.ok (sD m.length w) (m++m1.map (AG m.length)):=by simp [aH,h,e,hw]
theorem set_same {p:Nat} (h:m[p]?=some o):m.set p o=m:=by
 apply ext_getElem?;intro j
 by_cases e:p=j
 ·subst e;rw [getElem?_set_self (List.getElem?_eq_some_iff.mp h).1,h]
 ·rw [getElem?_set_ne e]
theorem ir (l:List α):l.filter (λ _=>true)=l:=List.filter_eq_self.mpr λ _ _=>rfl
theorem gm {get:Mem->Nat->Nx} {ifs:Es} {B:W->Loc} {p:W->Bool} {g:W->W} (hget:∀j (h:j < xs.length),get m j=.it xs[j]) (qO:get m xs.length=.fin)
  (h0:∀x∈xs,aV t x ρ=some (B x)) (h1:∀x∈xs,∀y∈xs,aV t y (B x)=some (B y)) (ht:∀x∈xs,bz C ifs (B x) m=.ok (p x) m) (he:∀x∈xs,p x=true->ai C e (B x) m=.ok (g x) m) (hl:xs.length<=lim) :
  ∃ρ',cC get t (fun ρ m=>bz C ifs ρ m) (fun ρ m acc=>gE C (.elt e) ρ m acc) xs.length 0 ρ m []=.ok ((xs.filter p).map g,ρ') m:=by
 obtain ⟨acc,ρ',m',e1,h4,h2,h3⟩:=dO (get:=get) (t:=t) (test:=fun ρ m=>bz C ifs ρ m) (body:=fun ρ m acc=>gE C (.elt e) ρ m acc) (n:=xs.length)
  (λ j ρ1 m1 acc=>(∀x∈xs,aV t x ρ1=some (B x))/\m1=m/\acc=((xs.take j).filter p).map g) (λ j ρ1 m1 acc hj=>by
   rintro ⟨hb,rfl,rfl⟩;have hx:=getElem_mem hj;have htk:xs.take (j+1)=xs.take j++[xs[j]]:=by rw [take_add_one,getElem?_eq_getElem hj]; rfl
   refine ⟨xs[j],B xs[j],hget j hj,hb _ hx,?_⟩;have h5:=ht _ hx;cases hp:p xs[j] with
   | true=>
    rw [hp] at h5;refine .inl ⟨m1,((xs.take (j+1)).filter p).map g,B xs[j],m1,h5,?_,h1 _ hx,rfl,rfl⟩;have hlt:(((xs.take j).filter p).map g).length < lim:=by
     rw [length_map];have:=length_filter_le p (xs.take j);rw [length_take] at this;omega
    simp only [gE,he _ hx hp,R.bind];rw [if_pos hlt,htk,filter_append,map_append];simp [hp]
   | false=>
    rw [hp] at h5;refine .inr ⟨m1,h5,h1 _ hx,rfl,?_⟩;rw [htk,filter_append];simp [hp]) (fun ρ1 m1 acc h=>by rw [h.2.1]; exact qO) xs.length 0 ρ m [] (by omega) ⟨h0,rfl,by simp⟩
 subst h2 h3;exact ⟨ρ',by rw [e1,take_length]⟩
theorem comp_map {g:W->W} (h:∀x∈xs,ai C e (ρ.set i (some x)) m=.ok (g x) m) (hl:xs.length<=lim) :
  ∃ρ',cC (Src.get (.tup xs)) (.var i) (fun ρ m=>bz C .nil ρ m) (fun ρ m acc=>gE C (.elt e) ρ m acc) xs.length 0 ρ m []=.ok (xs.map g,ρ') m:=by
 obtain ⟨ρ',h'⟩:=gm (C:=C) (get:=Src.get (.tup xs)) (t:=.var i) (ifs:=.nil) (e:=e) (ρ:=ρ) (m:=m) (xs:=xs) (B:=λ x=>ρ.set i (some x)) (p:=λ _=>true) (g:=g) (λ j hj=>bf hj) (aM (by omega)) (λ x _=>by simp only [aV]) (λ x _ y _=>by simp only [aV,set_set]) (λ x _=>by simp only [bz]) (λ x hx _=>h x hx) hl;rw [ir] at h';exact ⟨ρ',h'⟩
theorem Hw {g:Nat->W} (h:∀j,j < n->ai C e (ρ.set i (some (.int j))) m=.ok (g j) m) (hl:n<=lim) :
  ∃ρ',cC (Src.get (.rng 0 n)) (.var i) (fun ρ m=>bz C .nil ρ m) (fun ρ m acc=>gE C (.elt e) ρ m acc) n 0 ρ m []=.ok ((List.range n).map g,ρ') m:=by
 have hlen:((List.range n).map λ j=>W.int (j:Nat)).length=n:=by simp
 obtain ⟨ρ',h'⟩:=gm (C:=C) (get:=Src.get (.rng 0 n)) (t:=.var i) (ifs:=.nil) (e:=e) (ρ:=ρ) (m:=m) (xs:=(List.range n).map λ j=>W.int (j:Nat)) (B:=λ x=>ρ.set i (some x)) (p:=λ _=>true) (g:=λ w=>match w with | .int j=>g j.toNat | _=>.non)
  (λ j hj=>by rw [fu (by simpa using hj)]; simp) (d7 (by simp)) (λ x _=>by simp only [aV]) (λ x _ y _=>by simp only [aV,set_set]) (λ x _=>by simp only [bz]) (λ x hx _=>by
   obtain ⟨j,hj,rfl⟩:=List.mem_map.mp hx;have:=h j (List.mem_range.mp hj);simpa using this) (by rw [hlen]; exact hl)
 rw [hlen,ir] at h';refine ⟨ρ',h'.trans ?_⟩;simp [Function.comp_def]
theorem aq (i:Nat):ai C (.var i) ρ m=(match ρ[i]? with
   | some (some w)=>.ok w m
   | _=>.no):=by simp only [ai]<;>rfl
theorem sG (i:Nat):aT C (.var i) ρ m=(ai C (.var i) ρ m).bind λ w m=>D.truthy m w:=by simp only [aT,ai]<;>rfl
theorem aJ (w:W):ai C (.cst w) ρ m=(.ok w m):=by simp only [ai]<;>rfl
theorem eX (op:Operator) (a b:E):ai C (.bin op a b) ρ m=((ai C a ρ m).bind λ x m=>(ai C b ρ m).bind λ y m=>binop op x y m):=by simp only [ai]<;>rfl
theorem BY (a:E):ai C (.neg a) ρ m=((ai C a ρ m).bind λ x m=>match x with
   | .int i=>.ok (.int (-i)) m
   | _=>.no):=by simp only [ai]<;>rfl
theorem Hx (a:E):ai C (.not a) ρ m=((ai C a ρ m).bind λ x m=>match x with
   | .bl b=>.ok (.bl (!b)) m
   | _=>.no):=by simp only [ai]<;>rfl
theorem xT (a b:E):ai C (.and a b) ρ m=((ai C a ρ m).bind λ x m=>match x with
   | .bl c=>if c then ai C b ρ m else .ok (.bl false) m
   | _=>.no):=by simp only [ai]<;>rfl
theorem Hy (a b:E):ai C (.or a b) ρ m=((ai C a ρ m).bind λ x m=>match x with
   | .bl c=>if c then .ok (.bl true) m else ai C b ρ m
   | _=>.no):=by simp only [ai]<;>rfl
theorem xU (op:CmpOp) (a b:E):ai C (.cmp op a b) ρ m=((ai C a ρ m).bind λ x m=>(ai C b ρ m).bind λ y m=>(aC op x y m).bind λ c m=>.ok (.bl c) m):=by simp only [ai]<;>rfl
theorem AK (o1 o2:CmpOp) (a b c:E):ai C (.chain o1 o2 a b c) ρ m=((ai C a ρ m).bind λ x m=>(ai C b ρ m).bind λ y m=>(aC o1 x y m).bind λ k m=>
    if k then (ai C c ρ m).bind λ z m=>(aC o2 y z m).bind λ k m=>.ok (.bl k) m else .ok (.bl false) m):=by simp only [ai]<;>rfl
theorem sH (t a b:E):ai C (.ife t a b) ρ m=((aT C t ρ m).bind λ c m=>if c then ai C a ρ m else ai C b ρ m):=by simp only [ai]<;>rfl
theorem lM (es:Es):ai C (.tup es) ρ m=((bg C es ρ m).bind λ ws m=>if ws.length<=lim then .ok (.tup ws) m else .no):=by simp only [ai]<;>rfl
theorem dU (es:Es):ai C (.lst es) ρ m=((bg C es ρ m).bind λ ws m=>if ws.length<=lim then new (.lst ws) m else .no):=by simp only [ai]<;>rfl
theorem cU (a b:E):ai C (.idx a b) ρ m=((ai C a ρ m).bind λ x m=>(ai C b ρ m).bind λ y m=>bh x y m):=by simp only [ai]<;>rfl
theorem jb (a:E) (lo hi:Oe):ai C (.slc a lo hi) ρ m=((ai C a ρ m).bind λ x m=>(kN C lo ρ m).bind λ l m=>(kN C hi ρ m).bind λ u m=>cK x l u m):=by simp only [ai]<;>rfl
theorem iR (f:Nat) (es:Es):aT C (.call f es) ρ m=(ai C (.call f es) ρ m).bind λ w m=>D.truthy m w:=by simp only [aT,ai]<;>rfl
theorem cF (b:B) (es:Es):ai C (.blt b es) ρ m=((bg C es ρ m).bind λ ws m=>bu b ws m):=by simp only [ai]<;>rfl
theorem xV (b:B) (es:Es):aT C (.blt b es) ρ m=(ai C (.blt b es) ρ m).bind λ w m=>D.truthy m w:=by simp only [aT,ai]<;>rfl
theorem BZ (a:E) (t:String):ai C (.isI a t) ρ m=((ai C a ρ m).bind λ x m=>match gX m t x with
   | some b=>.ok (.bl b) m
   | none=>.no):=by simp only [ai]<;>rfl
theorem B0 (a:E) (t:String):aT C (.isI a t) ρ m=(ai C (.isI a t) ρ m).bind λ w m=>D.truthy m w:=by simp only [aT,ai]<;>rfl
theorem dH (o:E) (name:String) (es:Es):ai C (.meth o name es) ρ m=((ai C o ρ m).bind λ x m=>if kdOf m x=iI name then (bg C es ρ m).bind λ ws m=>br x name ws m else .no):=by simp only [ai]<;>rfl
theorem xW (o:E) (name:String) (es:Es):aT C (.meth o name es) ρ m=(ai C (.meth o name es) ρ m).bind λ w m=>D.truthy m w:=by simp only [aT,ai]<;>rfl
theorem EG (a:E):ai C (.lrng a) ρ m=((ai C a ρ m).bind λ x m=>match x with
   | .int j=>if 0<=j/\j<=1000000 then new (.lst ((List.range j.toNat).map λ i=>W.int (i:Nat))) m else .no
   | _=>.no):=by simp only [ai]<;>rfl
theorem sI (u:U) (a:E):ai C (.fus u a) ρ m=((ai C a ρ m).bind λ x m=>dB u x m):=by simp only [ai]<;>rfl
theorem xX (u:U) (a:E):aT C (.fus u a) ρ m=(ai C (.fus u a) ρ m).bind λ w m=>D.truthy m w:=by simp only [aT,ai]<;>rfl
theorem qP (c:Str) (es:Es):ai C (.make c es) ρ m=((bg C es ρ m).bind λ ws m=>fR C c ws m):=by simp only [ai]<;>rfl
theorem LO (o:E) (f:Str) (es:Es):ai C (.mth o f es) ρ m=((ai C o ρ m).bind λ x m=>match g6 C.cs x f m with
   | some i=>(bg C es ρ m).bind λ ws m=>C.call i (x::ws) m
   | none=>.no):=by simp only [ai]<;>rfl
theorem EH :ai C (.gJ) ρ m=(new (.set []) m):=by simp only [ai]<;>rfl
theorem oW (a b:E):aT C (.and a b) ρ m=((aT C a ρ m).bind λ c m=>if c then aT C b ρ m else .ok false m):=by simp only [aT]<;>rfl
theorem j5 (a b:E):aT C (.or a b) ρ m=((aT C a ρ m).bind λ c m=>if c then .ok true m else aT C b ρ m):=by simp only [aT]<;>rfl
theorem fF (a:E):aT C (.not a) ρ m=((aT C a ρ m).bind λ c m=>.ok (!c) m):=by simp only [aT]<;>rfl
theorem cg (op:CmpOp) (a b:E):aT C (.cmp op a b) ρ m=((ai C a ρ m).bind λ x m=>(ai C b ρ m).bind λ y m=>aC op x y m):=by simp only [aT]<;>rfl
theorem m5 (o1 o2:CmpOp) (a b c:E):aT C (.chain o1 o2 a b c) ρ m=((ai C a ρ m).bind λ x m=>(ai C b ρ m).bind λ y m=>(aC o1 x y m).bind λ k m=>
   if k then (ai C c ρ m).bind λ z m=>aC o2 y z m else .ok false m):=by simp only [aT]<;>rfl
theorem ay:bg C .nil ρ m=.ok [] m:=by simp only [bg]<;>rfl
theorem au (e:E) (es:Es):bg C (.cons e es) ρ m=((ai C e ρ m).bind λ w m=>(bg C es ρ m).bind λ ws m=>.ok (w::ws) m):=by simp only [bg]<;>rfl
theorem fC:kN C .none ρ m=.ok none m:=by simp only [kN]<;>rfl
theorem dj (e:E):kN C (.some e) ρ m=((ai C e ρ m).bind λ w m=>match w with
   | .int i=>.ok (some i) m
   | _=>.no):=by simp only [kN]<;>rfl
theorem ao {a:α} {f:α->Mem->R β}:(R.ok a m).bind f=f a m:=Eq.trans rfl rfl
theorem eY (i:Nat):cz C (.var i) ρ m=(ai C (.var i) ρ m).bind fE:=by simp only [cz,ai]<;>rfl
theorem Hz (a b:E):cz C (.idx a b) ρ m=(ai C (.idx a b) ρ m).bind fE:=by simp only [cz,ai]<;>rfl
theorem j6 (a:E):cz C (.frz a) ρ m=(ai C (.frz a) ρ m).bind fE:=by simp only [cz,ai]<;>rfl
theorem HA (op:Operator) (a b:E):cz C (.bin op a b) ρ m=(ai C (.bin op a b) ρ m).bind fE:=by simp only [cz,ai]<;>rfl
theorem gP:∀n:Nat,bools (List.replicate n (W.bl true))=some (List.replicate n true)
 | 0=>rfl
 | n+1=>by simp [replicate_succ,bools,gP n]
theorem all_true (n:Nat):(List.replicate n true).all id=true:=by simp
theorem m7 (xs:List α) (w:W):(xs.map λ _=>w)=List.replicate xs.length w:=map_const' ..
theorem m8 (h:getL m w=some xs):cu m w=some xs:=by
 cases w with
 | tup ys=>cases h
 | _=>exact h
theorem fX (h:cu m w=some xs):bu .len [w] m=.ok (.int xs.length) m:=by
 cases w with
 | str z=>simp [cu,getL] at h
 | _=>simp only [bu,h]
theorem nc {xs:List α} (h:i < xs.length):L2.nU xs (i:Int)=some xs[i]:=by
 have h1:(0:Int)<=i:=by omega
 have h2:(i:Int) < xs.length:=by omega
 simp only [L2.nU,L2.qb,h1,h2,if_true,Option.bind_some,Int.toNat_natCast,getElem?_eq_getElem h]
theorem eG (h:cu m w=some xs) (hi:i < xs.length):bh w (.int i) m=.ok xs[i] m:=by
 cases w with
 | str z=>simp [cu,getL] at h
 | _=>simp only [bh,h,nc hi]
theorem oX (hm:Cm m) (hI:cz C it ρ m=.ok s m) (hg:∀j,s.get m j=Src.get (.tup xs) m j) (hn:s.len m=xs.length) (hl:xs.length<=lim) {js:List Nat} (h:∀x∈xs,ai C e ((bY js ρ).set i (some x)) m=.ok (.bl true) m) :
  ai C (.blt .all (.cons (.frz (.comp (.gen (.var i) js it .nil (.elt e)))) .nil)) ρ m=.ok (.bl true) m:=by
 obtain ⟨ρ',hc⟩:=gm (C:=C) (get:=s.get) (t:=.var i) (ifs:=.nil) (e:=e) (ρ:=bY js ρ) (m:=m) (xs:=xs) (B:=λ x=>(bY js ρ).set i (some x)) (p:=λ _=>true) (g:=λ _=>.bl true) (λ j hj=>by rw [hg,bf hj]) (by rw [hg]; exact aM (by omega)) (λ x _=>by simp only [aV]) (λ x _ y _=>by simp only [aV,set_set]) (λ x _=>by simp only [bz]) (λ x hx _=>h x hx) hl;rw [ir,m7,<-hn] at hc;have hf:=bL (dZ (js:=js) (ifs:=.nil) (g:=.elt e) hI (by rw [hn]; rw [hn] at hc; exact hc)) rfl hm (bE.mpr λ x hx=>by rw [(List.mem_replicate.mp hx).2]; rfl);rw [cF,au,hf];simp only [ao,ay,bu,getL,gP,all_true]
theorem d9 {b:Bool} (he:aT C e ρ m=(ai C e ρ m).bind λ w m=>D.truthy m w) (h:ai C e ρ m=.ok (.bl b) m1):aT C e ρ m=.ok b m1:=by rw [he,h]; rfl
theorem cV (f:Nat) (es:Es):ai (Cn p n) (.call f es) ρ m=(bg (Cn p n) es ρ m).bind λ ws m=>aH (D.runN p n f) ws m:=by simp only [ai]
theorem ng (o:E) (f:Str) (es:Es):ai (Cn p n) (.mth o f es) ρ m=(ai (Cn p n) o ρ m).bind λ x m=>match g6 p.cs x f m with
  | some i=>(bg (Cn p n) es ρ m).bind λ ws m=>aH (D.runN p n i) (x::ws) m
  | none=>.no:=by simp only [ai]<;>rfl
theorem nh (a:E) (f:Str):ai (Cn p n) (.fld a f) ρ m=(ai (Cn p n) a ρ m).bind λ x m=>lG p.cs x f m:=by simp only [ai]
abbrev cW (A B:Int):O:=.lst [.int A,.int B]
def kC (m:Mem) (p:Nat):Prop:=∃A B,m[p]?=some (cW A B)
def PS (p:Nat) (m m':Mem):Prop:=∃A B,m'=m.set p (cW A B)
section
variable {m m' LP:Mem} {p q:Nat}
theorem kC.refl (h:kC m p):PS p m m:=let ⟨A,B,e⟩:=h; ⟨A,B,(set_same e).symm⟩
theorem PS.trans (h:PS p m m') (h':PS p m' LP):PS p m LP:=by
 obtain ⟨A,B,rfl⟩:=h;obtain ⟨A',B',rfl⟩:=h';exact ⟨A',B',by rw [set_set]⟩
theorem PS.len (h:PS p m m'):m'.length=m.length:=by obtain ⟨A,B,rfl⟩:=h; simp
theorem PS.cW (h:PS p m m') (hp:kC m p):kC m' p:=by
 obtain ⟨A,B,rfl⟩:=h;obtain ⟨A',B',e⟩:=hp;exact ⟨A,B,getElem?_set_self (List.getElem?_eq_some_iff.mp e).1⟩
theorem PS.cm (h:PS p m m') (hm:Cm m):Cm m':=by obtain ⟨A,B,rfl⟩:=h; exact hm.set rfl
theorem PS.ne (h:PS p m m') (hq:p≠q):m'[q]?=m[q]?:=by obtain ⟨A,B,rfl⟩:=h; exact getElem?_set_ne hq
theorem kC.lt (h:kC m p):p < m.length:=let ⟨_,_,e⟩:=h; (List.getElem?_eq_some_iff.mp e).1
theorem kC.app {l:Mem} (h:kC m p):kC (m++l) p:=let ⟨A,B,e⟩:=h; ⟨A,B,by rw [getElem?_append_left (List.getElem?_eq_some_iff.mp e).1]; exact e⟩
end
def Draws (f:List W->Mem->R W):Prop:=∀{m:Mem} {p:Nat} {many:Int},kC m p->0 < many->many < 1073741824->∃d m',f [.ref p,.int many] m=.ok (.int d) m'/\PS p m m'/\0<=d/\d < many
theorem lN [DecidableEq α]:∀{l k:List α},l.Nodup->(∀x∈l,x∈k)->l.length<=k.length
 | [],_,_,_=>Nat.zero_le _
 | x::l,k,hn,h=>by
  have hx:=h x mem_cons_self;have hn':=List.nodup_cons.mp hn;have:=lN (l:=l) (k:=k.erase x) hn'.2 λ y hy=>(mem_erase_of_ne (λ z=>by subst z; exact hn'.1 hy)).mpr (h y (mem_cons_of_mem _ hy));rw [length_erase_of_mem hx] at this;have:0 < k.length:=length_pos_of_mem hx;simp;omega
theorem iu {z:Str} (h:z.cps.all (· < 0x110000)=true):toD (n+1) m (.str z)=some (.str z):=by simp only [toD,h,if_true]
theorem gn:∀{ws:List Str},(∀z∈ws,z.cps.all (· < 0x110000)=true)->dG (toD (n+1) m) (ws.map .str)=some (ws.map PyData.str)
 | [],_=>rfl
 | z::r,h=>by
  simp only [map_cons,dG,iu (h z mem_cons_self),gn λ y hy=>h y (mem_cons_of_mem _ hy)]
theorem sJ (a b:Str):PyData.eqv (.str a) (.str b)=decide (a=b):=by
 simp only [PyData.eqv]
 by_cases h:a=b<;>simp [h]
theorem j7 {z:Str} {ws:List Str} (hz:z.cps.all (· < 0x110000)=true) (hw:∀z∈ws,z.cps.all (· < 0x110000)=true):kM m (.str z) (ws.map .str)=.ok (decide (z∈ws)) m:=by
 simp only [kM,iu hz,gn hw];congr 1;rw [any_map]
 induction ws with
 | nil=>simp
 | cons y r ih=>
  have:=ih λ z hz=>hw z (mem_cons_of_mem _ hz);simp only [any_cons,Function.comp,sJ,mem_cons] at this ⊢;rw [this]
  by_cases h:z=y
  ·subst h; simp
  ·have h':¬y=z:=λ e=>h e.symm;simp [h,h']
theorem xY:toD (n+1) m (.fz xs)=(dG (toD n m) xs).map .list:=Eq.trans rfl rfl
theorem sL:toD (n+1) m (.tup xs)=(dG (toD n m) xs).map .tuple:=Eq.trans rfl rfl
theorem AL {a:Nat} (h:m[a]?=some (.lst xs)):toD (n+1) m (.ref a)=(dG (toD n m) xs).map .list:=by
 simp only [toD,getL,h]
theorem iw (h:getL m w=some xs):toD (n+1) m w=(dG (toD n m) xs).map .list:=by
 cases w with
 | ref a=>
  simp only [getL] at h;split at h
  ·rename_i ys e;cases h;exact AL e
  ·cases h
 | fz ys=>cases h; exact xY
 | _=>cases h
theorem gp {k:Nat}:∀ns:List Int,dG (toD (k+1) m) (ns.map .int)=some (ns.map PyData.int)
 | []=>rfl
 | a::r=>by simp only [map_cons,dG,gp r]; rfl
theorem j8 {f:W->Option β} {g:α->W} {h:α->β}:∀{xs:List α},(∀a∈xs,f (g a)=some (h a))->dG f (xs.map g)=some (xs.map h)
 | [],_=>rfl
 | a::r,hh=>by simp only [map_cons,dG,hh a mem_cons_self,j8 λ x hx=>hh x (mem_cons_of_mem _ hx)]
theorem AM {x y:W} {d:PyData} (hx:toD 60 m x=some d) (hy:toD 60 m y=some d):ql m x y=.ok true m:=by
 simp only [ql,hx,hy,PySem.SeqAt.eqv_refl d (cH _ hx).1]
end D
end
section
namespace D
open PySem PySem.Spec PyProof.Rows L2 List
variable {i:Nat} {o:Option (Option Value)} {t:Tb}
abbrev Tb:Type:=Str×Stmt
noncomputable def Tb.x (t:Tb):Str:=match t.2 with
 | .FunctionDef n _ _ _ _ _ _ _ _ _=>n
 | _=>""
noncomputable def Tb.ps (t:Tb):List Str:=(gh t.2).args.map (·.arg)
noncomputable def Tb.nm (t:Tb):List (Str×NameKind):=(bB t.2).names
noncomputable def Tb.N (t:Tb):List Str:=
 let a:=t.ps++(t.nm.filter λ p=>(p.2==.local||p.2==.cell)&&!t.ps.contains p.1).map (·.1)
 a++((bB t.2).more.filterMap λ p=>if p.1=("fast":Str) then (match p.2 with
  | .str x=>some x
  | _=>none) else none).filter λ x=>!a.contains x
noncomputable def HB:ScopeKind->Bool
 | .function=>true
 | _=>false
noncomputable def Tb.sc (t:Tb):Bool:=HB (bB t.2).kind&&!(bB t.2).isCoroutine&&!(bB t.2).isGenerator&&decide t.N.Nodup&&t.N.take t.ps.length==t.ps&&t.ps.all (λ x=>t.nm.lookup x==some .local||t.nm.lookup x==some .cell)&&t.nm.all λ y=>y.2 != .free
section
variable (K:PySem.W.Frag) (p:Pg) (fns:List (Str×(Nat×Nat))) (gl:List (Str×W)) (fz:List Pos) (T:List Tb)
noncomputable def Tb.a (t:Tb):Addr:=match (if t.1=("":Str) then PySem.W.nsIn K mainGlobals t.x else PySem.W.findIn K (.ref (aW K t.1)) t.x) with
 | some (some (.ref f))=>f
 | _=>0
noncomputable def Tb.get {α:Type} (t:Tb) (f:FuncData->α) (d:α):α:=match K.lookup (t.a K) with
 | some o=>match o.data with
  | .func g=>f g
  | _=>d
 | none=>d
noncomputable def Tb.fd (t:Tb):FuncData:=PySem.W.fnOf t.x (t.get K (·.qualname) "") (gh t.2) (dN t.2) (bB t.2) .none .none .none (t.get K (·.pyModule) .none) none (t.get K (·.code) .none) .none
noncomputable def B3 (o:Option (Option Value)) (f:Addr):Bool:=match o with
 | some (some (.ref g))=>g==f
 | _=>false
noncomputable def IQ (o:Option (Option Value)):Bool:=match o with
 | some none=>true
 | _=>false
noncomputable def isA (o:Option (Option Value)):Bool:=match o with
 | some (some (.builtin b))=>b=="object.__setattr__"
 | _=>false
noncomputable def LQ (o:Option (Option Value)) (w:W):Bool:=match o with
 | some (some (.int i _))=>(match w with
  | .int j=>i==j
  | _=>false)
 | some (some (.str i _))=>(match w with
  | .str j=>i==j
  | _=>false)
 | _=>false
noncomputable def HC (C:Addr):Bool:=PySem.W.plainGet K C Str.empty&&PySem.W.hasDictIn K C&&PySem.W.plainOver K C&&isA (PySem.W.findIn K (.ref C) "__setattr__")
noncomputable def IT (o:Option (Option Value)) (s:String):Bool:=match o with
 | some (some (.builtin x))=>x==s
 | _=>false
noncomputable def EI (C:Addr):Bool:=HC K C&&IT (PySem.W.findIn K (.ref C) "__class__") "object.__class__"&&IT (PySem.W.specialIn K (.builtin "object.__class__") "__get__") "getset_descriptor.__get__"&&PySem.W.takesIn K (.builtin "object.__class__")==some true&&PySem.W.mroIn K C (.type "object")==some true
noncomputable def EJ:Value->Tok
 | .int _ t=>t
 | .str _ t=>t
 | _=>0
noncomputable def MC (w:W) (t:Tok):Value:=match w with
 | .int i=>.int i t
 | .str x=>.str x t
 | _=>.none
noncomputable def vV:W->V
 | .int i=>.int i
 | .str x=>.str x
 | _=>.non
noncomputable def KY:W->Bool
 | .int _=>true
 | .str _=>true
 | _=>false
noncomputable def KZ (x:Str):Array DictEntry×Nat:=match K.lookup (aW K x) with
 | some o=>match o.data with
  | .dict es n=>(es,n)
  | _=>(#[],0)
 | none=>(#[],0)
noncomputable def oY (P:Params):List (Str×W)->List DictEntry->List DictEntry
 | kv::r,e::es=>⟨PyData.keyHash P kv.1,.str kv.1 (EJ e.key),MC kv.2 (EJ e.val)⟩::oY P r es
 | _,_=>[]
noncomputable def HD (P:Params) (y:Str×List (Str×W)):Obj:=⟨.type "dict",none,.dict (oY P y.2 (KZ K y.1).1.toList).toArray (KZ K y.1).2,#[]⟩
noncomputable def HE (i:Nat) (x:Str) (q:Tb->Bool):Bool:=match T[i]? with
 | some t=>t.x==x&&q t
 | none=>false
noncomputable def IU:Bool:=
 (jX.all λ x=>IQ (PySem.W.nsIn K mainGlobals x))&&(gl.all λ y=>LQ (PySem.W.nsIn K mainGlobals y.1) y.2) &&
 (fns.all λ y=>HE T y.2.1 y.1 λ t=>t.ps.length==y.2.2&&B3 (PySem.W.nsIn K mainGlobals y.1) (t.a K)) &&
 (p.cs.mths.all λ y=>HC K (aW K y.1.1)&&HE T y.2 y.1.2 λ t=>B3 (PySem.W.findIn K (.ref (aW K y.1.1)) y.1.2) (t.a K)&&PySem.W.isFn K (.ref (t.a K))) &&
 (p.cs.ini.all λ y=>PySem.W.makesIn K (aW K y.1)&&PySem.W.keepIn K (.ref (aW K y.1))&&B3 (PySem.W.nsIn K mainGlobals y.1) (aW K y.1)&&HE T y.2 "__init__" λ t=>B3 (PySem.W.findIn K (.ref (aW K y.1)) "__init__") (t.a K)&&PySem.W.isFn K (.ref (t.a K))) &&
 (p.cs.flds.all λ y=>HC K (aW K y.1)&&IQ (PySem.W.findIn K (.ref (aW K y.1)) y.2)) &&
 (p.cs.dic.all λ y=>B3 (PySem.W.nsIn K mainGlobals y.1) (aW K y.1)&&y.2.all (λ kv=>KY kv.2)&&y.2.length==(KZ K y.1).1.toList.length&&!(aW K y.1==sysModules)) &&
 (p.cs.isc.all λ x=>B3 (PySem.W.nsIn K mainGlobals x) (aW K x)&&EI K (aW K x)) &&
 T.all λ t=>PySem.W.keepIn K (.ref (t.a K))&&PySem.W.codeIn K (t.fd K).code (t.fd K).qualname
structure Stat:Prop where
 c:T.map (λ t=>(xC (cS 60 ⟨t.N,t.nm,fns,gl,p.cs,fz⟩) (dN t.2)).map (Fn.mk t.ps.length t.N.length))=p.fns.map some
 s:T.all Tb.sc=true
 b:T.map (λ t q pm cd (f:Nat->Value)=>bindArgs (PySem.W.fnOf t.x q (gh t.2) (dN t.2) (bB t.2) .none .none .none pm none cd .none) ⟨(List.range t.ps.length).map f,[]⟩)=T.map λ t q pm cd f=>pure (t.ps.zip ((List.range t.ps.length).map f))
end
variable {K:PySem.W.Frag} {p:Pg} {fns:List (Str×(Nat×Nat))} {gl:List (Str×W)} {fz:List Pos} {T:List Tb}
theorem qQ {α β:Type} {f g:α->β} {l:List α} (h:l.map f=l.map g) {x:α} (hx:l[i]?=some x):f x=g x:=by
 have e:=congrArg (λ l=>l[i]?) h;simpa [hx] using e
theorem gQ {f:Addr} (h:B3 o f=true):o=some (some (.ref f)):=by
 unfold B3 at h;split at h
 ·rw [eq_of_beq h]
 ·cases h
theorem xZ (h:IQ o=true):o=some none:=by
 unfold IQ at h;split at h
 ·rfl
 ·cases h
theorem EK (h:isA o=true):o=some (some (.builtin "object.__setattr__")):=by
 unfold isA at h;split at h
 ·rw [eq_of_beq h]
 ·cases h
theorem qR {C:Addr} (h:HC K C=true):tV K C:=by
 simp only [HC,Bool.and_eq_true] at h;exact ⟨h.1.1.1,h.1.1.2,h.1.2,EK h.2⟩
theorem x8 {s:String} (h:IT o s=true):o=some (some (.builtin s)):=by
 unfold IT at h;split at h
 ·rw [eq_of_beq h]
 ·cases h
theorem AN {C:Addr} (h:EI K C=true):wC K C:=by
 simp only [EI,Bool.and_eq_true] at h;exact ⟨qR h.1.1.1.1,x8 h.1.1.1.2,x8 h.1.1.2,eq_of_beq h.1.2,eq_of_beq h.2⟩
theorem ni {x:Str} {q:Tb->Bool} (h:HE T i x q=true):∃t,T[i]?=some t/\t.x=x/\q t=true:=by
 unfold HE at h;split at h
 ·rename_i t e;rw [Bool.and_eq_true] at h;exact ⟨t,e,eq_of_beq h.1,h.2⟩
 ·cases h
theorem x9 (us:List Value):(List.range us.length).map (λ i=>us.getD i .none)=us:=by
 apply ext_getElem
 ·simp
 ·intro i h1 h2;simp [List.getD,h2]
theorem B4 (S:Stat p fns gl fz T) (ht:T[i]?=some t) {us:List Value} (hl:us.length=t.ps.length):bindArgs (t.fd K) ⟨us,[]⟩=pure (t.ps.zip us):=by
 have z:=congrFun (congrFun (congrFun (congrFun (qQ S.b ht) (t.get K (·.qualname) "")) (t.get K (·.pyModule) .none)) (t.get K (·.code) .none)) (λ i=>us.getD i .none);rw [<-hl,x9] at z;exact z
theorem sM (S:Stat p fns gl fz T) (hf:T.map (λ t=>(K.lookup (t.a K)).map Obj.data)=T.map λ t=>some (.func (t.fd K))) (hk:T.all (λ t=>PySem.W.keepIn K (.ref (t.a K))&&PySem.W.codeIn K (t.fd K).code (t.fd K).qualname)=true)
 (ht:T[i]?=some t):FD K p fns gl fz i t.x (t.a K) (t.fd K) t.ps:=by
 have hm:=mem_of_getElem? ht;have k:=List.all_eq_true.mp hk t hm;rw [Bool.and_eq_true] at k;have e:=qQ hf ht;rw [Option.map_eq_some_iff] at e;obtain ⟨o,e1,e2⟩:=e;obtain ⟨oc,od,da,osl⟩:=o;cases e2;have F:=Dn (st:=t.2) e1 k.2 k.1;have s:=List.all_eq_true.mp S.s t hm;simp only [Tb.sc,Bool.and_eq_true,Bool.not_eq_true',decide_eq_true_eq,all_eq_true,Bool.or_eq_true,beq_iff_eq,bne_iff_ne] at s;have c:(xC (cS 60 ⟨t.N,t.nm,fns,gl,p.cs,fz⟩) (dN t.2)).map (Fn.mk t.ps.length t.N.length)=p.fns[i]?:=by
  have z:=congrArg (λ l=>l[i]?) S.c;simp only [getElem?_map,ht,Option.map_some] at z;cases hp:p.fns[i]? with
  | none=>rw [hp] at z; cases z
  | some d=>rw [hp] at z; exact Option.some.inj z
 have hi:i < p.fns.length:=by
  have z:=congrArg List.length S.c;simp only [length_map] at z;have:=(List.getElem?_eq_some_iff.mp ht).1;omega
 rw [getElem?_eq_getElem hi,Option.map_eq_some_iff] at c;obtain ⟨b,c1,c2⟩:=c;refine ⟨_,t.2,t.N,b,F,⟨?_,s.1.1.1.1.1.2,s.1.1.1.1.2,s.1.1.1.2,s.1.1.2,s.1.2,s.2⟩,c1,by rw [getElem?_eq_getElem hi,<-c2],Binds.all λ us hl=>?_⟩
 ·have z:=s.1.1.1.1.1.1;unfold HB at z;split at z
  ·assumption
  ·cases z
 ·exact B4 S ht hl
theorem oZ {P:Params}:∀(kvs:List (Str×W)) (es:List DictEntry),PySem.W.KeysLit P (oY P kvs es)
 | [],_=>by unfold oY; rw [PySem.W.KeysLit.eq_def]; trivial
 | _::_,[]=>by unfold oY; rw [PySem.W.KeysLit.eq_def]; trivial
 | kv::r,e::es=>by
  unfold oY;rw [PySem.W.KeysLit.eq_def];exact ⟨⟨_,_,rfl,rfl⟩,oZ r es⟩
theorem pe {P:Params} {x:Str}:∀(kvs:List (Str×W)) (es:List DictEntry),kvs.length=es.length->kvs.all (λ kv=>KY kv.2)=true->eL ((kvs.map λ kv=>(kv.1,vV kv.2)).lookup x) (((oY P kvs es).find? λ e=>Value.isStrOf x e.key).map (·.val))
 | [],[],_,_=>trivial
 | [],_::_,h,_=>by simp at h
 | _::_,[],h,_=>by simp at h
 | (k,w)::r,e::es,h,hc=>by
  rw [all_cons,Bool.and_eq_true] at hc;have ih:=pe (P:=P) (x:=x) r es (by simpa using h) hc.2;unfold oY;rw [map_cons,lookup_cons,find?_cons];have e1:Value.isStrOf x (Value.str k (EJ e.key))=(k==x):=rfl;simp only [e1]
  by_cases hk:k=x
  ·subst hk;simp only [BEq.rfl,Option.map_some];cases w<;>first | exact ⟨_,rfl⟩ | cases hc.1
  ·have h1:(x==k)=false:=by simpa using λ e=>hk e.symm
   have h2:(k==x)=false:=by simpa using hk
   rw [h1,h2];exact ih
theorem B5 {β:List Addr} {H:Hp}:∀(kvs:List (Str×W)),kvs.all (λ kv=>KY kv.2)=true->eT K β H kvs (kvs.map λ kv=>(kv.1,vV kv.2))
 | [],_=>.nil
 | (k,w)::r,hc=>by
  rw [all_cons,Bool.and_eq_true] at hc;refine .cons ?_ (B5 r hc.2);cases w<;>first | exact .int _ | exact .str _ | cases hc.1
theorem HF {h:Heap} {w:World} (hdc:p.cs.dic.map (λ y=>K.lookup (aW K y.1))=p.cs.dic.map λ y=>some (HD K w.params y)) {mg:Str->Option Value} (X:K.In h) (G:h.Ns mainGlobals mg) (S:Stat p fns gl fz T) (hf:T.map (λ t=>(K.lookup (t.a K)).map Obj.data)=T.map λ t=>some (.func (t.fd K))) (hc:IU K p fns gl T=true):FA K w mg p fns gl fz:=by
 simp only [IU,Bool.and_eq_true] at hc;obtain ⟨⟨⟨⟨⟨⟨⟨⟨c1,c2⟩,c3⟩,c4⟩,c5⟩,c6⟩,c8⟩,c9⟩,c7⟩:=hc;have c7:T.all (λ t=>PySem.W.keepIn K (.ref (t.a K))&&PySem.W.codeIn K (t.fd K).code (t.fd K).qualname)=true:=c7;rw [all_eq_true] at c1 c2 c3 c4 c5 c6 c8 c9;have kp:∀{i:Nat} {t:Tb},T[i]?=some t->PySem.W.keepIn K (.ref (t.a K))=true:=λ ht=>(Bool.and_eq_true_iff.mp (List.all_eq_true.mp c7 _ (mem_of_getElem? ht))).1;refine ⟨λ x hx=>PySem.W.mg_none_of X G (xZ (c1 x hx)),λ {x w} hx=>?_,λ {x i np} hx=>?_,λ {c x i} hx=>?_,λ {c i} hx=>?_,λ {c x} hx=>?_,λ {x kvs} hx=>?_,λ {x} hx=>?_⟩
 ·have z:=c2 _ (lookup_mem hx);unfold LQ at z;split at z
  ·rename_i i t e;split at z
   ·rename_i j ej;cases ej;cases eq_of_beq z; exact ⟨_,.int _,PySem.W.mg_of X G e,⟨_,rfl⟩,λ _ _=>.int _⟩
   ·cases z
  ·rename_i i t e;split at z
   ·rename_i j ej;cases ej;cases eq_of_beq z; exact ⟨_,.str _,PySem.W.mg_of X G e,⟨_,rfl⟩,λ _ _=>.str _⟩
   ·cases z
  ·cases z
 ·obtain ⟨t,e1,rfl,e3⟩:=ni (c3 _ (lookup_mem hx));rw [Bool.and_eq_true] at e3;exact ⟨t.a K,_,t.ps,eq_of_beq e3.1,sM S hf c7 e1,PySem.W.mg_of X G (gQ e3.2)⟩
 ·have z:=c4 _ (oS hx);rw [Bool.and_eq_true] at z;obtain ⟨t,e1,rfl,e3⟩:=ni z.2;rw [Bool.and_eq_true] at e3;exact ⟨t.a K,_,t.ps,sM S hf c7 e1,qR z.1,gQ e3.1,e3.2,kp e1⟩
 ·have z:=c5 _ (lookup_mem hx);simp only [Bool.and_eq_true] at z;obtain ⟨t,e1,e2,e3⟩:=ni z.2;rw [Bool.and_eq_true] at e3;exact ⟨t.a K,_,t.ps,e2▸sM S hf c7 e1,⟨z.1.1.1,gQ e3.1,e3.2,z.1.1.2⟩,PySem.W.mg_of X G (gQ z.1.2)⟩
 ·have z:=c6 _ (List.contains_iff_mem.mp hx);rw [Bool.and_eq_true] at z;exact ⟨qR z.1,xZ z.2⟩
 ·have hm:=lookup_mem hx;have z:=c8 _ hm;simp only [Bool.and_eq_true,beq_iff_eq,Bool.not_eq_true'] at z;obtain ⟨⟨⟨z1,z2⟩,z3⟩,z4⟩:=z;obtain ⟨i,hi⟩:=getElem?_of_mem hm;have e:=qQ hdc hi;refine ⟨aW K x,kvs.map λ kv=>(kv.1,vV kv.2),PySem.W.mg_of X G (gQ z1),⟨⟨_,_,e,?_,λ y=>?_⟩,z4⟩,fun β H=>B5 kvs z2⟩
  ·exact oZ _ _
  ·unfold findBy;rw [find?_toArray];exact pe kvs _ z3 z2
 ·have z:=c9 _ (List.contains_iff_mem.mp hx);rw [Bool.and_eq_true] at z;exact ⟨PySem.W.mg_of X G (gQ z.1),AN z.2⟩
theorem HG {l:PySem.W.OpenLaw} {w:World} {h:Heap} {mg:Str->Option Value} {fa:Addr} {x:Str} (X:K.In h) (G:h.Ns mainGlobals mg) (MD:mg "law"=some (.ref fa)) (S:Stat p fns gl fz T) (hi:fns.lookup ("law":Str)=some (i,1)) (ht:T[i]?=some t) (hx:t.ps=[x])
  (hf:T.map (λ t=>(K.lookup (t.a K)).map Obj.data)=T.map λ t=>some (.func (t.fd K))) (hc:IU K p fns gl T=true) (hdc:p.cs.dic.map (λ y=>K.lookup (aW K y.1))=p.cs.dic.map λ y=>some (HD K w.params y)) :
  ∃fd:FuncData,(∀(s:Shared) (v:Value),BindsTo s fd ⟨[v],[]⟩ [(x,v)])/\∀base:Heap,K.In base->base.Ns mainGlobals mg->eN l.prog w K mg base t7 80 fa fd [x] (u7 K ⟨l.prog,w⟩ 1 (runN p 40 i)):=by
 have hc':=hc;simp only [IU,Bool.and_eq_true] at hc';obtain ⟨⟨⟨⟨⟨⟨⟨⟨c1,c2⟩,c3⟩,c4⟩,c5⟩,c6⟩,c8⟩,c9⟩,c7⟩:=hc';obtain ⟨t',e1,e2,e3⟩:=ni (List.all_eq_true.mp c3 _ (lookup_mem hi));cases ht.symm.trans e1;rw [Bool.and_eq_true] at e3;cases MD.symm.trans (PySem.W.mg_of X G (gQ e3.2));have z:=sM S hf c7 ht;rw [hx] at z;refine ⟨t.fd K,λ s v=>.of_eq ?_,λ base _ _=>sound (HF hdc X G S hf hc) 40 z⟩;have z:=B4 (K:=K) S ht (us:=[v]) (by rw [hx]; rfl);rw [hx] at z;exact z
end D
end
section
namespace My
open PySem L2 D List
noncomputable def B6:List (Str×W):=[("wire",(.int 2)),("made",(.int 2)),("broken",(.int 2)),("swap",(.int 3)),("coil",(.int 2)),("lamp",(.int 2))]
noncomputable def b0:Ss:=(.cons (.expr (.call 7 (.cons (.var 1) (.cons (.var 2) (.cons (.var 3) (.cons (.var 4) (.cons (.var 5) (.cons (.var 6) .nil)))))))) (.cons (.fas (.var 0) "key_list" (.frz (.blt .list (.cons (.var 1) .nil)))) (.cons (.fas (.var 0) "relay_list" (.frz (.blt .list (.cons (.var 2) .nil)))) (.cons (.fas (.var 0) "lamp_list" (.frz (.blt .list (.cons (.var 3) .nil)))) (.cons (.fas (.var 0) "many_nodes" (.var 4)) (.cons (.fas (.var 0) "piece_list" (.frz (.blt .list (.cons (.var 5) .nil)))) (.cons (.fas (.var 0) "time_list" (.frz (.blt .list (.cons (.var 6) .nil)))) .nil)))))))
noncomputable def b1:Ss:=(.cons (.ret (.blt .list (.cons (.fld (.var 0) "key_list") .nil))) .nil)
noncomputable def b2:Ss:=(.cons (.ret (.blt .list (.cons (.fld (.var 0) "relay_list") .nil))) .nil)
noncomputable def b3:Ss:=(.cons (.ret (.blt .list (.cons (.fld (.var 0) "lamp_list") .nil))) .nil)
noncomputable def b4:Ss:=(.cons (.ret (.fld (.var 0) "many_nodes")) .nil)
noncomputable def b5:Ss:=(.cons (.ret (.blt .list (.cons (.fld (.var 0) "piece_list") .nil))) .nil)
noncomputable def b6:Ss:=(.cons (.ret (.blt .list (.cons (.fld (.var 0) "time_list") .nil))) .nil)
noncomputable def b7:Ss:=(.cons (.expr (.call 8 (.cons (.var 0) (.cons (.var 1) (.cons (.var 2) .nil))))) (.cons (.expr (.call 11 (.cons (.var 0) (.cons (.var 1) (.cons (.var 2) .nil))))) (.cons (.expr (.call 12 (.cons (.var 3) (.cons (.blt .len (.cons (.var 4) .nil)) .nil)))) (.cons (.expr (.call 13 (.cons (.var 0) (.cons (.var 1) (.cons (.var 2) (.cons (.var 3) (.cons (.var 4) .nil))))))) (.cons (.expr (.call 18 (.cons (.cst (.str "coil")) (.cons (.var 1) (.cons (.var 4) .nil))))) (.cons (.expr (.call 18 (.cons (.cst (.str "lamp")) (.cons (.var 2) (.cons (.var 4) .nil))))) (.cons (.expr (.call 19 (.cons (.var 1) (.cons (.var 5) .nil)))) .nil)))))))
noncomputable def b8:Ss:=(.cons (.asg (.pt (.var 3)) (.call 9 (.cons (.frz (.bin .Add (.frz (.bin .Add (.var 0) (.var 1))) (.var 2))) .nil))) (.cons (.ife (.cmp .IsNot (.var 3) (.cst .non)) (.cons .never .nil) .nil) .nil))
noncomputable def EL:Ss:=(.cons (.ife (.or (.not (.call 10 (.cons (.var 3) .nil))) (.cmp .In (.var 3) (.var 1))) (.cons (.ret (.var 2)) .nil) .nil) (.cons (.expr (.meth (.var 1) "add" (.cons (.var 3) .nil))) .nil))
noncomputable def b9:Ss:=(.cons (.asg (.pt (.var 1)) .gJ) (.cons (.for_ (.tup (.cons (.var 2) (.cons (.var 3) .nil))) (.enm (.var 0)) EL) (.cons (.ret (.cst .non)) .nil)))
noncomputable def IV:Ss:=(.cons (.ret (.and (.chain .LtE .LtE (.cst (.int 1)) (.blt .len (.cons (.var 0) .nil)) (.cst (.int 8))) (.blt .all (.cons (.frz (.comp (.gen (.var 1) [1] (.var 0) .nil (.elt (.chain .LtE .LtE (.cst (.str "a")) (.var 1) (.cst (.str "z"))))))) .nil)))) .nil)
noncomputable def pq:Ss:=(.cons (.ife (.cmp .Gt (.blt .len (.cons (.var 5) .nil)) (.var 6)) (.cons .never .nil) .nil) .nil)
noncomputable def IW:Ss:=(.cons (.asg (.pt (.var 3)) (.tup (.cons (.tup (.cons (.var 0) (.cons (.cst (.int 2)) .nil))) (.cons (.tup (.cons (.var 1) (.cons (.cst (.int 4)) .nil))) (.cons (.tup (.cons (.var 2) (.cons (.cst (.int 2)) .nil))) .nil))))) (.cons (.for_ (.tup (.cons (.var 4) (.cons (.tup (.cons (.var 5) (.cons (.var 6) .nil))) .nil))) (.enm (.var 3)) pq) .nil))
noncomputable def IX:Ss:=(.cons (.ife (.not (.chain .LtE .LtE (.cst (.int 2)) (.var 0) (.cst (.int 640)))) (.cons .never .nil) .nil) (.cons (.ife (.cmp .Gt (.var 1) (.cst (.int 800))) (.cons .never .nil) .nil) .nil))
noncomputable def ya:Ss:=(.cons (.ife (.not (.call 14 (.cons (.var 8) (.cons (.var 6) (.cons (.var 3) .nil))))) (.cons .never .nil) .nil) .nil)
noncomputable def IY:Ss:=(.cons (.asg (.pt (.var 5)) (.frz (.bin .Add (.var 0) (.var 1)))) (.cons (.asg (.pt (.var 6)) (.fus (.dict ["made","broken","swap","coil","lamp"]) (.tup (.cons (.var 5) (.cons (.var 5) (.cons (.var 5) (.cons (.var 1) (.cons (.var 2) .nil)))))))) (.cons (.for_ (.tup (.cons (.var 7) (.cons (.var 8) .nil))) (.enm (.var 4)) ya) .nil)))
noncomputable def IZ:Ss:=(.cons (.ife (.or (.not (.var 0)) (.fus (.knin B6) (.idx (.var 0) (.cst (.int 0))))) (.cons (.ret (.cst (.bl false))) .nil) .nil) (.cons (.asg (.pt (.var 3)) (.idx (.var 0) (.cst (.int 0)))) (.cons (.ife (.and (.cmp .In (.var 3) (.var 1)) (.or (.cmp .Lt (.blt .len (.cons (.var 0) .nil)) (.cst (.int 2))) (.cmp .NotIn (.idx (.var 0) (.cst (.int 1))) (.idx (.var 1) (.var 3))))) (.cons (.ret (.cst (.bl false))) .nil) .nil) (.cons (.asg (.pt (.var 4)) (.call 15 (.cons (.var 0) .nil))) (.cons (.ret (.and (.cmp .Eq (.blt .len (.cons (.var 4) .nil)) (.fus (.kget B6) (.var 3))) (.call 16 (.cons (.var 4) (.cons (.var 2) .nil))))) .nil)))))
noncomputable def I0:Ss:=(.cons (.ret (.ife (.cmp .Eq (.idx (.var 0) (.cst (.int 0))) (.cst (.str "wire"))) (.slc (.var 0) (.some (.cst (.int 1))) .none) (.slc (.var 0) (.some (.cst (.int 2))) .none))) .nil)
noncomputable def I8:Ss:=(.cons (.ret (.and (.blt .all (.cons (.frz (.comp (.gen (.var 2) [2] (.var 0) .nil (.elt (.and (.call 17 (.cons (.var 2) .nil)) (.chain .LtE .Lt (.cst (.int 0)) (.var 2) (.var 1))))))) .nil)) (.cmp .Eq (.fus .jK (.var 0)) (.blt .len (.cons (.var 0) .nil))))) .nil)
noncomputable def ME:Ss:=(.cons (.ret (.and (.isI (.var 0) "int") (.not (.isI (.var 0) "bool")))) .nil)
noncomputable def yb:Ss:=(.cons (.ife (.cmp .NotEq (.meth (.var 3) "count" (.cons (.var 5) .nil)) (.cst (.int 1))) (.cons .never .nil) .nil) .nil)
noncomputable def I9:Ss:=(.cons (.asg (.pt (.var 3)) (.comp (.gen (.var 6) [6] (.var 2) (.cons (.cmp .Eq (.idx (.var 6) (.cst (.int 0))) (.var 0)) .nil) (.elt (.idx (.var 6) (.cst (.int 1))))))) (.cons (.for_ (.tup (.cons (.var 4) (.cons (.var 5) .nil))) (.enm (.var 1)) yb) .nil))
noncomputable def yc:Ss:=(.cons (.ife (.not (.call 20 (.cons (.var 3) .nil))) (.cons .never .nil) .nil) .nil)
noncomputable def Ja:Ss:=(.cons (.for_ (.tup (.cons (.var 2) (.cons (.var 3) .nil))) (.enm (.slc (.var 1) .none (.some (.blt .len (.cons (.var 0) .nil))))) yc) (.cons (.ife (.cmp .NotEq (.blt .len (.cons (.var 1) .nil)) (.blt .len (.cons (.var 0) .nil))) (.cons .never .nil) .nil) .nil))
noncomputable def Jb:Ss:=(.cons (.ife (.or (.cmp .NotEq (.blt .len (.cons (.var 0) .nil)) (.cst (.int 4))) (.not (.blt .all (.cons (.frz (.comp (.gen (.var 1) [1] (.var 0) .nil (.elt (.chain .LtE .LtE (.cst (.int 1)) (.var 1) (.cst (.int 4))))))) .nil)))) (.cons (.ret (.cst (.bl false))) .nil) .nil) (.cons (.ret (.and (.cmp .LtE (.idx (.var 0) (.cst (.int 0))) (.idx (.var 0) (.cst (.int 1)))) (.cmp .LtE (.idx (.var 0) (.cst (.int 2))) (.idx (.var 0) (.cst (.int 3)))))) .nil))
noncomputable def yd:Ss:=(.cons (.expr (.meth (.var 1) "append" (.cons (.frz (.bin .Add (.lst (.cons (.cst (.str "relay")) (.cons (.var 2) .nil))) (.frz (.blt .list (.cons (.var 3) .nil))))) .nil))) .nil)
noncomputable def ye:Ss:=(.cons (.expr (.meth (.var 1) "append" (.cons (.frz (.blt .list (.cons (.var 4) .nil))) .nil))) .nil)
noncomputable def Jc:Ss:=(.cons (.asg (.pt (.var 1)) (.lst (.cons (.frz (.bin .Add (.lst (.cons (.cst (.str "keys")) .nil)) (.frz (.mth (.var 0) "key_words" .nil)))) .nil))) (.cons (.for_ (.tup (.cons (.var 2) (.cons (.var 3) .nil))) (.zip (.cons (.frz (.mth (.var 0) "relays" .nil)) (.cons (.frz (.mth (.var 0) "times" .nil)) .nil))) yd) (.cons (.expr (.meth (.var 1) "append" (.cons (.frz (.bin .Add (.lst (.cons (.cst (.str "lamps")) .nil)) (.frz (.mth (.var 0) "lamps" .nil)))) .nil))) (.cons (.expr (.meth (.var 1) "append" (.cons (.frz (.lst (.cons (.cst (.str "nodes")) (.cons (.frz (.mth (.var 0) "nodes" .nil)) .nil)))) .nil))) (.cons (.for_ (.var 4) (.frz (.mth (.var 0) "pieces" .nil)) ye) (.cons (.ret (.meth (.cst (.str "")) "join" (.cons (.frz (.comp (.gen (.var 5) [5] (.var 1) .nil (.elt (.call 22 (.cons (.var 5) .nil)))))) .nil))) .nil))))))
noncomputable def Jd:Ss:=(.cons (.ret (.bin .Add (.meth (.cst (.str " ")) "join" (.cons (.frz (.comp (.gen (.var 1) [1] (.var 0) .nil (.elt (.blt .str (.cons (.var 1) .nil)))))) .nil)) (.cst (.str "\n")))) .nil)
noncomputable def Je:Ss:=(.cons (.asg (.pt (.var 1)) (.call 24 (.cons (.var 0) .nil))) (.cons (.asg (.pt (.var 2)) (.bin .Add (.call 25 (.cons (.var 1) .nil)) (.cst (.int 1)))) (.cons (.asg (.pt (.var 3)) (.frz (.comp (.gen (.var 11) [11] (.frz (.bin .Add (.frz (.slc (.var 1) .none (.some (.cst (.int 1))))) (.frz (.slc (.var 1) (.some (.var 2)) (.some (.bin .Add (.var 2) (.cst (.int 2)))))))) .nil (.elt (.idx (.var 11) (.cst (.int 0)))))))) (.cons (.ife (.cmp .NotEq (.var 3) (.frz (.lst (.cons (.cst (.str "keys")) (.cons (.cst (.str "lamps")) (.cons (.cst (.str "nodes")) .nil)))))) (.cons .never .nil) .nil) (.cons (.asg (.pt (.var 4)) (.frz (.comp (.gen (.var 11) [11] (.frz (.slc (.var 1) (.some (.cst (.int 1))) (.some (.var 2)))) .nil (.elt (.call 26 (.cons (.var 11) .nil))))))) (.cons (.asg (.pt (.var 5)) (.slc (.idx (.var 1) (.cst (.int 0))) (.some (.cst (.int 1))) .none)) (.cons (.asg (.pt (.var 6)) (.comp (.gen (.tup (.cons (.var 12) (.cons (.var 13) .nil))) [12,13] (.var 4) .nil (.elt (.var 12))))) (.cons (.asg (.pt (.var 7)) (.comp (.gen (.tup (.cons (.var 12) (.cons (.var 13) .nil))) [12,13] (.var 4) .nil (.elt (.var 13))))) (.cons (.asg (.pt (.var 8)) (.slc (.idx (.var 1) (.var 2)) (.some (.cst (.int 1))) .none)) (.cons (.asg (.pt (.var 9)) (.call 27 (.cons (.idx (.var 1) (.bin .Add (.var 2) (.cst (.int 1)))) .nil))) (.cons (.asg (.pt (.var 10)) (.comp (.gen (.var 11) [11] (.frz (.slc (.var 1) (.some (.bin .Add (.var 2) (.cst (.int 2)))) .none)) .nil (.elt (.call 28 (.cons (.var 11) .nil)))))) (.cons (.ife (.cst (.bl true)) (.cons (.ret (.make "Net" (.cons (.var 5) (.cons (.var 6) (.cons (.var 8) (.cons (.var 9) (.cons (.var 10) (.cons (.var 7) .nil)))))))) .nil) .nil) .nil))))))))))))
noncomputable def Jf:Ss:=(.cons (.ife (.not (.meth (.var 0) "endswith" (.cons (.cst (.str "\n")) .nil))) (.cons .never .nil) .nil) (.cons (.ret (.frz (.comp (.gen (.var 1) [1] (.frz (.meth (.slc (.var 0) .none (.some (.neg (.cst (.int 1))))) "split" (.cons (.cst (.str "\n")) .nil))) .nil (.elt (.frz (.meth (.var 1) "split" (.cons (.cst (.str " ")) .nil)))))))) .nil))
noncomputable def sN:Ss:=(.cons (.aug 1 .Add (.cst (.int 1))) .nil)
noncomputable def Jg:Ss:=(.cons (.asg (.pt (.var 1)) (.cst (.int 0))) (.cons (.while_ (.and (.cmp .Lt (.bin .Add (.var 1) (.cst (.int 1))) (.blt .len (.cons (.var 0) .nil))) (.cmp .Eq (.idx (.idx (.var 0) (.bin .Add (.var 1) (.cst (.int 1)))) (.cst (.int 0))) (.cst (.str "relay")))) sN) (.cons (.ret (.var 1)) .nil)))
noncomputable def Jh:Ss:=(.cons (.ife (.cmp .NotEq (.blt .len (.cons (.var 0) .nil)) (.cst (.int 6))) (.cons .never .nil) .nil) (.cons (.ret (.tup (.cons (.idx (.var 0) (.cst (.int 1))) (.cons (.blt .tuple (.cons (.frz (.comp (.gen (.var 1) [1] (.frz (.slc (.var 0) (.some (.cst (.int 2))) .none)) .nil (.elt (.call 29 (.cons (.var 1) .nil)))))) .nil)) .nil)))) .nil))
noncomputable def Ji:Ss:=(.cons (.ife (.cmp .NotEq (.blt .len (.cons (.var 0) .nil)) (.cst (.int 2))) (.cons .never .nil) .nil) (.cons (.ret (.call 29 (.cons (.idx (.var 0) (.cst (.int 1))) .nil))) .nil))
noncomputable def Jj:Ss:=(.cons (.ret (.blt .tuple (.cons (.frz (.comp (.gen (.var 1) [1] (.var 0) .nil (.elt (.ife (.call 30 (.cons (.var 1) .nil)) (.blt .int (.cons (.var 1) .nil)) (.var 1)))))) .nil))) .nil)
noncomputable def Jk:Ss:=(.cons (.ife (.not (.call 30 (.cons (.var 0) .nil))) (.cons .never .nil) .nil) (.cons (.ret (.blt .int (.cons (.var 0) .nil))) .nil))
noncomputable def HH:Ss:=(.cons (.ife (.or (.not (.chain .LtE .LtE (.cst (.int 1)) (.blt .len (.cons (.var 0) .nil)) (.cst (.int 12)))) (.not (.blt .all (.cons (.frz (.comp (.gen (.var 1) [1] (.var 0) .nil (.elt (.cmp .In (.var 1) (.cst (.str "0123456789"))))))) .nil)))) (.cons (.ret (.cst (.bl false))) .nil) .nil) (.cons (.ret (.or (.cmp .Eq (.var 0) (.cst (.str "0"))) (.cmp .NotEq (.idx (.var 0) (.cst (.int 0))) (.cst (.str "0"))))) .nil))
noncomputable def K0:Ss:=(.cons (.asg (.pt (.var 2)) (.cst (.int 0))) (.cons (.ife (.cmp .Lt (.var 1) (.blt .len (.cons (.var 0) .nil))) (.cons (.asg (.pt (.var 2)) (.idx (.var 0) (.var 1))) .nil) .nil) (.cons (.ret (.lst (.cons (.blt .max (.cons (.cst (.int 0)) (.cons (.bin .Sub (.var 2) (.bin .Pow (.cst (.int 10)) (.cst (.int 18)))) .nil))) (.cons (.bin .Add (.bin .Mod (.bin .Add (.bin .Add (.blt .abs (.cons (.var 2) .nil)) (.bin .Mult (.cst (.int 7919)) (.var 1))) (.cst (.int 31))) (.cst (.int 2147483646))) (.cst (.int 1))) .nil)))) .nil)))
noncomputable def K7:Ss:=(.cons (.ife (.cmp .Gt (.idx (.var 0) (.cst (.int 0))) (.cst (.int 0))) (.cons (.asg (.tup (.cons (.sub (.var 0) (.cst (.int 0))) (.cons (.pt (.var 2)) .nil))) (.blt .divmod (.cons (.idx (.var 0) (.cst (.int 0))) (.cons (.var 1) .nil)))) (.cons (.ret (.var 2)) .nil)) .nil) (.cons (.asg (.sub (.var 0) (.cst (.int 1))) (.bin .Mod (.bin .Mult (.idx (.var 0) (.cst (.int 1))) (.cst (.int 48271))) (.cst (.int 2147483647)))) (.cons (.ret (.bin .Mod (.bin .FloorDiv (.bin .Mod (.bin .Mult (.idx (.var 0) (.cst (.int 1))) (.idx (.var 0) (.cst (.int 1)))) (.cst (.int 2147483629))) (.cst (.int 7))) (.var 1))) .nil)))
noncomputable def Fj:Ss:=(.cons (.asg (.pt (.var 2)) (.cst (.str "abcdefghijklmnopqrstuvwxyz"))) (.cons (.asg (.pt (.var 3)) (.call 32 (.cons (.var 0) (.cons (.cst (.int 8)) .nil)))) (.cons (.ife (.cmp .Eq (.var 3) (.cst (.int 7))) (.cons (.asg (.pt (.var 4)) (.idx (.frz (.lst (.cons (.cst (.str "keys")) (.cons (.cst (.str "relay")) (.cons (.cst (.str "lamps")) (.cons (.cst (.str "nodes")) (.cons (.cst (.str "wire")) (.cons (.cst (.str "made")) (.cons (.cst (.str "broken")) (.cons (.cst (.str "swap")) (.cons (.cst (.str "coil")) (.cons (.cst (.str "lamp")) .nil)))))))))))) (.call 32 (.cons (.var 0) (.cons (.cst (.int 10)) .nil))))) .nil) (.cons (.asg (.pt (.var 5)) (.bin .Add (.cst (.int 1)) (.bin .Mult (.bin .Mod (.var 3) (.cst (.int 2))) (.call 32 (.cons (.var 0) (.cons (.cst (.int 8)) .nil)))))) (.cons (.asg (.pt (.var 4)) (.meth (.cst (.str "")) "join" (.cons (.frz (.comp (.gen (.var 6) [6] (.rng (.var 5)) .nil (.elt (.idx (.var 2) (.call 32 (.cons (.var 0) (.cons (.cst (.int 26)) .nil)))))))) .nil))) .nil))) (.cons (.ife (.cmp .In (.var 4) (.var 1)) (.cons (.asg (.pt (.var 4)) (.idx (.frz (.comp (.gen (.var 7) [7] (.var 2) (.cons (.cmp .NotIn (.bin .Add (.slc (.var 4) .none (.some (.cst (.int 7)))) (.var 7)) (.var 1)) .nil) (.elt (.bin .Add (.slc (.var 4) .none (.some (.cst (.int 7)))) (.var 7)))))) (.cst (.int 0)))) .nil) .nil) (.cons (.expr (.meth (.var 1) "append" (.cons (.var 4) .nil))) (.cons (.ret (.var 4)) .nil))))))
noncomputable def Jl:Ss:=(.cons (.asg (.pt (.var 3)) (.lrng (.var 1))) (.cons (.ret (.blt .tuple (.cons (.frz (.comp (.gen (.var 4) [4] (.rng (.var 2)) .nil (.elt (.meth (.var 3) "pop" (.cons (.call 32 (.cons (.var 0) (.cons (.blt .len (.cons (.var 3) .nil)) .nil))) .nil)))))) .nil))) .nil))
noncomputable def HJ:Ss:=(.cons (.asg (.pt (.var 3)) (.call 32 (.cons (.var 0) (.cons (.cst (.int 4)) .nil)))) (.cons (.ife (.or (.cmp .Eq (.var 3) (.cst (.int 0))) (.cmp .Eq (.var 1) (.frz (.lst .nil)))) (.cons (.ret (.bin .Add (.tup (.cons (.cst (.str "wire")) .nil)) (.frz (.call 34 (.cons (.var 0) (.cons (.var 2) (.cons (.cst (.int 2)) .nil))))))) .nil) .nil) (.cons (.asg (.pt (.var 4)) (.idx (.var 1) (.call 32 (.cons (.var 0) (.cons (.blt .len (.cons (.var 1) .nil)) .nil))))) (.cons (.ife (.and (.cmp .Eq (.var 3) (.cst (.int 3))) (.cmp .Gt (.var 2) (.cst (.int 2)))) (.cons (.ret (.bin .Add (.tup (.cons (.cst (.str "swap")) (.cons (.var 4) .nil))) (.frz (.call 34 (.cons (.var 0) (.cons (.var 2) (.cons (.cst (.int 3)) .nil))))))) .nil) .nil) (.cons (.ret (.bin .Add (.tup (.cons (.idx (.frz (.lst (.cons (.cst (.str "made")) (.cons (.cst (.str "broken")) .nil)))) (.bin .Mod (.var 3) (.cst (.int 2)))) (.cons (.var 4) .nil))) (.frz (.call 34 (.cons (.var 0) (.cons (.var 2) (.cons (.cst (.int 2)) .nil))))))) .nil)))))
noncomputable def Jm:Ss:=(.cons (.asg (.pt (.tup (.cons (.var 1) (.cons (.var 2) .nil)))) (.tup (.cons (.bin .Add (.cst (.int 1)) (.call 32 (.cons (.var 0) (.cons (.cst (.int 4)) .nil)))) (.cons (.bin .Add (.cst (.int 1)) (.call 32 (.cons (.var 0) (.cons (.cst (.int 4)) .nil)))) .nil)))) (.cons (.ret (.tup (.cons (.var 1) (.cons (.bin .Add (.var 1) (.call 32 (.cons (.var 0) (.cons (.bin .Sub (.cst (.int 5)) (.var 1)) .nil)))) (.cons (.var 2) (.cons (.bin .Add (.var 2) (.call 32 (.cons (.var 0) (.cons (.bin .Sub (.cst (.int 5)) (.var 2)) .nil)))) .nil)))))) .nil))
noncomputable def B7:Ss:=(.cons (.expr (.meth (.var 7) "insert" (.cons (.call 32 (.cons (.var 0) (.cons (.bin .Add (.blt .len (.cons (.var 7) .nil)) (.cst (.int 1))) .nil))) (.cons (.bin .Add (.tup (.cons (.cst (.str "coil")) (.cons (.var 8) .nil))) (.frz (.call 34 (.cons (.var 0) (.cons (.var 6) (.cons (.cst (.int 2)) .nil)))))) .nil)))) .nil)
noncomputable def B8:Ss:=(.cons (.expr (.meth (.var 7) "insert" (.cons (.call 32 (.cons (.var 0) (.cons (.bin .Add (.blt .len (.cons (.var 7) .nil)) (.cst (.int 1))) .nil))) (.cons (.bin .Add (.tup (.cons (.cst (.str "lamp")) (.cons (.var 8) .nil))) (.frz (.call 34 (.cons (.var 0) (.cons (.var 6) (.cons (.cst (.int 2)) .nil)))))) .nil)))) .nil)
noncomputable def Jo:Ss:=(.cons (.asg (.pt (.var 2)) (.lst .nil)) (.cons (.asg (.pt (.var 3)) (.frz (.comp (.gen (.var 9) [9] (.rng (.call 32 (.cons (.var 0) (.cons (.cst (.int 3)) .nil)))) .nil (.elt (.call 33 (.cons (.var 0) (.cons (.var 2) .nil)))))))) (.cons (.asg (.pt (.var 4)) (.frz (.comp (.gen (.var 9) [9] (.rng (.call 32 (.cons (.var 0) (.cons (.cst (.int 5)) .nil)))) .nil (.elt (.call 33 (.cons (.var 0) (.cons (.var 2) .nil)))))))) (.cons (.asg (.pt (.var 5)) (.frz (.comp (.gen (.var 9) [9] (.rng (.call 32 (.cons (.var 0) (.cons (.cst (.int 3)) .nil)))) .nil (.elt (.call 33 (.cons (.var 0) (.cons (.var 2) .nil)))))))) (.cons (.asg (.pt (.var 6)) (.bin .Add (.cst (.int 2)) (.call 32 (.cons (.var 0) (.cons (.cst (.int 11)) .nil))))) (.cons (.asg (.pt (.var 7)) (.comp (.gen (.var 9) [9] (.rng (.call 32 (.cons (.var 0) (.cons (.bin .Add (.var 1) (.cst (.int 1))) .nil)))) .nil (.elt (.call 35 (.cons (.var 0) (.cons (.frz (.bin .Add (.var 3) (.var 4))) (.cons (.var 6) .nil)))))))) (.cons (.for_ (.var 8) (.var 4) B7) (.cons (.for_ (.var 8) (.var 5) B8) (.cons (.ret (.lst (.cons (.var 3) (.cons (.var 4) (.cons (.var 5) (.cons (.var 6) (.cons (.var 7) (.cons (.frz (.comp (.gen (.var 8) [8] (.var 4) .nil (.elt (.call 36 (.cons (.var 0) .nil)))))) .nil)))))))) .nil)))))))))
noncomputable def Jp:Ss:=(.cons (.asg (.tup (.cons (.pt (.var 1)) (.cons (.pt (.var 2)) (.cons (.pt (.var 3)) (.cons (.pt (.var 4)) (.cons (.pt (.var 5)) (.cons (.pt (.var 6)) .nil))))))) (.var 0)) (.cons (.ret (.lst (.cons (.blt .list (.cons (.var 1) .nil)) (.cons (.blt .list (.cons (.var 2) .nil)) (.cons (.blt .list (.cons (.var 3) .nil)) (.cons (.var 4) (.cons (.blt .list (.cons (.var 5) .nil)) (.cons (.blt .list (.cons (.var 6) .nil)) .nil)))))))) .nil))
noncomputable def Jq:Ss:=(.cons (.ret (.make "Net" (.cons (.idx (.var 0) (.cst (.int 0))) (.cons (.idx (.var 0) (.cst (.int 1))) (.cons (.idx (.var 0) (.cst (.int 2))) (.cons (.idx (.var 0) (.cst (.int 3))) (.cons (.idx (.var 0) (.cst (.int 4))) (.cons (.idx (.var 0) (.cst (.int 5))) .nil)))))))) .nil)
noncomputable def Jr:Ss:=(.cons (.ret (.lst (.cons (.mth (.var 0) "key_words" .nil) (.cons (.mth (.var 0) "relays" .nil) (.cons (.mth (.var 0) "lamps" .nil) (.cons (.mth (.var 0) "nodes" .nil) (.cons (.mth (.var 0) "pieces" .nil) (.cons (.mth (.var 0) "times" .nil) .nil)))))))) .nil)
noncomputable def yf:Ss:=(.cons (.expr (.meth (.var 7) "append" (.cons (.meth (.cst (.str " ")) "join" (.cons (.frz (.bin .Add (.lst (.cons (.cst (.str "relay")) (.cons (.idx (.var 2) (.var 8)) .nil))) (.frz (.comp (.gen (.var 9) [9] (.idx (.var 6) (.var 8)) .nil (.elt (.blt .str (.cons (.var 9) .nil)))))))) .nil)) .nil))) .nil)
noncomputable def Js:Ss:=(.cons (.asg (.tup (.cons (.pt (.var 1)) (.cons (.pt (.var 2)) (.cons (.pt (.var 3)) (.cons (.pt (.var 4)) (.cons (.pt (.var 5)) (.cons (.pt (.var 6)) .nil))))))) (.var 0)) (.cons (.asg (.pt (.var 7)) (.lst (.cons (.meth (.cst (.str " ")) "join" (.cons (.frz (.bin .Add (.lst (.cons (.cst (.str "keys")) .nil)) (.var 1))) .nil)) .nil))) (.cons (.for_ (.var 8) (.rng (.blt .len (.cons (.var 2) .nil))) yf) (.cons (.expr (.meth (.var 7) "append" (.cons (.meth (.cst (.str " ")) "join" (.cons (.frz (.bin .Add (.lst (.cons (.cst (.str "lamps")) .nil)) (.var 3))) .nil)) .nil))) (.cons (.expr (.meth (.var 7) "append" (.cons (.bin .Add (.cst (.str "nodes ")) (.blt .str (.cons (.var 4) .nil))) .nil))) (.cons (.asg (.pt (.var 7)) (.frz (.bin .Add (.var 7) (.frz (.comp (.gen (.var 10) [10] (.var 5) .nil (.elt (.meth (.cst (.str " ")) "join" (.cons (.frz (.comp (.gen (.var 11) [11] (.var 10) .nil (.elt (.blt .str (.cons (.var 11) .nil)))))) .nil))))))))) (.cons (.ret (.meth (.cst (.str "")) "join" (.cons (.frz (.comp (.gen (.var 12) [12] (.var 7) .nil (.elt (.bin .Add (.var 12) (.cst (.str "\n"))))))) .nil))) .nil)))))))
noncomputable def HK:Ss:=(.cons (.expr (.meth (.var 7) "clear" .nil)) .nil)
noncomputable def HL:Ss:=(.cons (.expr (.meth (.var 7) "clear" .nil)) .nil)
noncomputable def sO:Ss:=(.cons (.asg (.pt (.var 2)) (.frz (.call 37 (.cons (.call 31 (.cons (.var 0) (.cons (.var 1) .nil))) (.cons (.cst (.int 18)) .nil))))) (.cons (.asg (.pt (.var 3)) (.call 41 (.cons (.var 2) .nil))) (.cons (.asg (.pt (.var 4)) (.call 38 (.cons (.var 2) .nil))) (.cons (.asg (.pt (.var 5)) (.frz (.call 39 (.cons (.var 4) .nil)))) (.cons (.asg (.pt (.var 6)) (.call 21 (.cons (.var 5) .nil))) (.cons (.for_ (.var 7) (.frz (.bin .Add (.slc (.var 4) .none (.some (.cst (.int 3)))) (.slc (.var 4) (.some (.cst (.int 4))) .none))) HK) (.cons (.ife (.or (.not (.isI (.var 6) "str")) (.cmp .NotEq (.var 6) (.var 3))) (.cons (.ret (.cst (.bl false))) .nil) .nil) (.cons (.asg (.pt (.var 8)) (.frz (.call 23 (.cons (.var 6) .nil)))) (.cons (.ife (.or (.not (.fus (.isc "Net") (.var 8))) (.or (.cmp .NotEq (.blt .repr (.cons (.call 40 (.cons (.var 8) .nil)) .nil)) (.blt .repr (.cons (.var 2) .nil))) (.cmp .NotEq (.call 21 (.cons (.var 8) .nil)) (.var 3)))) (.cons (.ret (.cst (.bl false))) .nil) .nil) (.cons (.for_ (.var 7) (.bin .Add (.slc (.call 40 (.cons (.var 5) .nil)) (.some (.cst (.int 4))) .none) (.slc (.call 40 (.cons (.var 8) .nil)) (.some (.cst (.int 4))) .none)) HL) (.cons (.ife (.or (.cmp .NotEq (.call 21 (.cons (.var 5) .nil)) (.var 3)) (.or (.cmp .NotEq (.call 21 (.cons (.var 8) .nil)) (.var 3)) (.cmp .NotEq (.blt .repr (.cons (.call 40 (.cons (.frz (.call 23 (.cons (.var 3) .nil))) .nil)) .nil)) (.blt .repr (.cons (.var 2) .nil))))) (.cons (.ret (.cst (.bl false))) .nil) .nil) .nil)))))))))))
noncomputable def Jt:Ss:=(.cons (.for_ (.var 1) (.rng (.blt .max (.cons (.cst (.int 1)) (.cons (.blt .min (.cons (.blt .len (.cons (.var 0) .nil)) (.cons (.cst (.int 8)) .nil))) .nil)))) sO) (.cons (.ret (.cst (.bl true))) .nil))
noncomputable def fe (x:Str) (i n:Nat):Str×(Nat×Nat):=(x,(i,n))
noncomputable def fns:List (Str×(Nat×Nat)):=[fe "check_net" 7 6,fe "check_words" 8 3,fe "first_wrong_word" 9 1,fe "is_word" 10 1,fe "check_many" 11 3,fe "check_sizes" 12 2,fe "check_pieces" 13 5,fe "is_piece" 14 3,fe "ends_of" 15 1,fe "are_unlike_nodes" 16 2,fe "is_whole" 17 1,fe "check_just_one" 18 3,fe "check_times" 19 2,fe "are_times" 20 1,fe "show_net" 21 1,fe "show_row" 22 1,fe "read_net" 23 1,fe "split_rows" 24 1,fe "count_relay_rows" 25 1,fe "read_relay" 26 1,fe "read_nodes" 27 1,fe "read_piece" 28 1,fe "read_number" 29 1,fe "is_number" 30 1,fe "_law_pot" 31 2,fe "_law_take" 32 2,fe "_law_word" 33 2,fe "_law_unlike" 34 3,fe "_law_piece" 35 3,fe "_law_times" 36 1,fe "_law_net" 37 2,fe "_law_copy" 38 1,fe "_law_made" 39 1,fe "_law_told" 40 1,fe "_law_text" 41 1,fe "law" 42 1]
noncomputable def gl:List (Str×W):=[("MOST_SIGNS",(.int 8)),("MOST_KEYS",(.int 2)),("MOST_RELAYS",(.int 4)),("MOST_LAMPS",(.int 2)),("LEAST_NODES",(.int 2)),("MOST_NODES",(.int 640)),("MOST_PIECES",(.int 800)),("LEAST_TIME",(.int 1)),("MOST_TIME",(.int 4)),("FIGURES",(.str "0123456789")),("MOST_FIGURES",(.int 12))]
noncomputable def po (a b c d:Nat):Pos:=⟨a,b,c,d⟩
noncomputable def fz:List Pos:=[po 25 24 25 34,po 26 26 26 38,po 27 25 27 36,po 29 26 29 38,po 30 25 30 36,po 58 29 58 42,po 58 29 58 50,po 69 48 69 85,po 81 15 81 28,po 97 15 97 67,po 112 35 112 87,po 119 12 119 38,po 119 23 119 38,po 120 28 120 40,po 120 42 120 53,po 121 20 121 50,po 121 38 121 50,po 122 16 122 39,po 122 28 122 39,po 123 16 123 38,po 123 26 123 37,po 124 17 124 29,po 125 20 125 31,po 126 19 126 50,po 128 20 128 47,po 132 12 132 80,po 132 31 132 39,po 132 31 132 79,po 132 42 132 79,po 133 16 133 42,po 135 17 135 67,po 135 45 135 66,po 141 41 141 65,po 149 11 149 60,po 149 12 149 26,po 149 38 149 59,po 158 26 158 65,po 158 57 158 64,po 164 17 164 73,po 170 53 170 87,po 189 25 189 110,po 192 33 192 108,po 194 25 194 145,po 199 17 199 105,po 202 41 202 43,po 203 27 203 68,po 206 37 206 78,po 207 12 207 30,po 207 62 207 103,po 213 16 213 103,po 214 18 214 105,po 215 17 215 104,po 217 45 217 68,po 219 97 219 138,po 221 97 221 138,po 222 73 222 129,po 232 26 232 46,po 234 34 234 124,po 234 67 234 124,po 235 30 235 52,po 237 16 237 124,po 237 28 237 124,po 237 38 237 87,po 238 19 238 62,po 241 22 241 65,po 244 24 244 46,po 246 25 246 58,po 250 21 250 45,po 255 101 255 119]
noncomputable def cs:Cs:=⟨[("Net","key_list"),("Net","relay_list"),("Net","lamp_list"),("Net","many_nodes"),("Net","piece_list"),("Net","time_list")],[(("Net","key_words"),1),(("Net","relays"),2),(("Net","lamps"),3),(("Net","nodes"),4),(("Net","pieces"),5),(("Net","times"),6)],[("Net",0)],[("MANY_ENDS",B6)],["Net"]⟩
noncomputable def fuel:Nat:=1000
noncomputable def pg:Pg:=⟨[⟨7,7,b0⟩,⟨1,1,b1⟩,⟨1,1,b2⟩,⟨1,1,b3⟩,⟨1,1,b4⟩,⟨1,1,b5⟩,⟨1,1,b6⟩,⟨6,6,b7⟩,⟨3,4,b8⟩,⟨1,4,b9⟩,⟨1,2,IV⟩,⟨3,7,IW⟩,⟨2,2,IX⟩,⟨5,9,IY⟩,⟨3,5,IZ⟩,⟨1,1,I0⟩,⟨2,3,I8⟩,⟨1,1,ME⟩,⟨3,7,I9⟩,⟨2,4,Ja⟩,⟨1,2,Jb⟩,⟨1,6,Jc⟩,⟨1,2,Jd⟩,⟨1,14,Je⟩,⟨1,2,Jf⟩,⟨1,2,Jg⟩,⟨1,2,Jh⟩,⟨1,1,Ji⟩,⟨1,2,Jj⟩,⟨1,1,Jk⟩,⟨1,2,HH⟩,⟨2,3,K0⟩,⟨2,3,K7⟩,⟨2,8,Fj⟩,⟨3,5,Jl⟩,⟨3,5,HJ⟩,⟨1,3,Jm⟩,⟨2,10,Jo⟩,⟨1,7,Jp⟩,⟨1,1,Jq⟩,⟨1,1,Jr⟩,⟨1,13,Js⟩,⟨1,9,Jt⟩],cs,fuel⟩
noncomputable def tf (i:Nat):Tb:=("",top i)
noncomputable def tm (c:Str) (i j:Nat):Tb:=(c,inClass (top i) j)
noncomputable def K8:List Tb:=[tm "Net" 15 0,tm "Net" 15 1,tm "Net" 15 2,tm "Net" 15 3,tm "Net" 15 4,tm "Net" 15 5,tm "Net" 15 6,tf 16,tf 17,tf 18,tf 19,tf 20,tf 21,tf 22,tf 23,tf 24,tf 25,tf 26,tf 27,tf 28,tf 29,tf 33,tf 34,tf 35,tf 36,tf 37,tf 38,tf 39,tf 40,tf 41,tf 42,tf 44,tf 45,tf 46,tf 47,tf 48,tf 49,tf 50,tf 51,tf 52,tf 53,tf 54,tf 55]
theorem stat:Stat pg fns gl fz K8:=⟨by kernel_rfl,by kernel_rfl,by kernel_rfl⟩
end My
end
section
namespace My
open PySem D List
noncomputable def bI:=And.intro (@aq) (And.intro (@aJ) (And.intro (@eX) (And.intro (@BY) (And.intro (@Hx) (And.intro (@xT) (And.intro (@Hy) (And.intro (@xU) (And.intro (@AK) (And.intro (@sH) (And.intro (@lM) (And.intro (@dU) (And.intro (@cU) (And.intro (@jb) (And.intro (@cV) (And.intro (@cF) (And.intro (@BZ) (And.intro (@dH) (And.intro (@EG) (And.intro (@sI) (And.intro (@nh) (And.intro (@qP) (And.intro (@ng) (And.intro (@EH) (And.intro (@ay) (And.intro (@au) (And.intro (@fC) (And.intro (@dj) (@ao))))))))))))))))))))))))))))
noncomputable def K9:=And.intro (@iR) (And.intro (@xV) (And.intro (@B0) (And.intro (@xW) (And.intro (@xX) (And.intro (@oW) (And.intro (@j5) (And.intro (@fF) (And.intro (@cg) (@m5)))))))))
theorem aO {α:Type} {a:α} {l:List α}:(a::l)[0]?=some a:=rfl
theorem aP {α:Type} {a:α} {l:List α} {i:Nat}:(a::l)[i+1]?=l[i]?:=rfl
theorem aQ {α:Type} {x a:α} {l:List α}:(x::l).set 0 a=a::l:=rfl
theorem aS {α:Type} {x a:α} {l:List α} {n:Nat}:(x::l).set (n+1) a=x::l.set n a:=rfl
variable {C:D.Cx} {L b c d i j n af p q:Nat} {M Z m:Mem} {e it:E} {lm rl sw tk zs:List Str} {ns t:List Int} {o8:Option W} {r xs ys:List W} {rs:List (List W)} {s z:Str} {w y:W} {α:Type} {ρ:D.Loc}
structure Wd (z:Str):Prop where
 lo:1<=z.cps.size
 hi:z.cps.size<=8
 az:∀c∈z.cps.toList,97<=c/\c<=122
theorem iy (z:Str):z.length=z.cps.size:=rfl
theorem Wd.asc (h:Wd z):L2.asc z=true:=by
 unfold L2.asc;rw [Array.all_eq_true];intro i hi;have:=h.az z.cps[i] (by simp);simp;omega
theorem MF (h:97<=c/\c<=122):aC .LtE (.str "a") (.str ⟨#[c]⟩)=λ m=>.ok true m:=by
 funext m;have:¬[c] < [97]:=by simp [cons_lt_cons_iff]; omega
 simp [aC];exact this
theorem leZ (h:97<=c/\c<=122):aC .LtE (.str ⟨#[c]⟩) (.str "z")=λ m=>.ok true m:=by
 funext m;have:¬[122] < [c]:=by simp [cons_lt_cons_iff]; omega
 simp [aC];exact this
theorem AO (h:Wd z):D.runN pg (n+1) 10 [.str z] []=.ok (.bl true) []:=by
 refine bw (d:=⟨1,2,IV⟩) rfl rfl ?_;show aK _ IV [some (.str z),none] []=_;have hI:cz (Cn pg n) (.var 0) [some (.str z),none] []=.ok (.tup (signs z)) []:=by simp [cz,R.bind,fE,qq,h.asc]
 obtain ⟨ρ',hc⟩:=comp_map (C:=Cn pg n) (i:=1) (e:=.chain .LtE .LtE (.cst (.str "a")) (.var 1) (.cst (.str "z"))) (ρ:=[some (.str z),none]) (m:=[]) (xs:=signs z) (g:=λ _=>.bl true) (λ x hx=>by
  obtain ⟨c,hc,rfl⟩:=List.mem_map.mp hx;have:=h.az c hc;simp [ai,R.bind,MF this,leZ this]) (by have:=h.hi; simp [signs,lim]; omega)
 have hf:=bL (C:=Cn pg n) (m:=[]) (m0:=[]) (dZ (js:=[1]) (ifs:=.nil) hI hc) rfl Cm.nil (by rw [m7]; exact bE.mpr λ x hx=>by rw [(List.mem_replicate.mp hx).2]; rfl);rw [IV,aY (bq (w:=.bl true) (m1:=[]) ?_)];have h1:(1:Int)<=z.length:=by have:=h.lo; rw [iy]; omega
 have h2:(z.length:Int)<=8:=by have:=h.hi; rw [iy]; omega
 have h3:z.length<=lim:=by have:=h.hi; rw [iy]; simp [lim]; omega
 have hb:bools ((signs z).map λ _=>W.bl true)=some (List.replicate (signs z).length true):=by rw [m7]; exact gP _
 simp [bI,bu,h3,aC,h1,h2,hf,getL,hb]
theorem uN {ws:List Str} (h:z∉ws):jP (.inr z) (ws.map Sum.inr)=false:=by
 simp only [jP,any_map,Function.comp_def];rw [any_eq_false];intro x hx;simp only [decide_eq_true_eq,Sum.inr.injEq];rintro rfl;exact h hx
theorem iS {ws:List Str} (hw:∀z∈ws,Wd z) (hn:ws.Nodup) (hl:ws.length<=100):aH (D.runN pg (n+1+1) 9) [.fz (ws.map .str)] M=.ok .non M:=by
 have hI:cz (Cn pg (n+1)) (.enm (.var 0)) [some (.fz (ws.map .str)),some (.ref 0),none,none] [.set []]=.ok (.enm (.tup (ws.map .str))) [.set []]:=by simp [cz,bI,srcOf]
 obtain ⟨ρ',m',hf,_⟩:=cJ (t:=.tup (.cons (.var 2) (.cons (.var 3) .nil))) (b:=EL) (n:=ws.length) hI (by simp [Src.len])
  (λ i ρ m=>m=[.set ((ws.take i).map Sum.inr)]/\∃o2 o3,ρ=[some (.fz (ws.map .str)),some (.ref 0),o2,o3]) ⟨rfl,_,_,rfl⟩ (λ i ρ m hi=>by
   rintro ⟨rfl,o2,o3,rfl⟩;have hz:=hw ws[i] (getElem_mem hi);refine ⟨.tup [.int i,.str ws[i]],[some (.fz (ws.map .str)),some (.ref 0),some (.int i),some (.str ws[i])],[some (.fz (ws.map .str)),some (.ref 0),some (.int i),some (.str ws[i])],[.set ((ws.take (i+1)).map Sum.inr)],?_,by simp [aV,cZ],.inl ?_,rfl,_,_,rfl⟩
   ·rw [fB (w:=.str ws[i])];rw [bf (by simpa using hi)];simp
   ·have hc:∀m,aH (D.runN pg (n+1) 10) [.str ws[i]] m=.ok (.bl true) m:=λ m=>aU rfl (AO hz) rfl;have hk:jP (.inr ws[i]) ((ws.take i).map Sum.inr)=false:=uN (qN hn hi);have ht:ws.take (i+1)=ws.take i++[ws[i]]:=by rw [take_add_one,getElem?_eq_getElem hi]; rfl
    have hlt:min i ws.length < 4000:=by omega
    have h1:aT (Cn pg (n+1)) (.or (.not (.call 10 (.cons (.var 3) .nil))) (.cmp .In (.var 3) (.var 1))) [some (.fz (ws.map .str)),some (.ref 0),some (.int i),some (.str ws[i])] [.set ((ws.take i).map Sum.inr)]=.ok false [.set ((ws.take i).map Sum.inr)]:=by
     simp only [bI,sG,K9,aO,aP,aQ,aS,hc,D.truthy,aC,oi,v9,hk,Bool.not_true,Bool.false_eq_true,if_false]
    have h2:ai (Cn pg (n+1)) (.meth (.var 1) "add" (.cons (.var 3) .nil)) [some (.fz (ws.map .str)),some (.ref 0),some (.int i),some (.str ws[i])] [.set ((ws.take i).map Sum.inr)]=.ok .non [.set ((ws.take (i+1)).map Sum.inr)]:=by
     have e1:iI "add"=.set:=by decide
     have e2:((ws.take i).map Sum.inr:List L2.Key).length < 4000:=by rw [length_map,length_take]; exact hlt
     simp only [bI,aO,aP,aQ,aS,kdOf,e1,if_true,br,gi,wj,v9,hk,e2,Bool.false_eq_true,if_false];rw [ht,map_append];rfl
    rw [EL,aj (ρ1:=[some (.fz (ws.map .str)),some (.ref 0),some (.int i),some (.str ws[i])]) (by rw [dF h1,aA]),aj (bX h2),aA])
  (fun ρ m _=>by rw [d8]; exact aM (by simp))
 refine aU (m1:=m') (by simp [ak,aD,aX]) (bw (d:=⟨1,4,b9⟩) rfl rfl ?_) rfl;show aK _ b9 [some (.fz (ws.map .str)),none,none,none] []=_;rw [b9,aj (ρ1:=[some (.fz (ws.map .str)),some (.ref 0),none,none]) (aI (w:=.ref 0) (m1:=[.set []]) (by simp [bI,new]) rfl),aj hf,aY (bq (w:=.non) (m1:=m') (by simp [bI]))]
abbrev tupI (a:List Int):W:=.tup (a.map .int)
theorem yg {a b:Int}:ql m (.int a) (.int b)=.ok (decide (a=b)) m:=by
 simp [ql,toD,PyData.eqv]
 by_cases h:a=b<;>simp [h]
theorem uO (h:ns.Nodup):L2.unlike ns=ns.length:=by
 unfold L2.unlike PyProof.Rows.firstMet;have e:(List.range ns.length).map (λ i=>ns.getD i 0)=ns:=by
  apply ext_getElem
  ·simp
  ·intro i h1 h2;simp [List.getD,h2]
 rw [e];have g:∀(l acc:List Int),l.Nodup->(∀a∈acc,a∉l)->l.foldl PyProof.Rows.step_dedup acc=acc++l:=by
  intro l
  induction l with
  | nil=>intro acc _ _; simp
  | cons x r ih=>
   intro acc hn hd;rw [nodup_cons] at hn;have hx:(acc.any λ y=>y==x)=false:=by
    rw [any_eq_false];intro y hy z;exact hd y hy (by rw [eq_of_beq z]; exact mem_cons_self)
   rw [foldl_cons,PyProof.Rows.step_dedup,hx,if_neg (by simp),ih (acc++[x]) hn.2 (λ a ha hr=>?_),append_assoc]
   ·rfl
   ·rcases List.mem_append.mp ha with ha | ha
    ·exact hd a ha (mem_cons_of_mem _ hr)
    ·rw [mem_singleton] at ha; subst ha; exact hn.1 hr
 rw [g ns [] h (by simp)];simp
theorem uP (a:List Int):fQ (a.map .int)=some a:=by
 induction a with
 | nil=>rfl
 | cons x r ih=>simp [fQ,ih]
theorem nj {a:List Int}:bu .len [tupI a] M=.ok (.int a.length) M:=by
 have:=fX (m:=M) (w:=tupI a) (xs:=a.map .int) rfl;rw [length_map] at this;exact this
section
variable {n:Nat} {m:Mem}
theorem yh {i:Int}:aH (D.runN pg (n+1) 17) [.int i] m=.ok (.bl true) m:=aU (m1:=[]) rfl (by kernel_rfl) rfl
theorem uQ {es:List Int} (hn:es.Nodup) (hr:∀i∈es,0<=i/\i < (af:Int)) (hl:es.length<=100):aH (D.runN pg (n+1+1) 16) [tupI es,.int af] m=.ok (.bl true) m:=by
 refine aU (m1:=[]) (by simp [ak,aD,dS]) ?_ rfl;refine bw (d:=⟨2,3,I8⟩) rfl rfl ?_;show aK _ I8 [some (tupI es),some (.int af),none] []=_;have hall:=oX (C:=Cn pg (n+1)) (i:=2) (js:=[2]) (it:=.var 0) (s:=.tup (es.map .int)) (e:=.and (.call 17 (.cons (.var 2) .nil)) (.chain .LtE .Lt (.cst (.int 0)) (.var 2) (.var 1))) (ρ:=[some (tupI es),some (.int af),none]) (m:=[]) (xs:=es.map .int) Cm.nil (by rw [eY,aq]; rfl) (λ j=>rfl) rfl (by rw [length_map]; simp only [lim]; omega) (λ x hx=>by
  obtain ⟨i,hi,rfl⟩:=List.mem_map.mp hx;obtain ⟨h1,h2⟩:=hr i hi;have hc1:aC .LtE (.int 0) (.int i) []=.ok true []:=by simp [aC,h1]
  have hc2:aC .Lt (.int i) (.int af) []=.ok true []:=by simp [aC,h2]
  simp only [bY,bI,aO,aP,aQ,aS,yh,hc1,hc2,if_true])
 have hs:dB .jK (tupI es) []=.ok (.int es.length) []:=by
  simp only [dB,qm,uP,uO hn];rw [if_pos (by omega)]
 rw [I8,aY (bq (w:=.bl true) (m1:=[]) ?_)];rw [xT,hall];simp only [ao,if_true];simp only [bI,aO,aP,aQ,aS,hs,nj,aC,yg];simp
theorem Ju {a b:Str} (ha:a.cps.all (· < 0x110000)=true) (hb:b.cps.all (· < 0x110000)=true):ql m (.str a) (.str b)=.ok (decide (a=b)) m:=by
 have h1:toD 60 m (.str a)=some (.str a):=by simp only [toD]; rw [if_pos ha]
 have h2:toD 60 m (.str b)=some (.str b):=by simp only [toD]; rw [if_pos hb]
 simp only [ql,h1,h2,sJ]
theorem Wd.ok (h:Wd z):z.cps.all (· < 0x110000)=true:=by
 rw [Array.all_eq_true];intro i hi;have:=h.az z.cps[i] (by simp);simp;omega
theorem yi {ws:List Str} (h:getL m y=some (ws.map .str)) (hz:Wd z) (hw:∀x∈ws,Wd x):aC .NotIn (.str z) y m=.ok (!decide (z∈ws)) m:=by
 have e:=j7 (m:=m) hz.ok λ x hx=>(hw x hx).ok;cases y with
 | fz ys=>
  simp only [getL] at h;cases h;simp only [aC,e,ao]
 | ref q=>
  simp only [getL] at h;split at h
  ·rename_i ys e0;cases h;simp only [aC,e0,e,ao]
  ·cases h
 | _=>cases h
abbrev Pc:=Str×List Str×List Int
abbrev bP (p:Pc):W:=.tup (.str p.1::(p.2.1.map .str++p.2.2.map .int))
theorem HM {x:W}:cN (x::r) (some 1) none=r:=by simp [cN,HT.bT]
theorem HN {x:W}:cN (x::y::r) (some 2) none=r:=by simp [cN,HT.bT]
end
section
variable {n:Nat} {m:Mem}
inductive Kd:Str->Nat->Prop
 | made:Kd "made" 2
 | broken:Kd "broken" 2
 | swap:Kd "swap" 3
 | coil:Kd "coil" 2
 | lamp:Kd "lamp" 2
structure j9 (sw rl lm:List Str) (af:Nat) (p:Pc):Prop where
 kind:(p.1="wire"/\p.2.1=[]/\p.2.2.length=2)\/∃z k,p.2.1=[z]/\Kd p.1 k/\p.2.2.length=k/\z∈(if p.1="coil" then rl else if p.1="lamp" then lm else sw)
 nd:p.2.2.Nodup
 rg:∀i∈p.2.2,0<=i/\i < (af:Int)
theorem j9.len {p:Pc} (h:j9 sw rl lm af p):p.2.2.length<=3:=by
 rcases h.kind with h | ⟨z,k,_,hk,hl,_⟩
 ·omega
 ·have:∀{w:Str} {k:Nat},Kd w k->k<=3:=λ h=>by cases h<;>omega
  have:=this hk;omega
theorem kc {w:Str} (h:w="wire"\/∃k,Kd w k):w.cps.all (· < 0x110000)=true:=by
 rcases h with rfl | ⟨k,hk⟩
 ·decide +kernel
 ·cases hk<;>decide +kernel
theorem Jv {p:Pc}:bh (bP p) (.int 0) M=.ok (.str p.1) M:=by
 have:=eG (m:=M) (w:=bP p) (xs:=.str p.1::(p.2.1.map .str++p.2.2.map .int)) (i:=0) rfl (by simp);exact this
theorem AQ {p:Pc} (h:(p.1="wire"/\p.2.1=[])\/∃z k,p.2.1=[z]/\Kd p.1 k):aH (D.runN pg (n+1) 15) [bP p] m=.ok (tupI p.2.2) m:=by
 obtain ⟨w,zs,es⟩:=p;have hw:w.cps.all (· < 0x110000)=true:=by
  rcases h with h | ⟨z,k,_,hk⟩
  ·exact kc (.inl h.1)
  ·exact kc (.inr ⟨k,hk⟩)
 have hp:ak [bP (w,zs,es)]=true:=by
  simp only [ak,aD,Bool.and_true];rw [Bool.true_and,sE,aX,dS];rfl
 refine aU (m1:=[]) hp ?_ (by simp [aD,dS]);refine bw (d:=⟨1,1,I0⟩) rfl rfl ?_;show aK _ I0 [some (bP (w,zs,es))] []=_;have ht:aT (Cn pg n) (.cmp .Eq (.idx (.var 0) (.cst (.int 0))) (.cst (.str "wire"))) [some (bP (w,zs,es))] []=.ok (decide (w="wire")) []:=by
  simp only [cg,cU,aq,aJ,aO,aP,aQ,aS,ao,Jv,aC];exact Ju hw (by decide +kernel)
 rw [I0,aY (bq (w:=tupI es) (m1:=[]) ?_)];rw [sH,ht];simp only [ao];rcases h with ⟨h1,h2⟩ | ⟨z,k,h2,hk⟩
 ·dsimp only at h1 h2;subst h1 h2;rw [if_pos (by decide)];simp only [bI,aO,aP,aQ,aS,cK,map_nil,nil_append];rw [HM]
 ·dsimp only at h2 hk;subst h2;have:decide (w="wire")=false:=by cases hk<;>decide +kernel
  rw [this,if_neg (by simp)];simp only [bI,aO,aP,aQ,aS,cK,map_cons,map_nil,cons_append,nil_append];rw [HN]
abbrev AR (sw rl lm:W):List (Str×W):=[("made",sw),("broken",sw),("swap",sw),("coil",rl),("lamp",lm)]
theorem yj {p:Pc} {Fl rls Jw:List Str} {sw rl lm:W} (h:j9 Fl rls Jw af p) (hj:m[j]?=some (.dic (AR sw rl lm))) (h1:getL m sw=some (Fl.map .str)) (h2:getL m rl=some (rls.map .str)) (h3:getL m lm=some (Jw.map .str))
  (w1:∀z∈Fl,Wd z) (w2:∀z∈rls,Wd z) (w3:∀z∈Jw,Wd z):aH (D.runN pg (n+1+1+1) 14) [bP p,.ref j,.int af] m=.ok (.bl true) m:=by
 have hlen:=h.len;have hun:=uQ (n:=n) (m:=m) h.nd h.rg (by omega);have hen:=AQ (n:=n+1) (m:=m) (p:=p) (h.kind.elim (λ h=>.inl ⟨h.1,h.2.1⟩) λ ⟨z,k,a,b,_⟩=>.inr ⟨z,k,a,b⟩);obtain ⟨w,zs,es⟩:=p;obtain ⟨hk,hnd,Jx⟩:=h;dsimp only at hk hnd Jx hlen hun hen;have hw:w="wire"\/∃k,Kd w k:=by
  rcases hk with hk | ⟨z,k,_,hk,_⟩
  ·exact .inl hk.1
  ·exact .inr ⟨k,hk⟩
 rw [bx (by simp [ak,aD])];refine bw (d:=⟨3,5,IZ⟩) rfl rfl ?_;show aK _ IZ [some (bP (w,zs,es)),some (.ref j),some (.int af),none,none] m=_;have hd:(B6.lookup w).isSome=true:=by
  rcases hw with rfl | ⟨k,hk⟩
  ·decide +kernel
  ·cases hk<;>decide +kernel
 have hT1:aT (Cn pg (n+1+1)) (.or (.not (.var 0)) (.fus (.knin B6) (.idx (.var 0) (.cst (.int 0))))) [some (bP (w,zs,es)),some (.ref j),some (.int af),none,none] m=.ok false m:=by
  have t1:aT (Cn pg (n+1+1)) (.var 0) [some (bP (w,zs,es)),some (.ref j),some (.int af),none,none] m=.ok true m:=by
   simp only [sG,aq,aO,aP,aQ,aS,ao,D.truthy,isEmpty_cons,Bool.not_false]
  have t2:aT (Cn pg (n+1+1)) (.fus (.knin B6) (.idx (.var 0) (.cst (.int 0)))) [some (bP (w,zs,es)),some (.ref j),some (.int af),none,none] m=.ok false m:=by
   simp only [xX,sI,cU,aq,aJ,aO,aP,aQ,aS,ao,Jv,dB,hd,Bool.not_true,D.truthy]
  rw [j5,fF,t1];simp only [ao,Bool.not_true,Bool.false_eq_true,if_false];exact t2
 have hT2:aT (Cn pg (n+1+1)) (.and (.cmp .In (.var 3) (.var 1)) (.or (.cmp .Lt (.blt .len (.cons (.var 0) .nil)) (.cst (.int 2))) (.cmp .NotIn (.idx (.var 0) (.cst (.int 1))) (.idx (.var 1) (.var 3))))) [some (bP (w,zs,es)),some (.ref j),some (.int af),some (.str w),none] m=.ok false m:=by
  have t1:aT (Cn pg (n+1+1)) (.cmp .In (.var 3) (.var 1)) [some (bP (w,zs,es)),some (.ref j),some (.int af),some (.str w),none] m=.ok ((AR sw rl lm).lookup w).isSome m:=by
   simp only [cg,aq,aO,aP,aQ,aS,ao,aC,oi,hj]
  rw [oW,t1];simp only [ao];rcases hk with ⟨rfl,_,_⟩ | ⟨z,k,rfl,hk,hl,hz⟩
  ·have:((AR sw rl lm).lookup ("wire":Str)).isSome=false:=rfl;rw [this];rfl
  ·obtain ⟨sv,l,hsv,hg,HP,hwl⟩:∃(sv:W) (l:List Str),(AR sw rl lm).lookup w=some sv/\getL m sv=some (l.map .str)/\z∈l/\∀x∈l,Wd x:=by
    cases hk with
    | made=>exact ⟨sw,Fl,rfl,h1,by rw [if_neg (by decide +kernel),if_neg (by decide +kernel)] at hz; exact hz,w1⟩
    | broken=>exact ⟨sw,Fl,rfl,h1,by rw [if_neg (by decide +kernel),if_neg (by decide +kernel)] at hz; exact hz,w1⟩
    | swap=>exact ⟨sw,Fl,rfl,h1,by rw [if_neg (by decide +kernel),if_neg (by decide +kernel)] at hz; exact hz,w1⟩
    | coil=>exact ⟨rl,rls,rfl,h2,by rw [if_pos rfl] at hz; exact hz,w2⟩
    | lamp=>exact ⟨lm,Jw,rfl,h3,by rw [if_neg (by decide +kernel),if_pos rfl] at hz; exact hz,w3⟩
   rw [hsv];have MG:bu .len [bP (w,[z],es)] m=.ok (.int (es.length+2:Nat)) m:=by
    have:=fX (m:=m) (w:=bP (w,[z],es)) (xs:=.str w::([z].map .str++es.map .int)) rfl;rw [this];simp;omega
   have i1:bh (bP (w,[z],es)) (.int 1) m=.ok (.str z) m:=by
    have:=eG (m:=m) (w:=bP (w,[z],es)) (xs:=.str w::([z].map .str++es.map .int)) (i:=1) rfl (by simp);exact this
   have i2:bh (.ref j) (.str w) m=.ok sv m:=by simp only [bh,hj,hsv]
   have hni:=yi (m:=m) hg (hwl z HP) hwl;rw [decide_eq_true HP] at hni;have t2:aT (Cn pg (n+1+1)) (.cmp .Lt (.blt .len (.cons (.var 0) .nil)) (.cst (.int 2))) [some (bP (w,[z],es)),some (.ref j),some (.int af),some (.str w),none] m=.ok false m:=by
    simp only [cg,cF,au,ay,aq,aJ,aO,aP,aQ,aS,ao,MG,aC];rw [decide_eq_false (by omega)]
   have t3:aT (Cn pg (n+1+1)) (.cmp .NotIn (.idx (.var 0) (.cst (.int 1))) (.idx (.var 1) (.var 3))) [some (bP (w,[z],es)),some (.ref j),some (.int af),some (.str w),none] m=.ok false m:=by
    simp only [cg,cU,aq,aJ,aO,aP,aQ,aS,ao,i1,i2,hni,Bool.not_true]
   simp only [Option.isSome_some,if_true];rw [j5,t2];simp only [ao,Bool.false_eq_true,if_false];exact t3
 have hlk:∃k:Int,B6.lookup w=some (.int k)/\(es.length:Int)=k:=by
  rcases hk with ⟨rfl,_,hl⟩ | ⟨z,k,_,hk,hl,_⟩
  ·exact ⟨2,rfl,by omega⟩
  ·cases hk
   ·exact ⟨2,rfl,by omega⟩
   ·exact ⟨2,rfl,by omega⟩
   ·exact ⟨3,rfl,by omega⟩
   ·exact ⟨2,rfl,by omega⟩
   ·exact ⟨2,rfl,by omega⟩
 obtain ⟨kk,hlk,hkk⟩:=hlk;rw [IZ,aj (by rw [dF hT1,aA]),aj (ρ1:=[some (bP (w,zs,es)),some (.ref j),some (.int af),some (.str w),none]) (m1:=m) (aI (w:=.str w) (by simp only [bI,aO,aP,aQ,aS,Jv]) rfl),aj (by rw [dF hT2,aA]),aj (ρ1:=[some (bP (w,zs,es)),some (.ref j),some (.int af),some (.str w),some (tupI es)]) (m1:=m) (aI (w:=tupI es) (by simp only [bI,aO,aP,aQ,aS,hen]) rfl),aY (bq (w:=.bl true) (m1:=m) ?_)];have qS:ai (Cn pg (n+1+1)) (.cmp .Eq (.blt .len (.cons (.var 4) .nil)) (.fus (.kget B6) (.var 3))) [some (bP (w,zs,es)),some (.ref j),some (.int af),some (.str w),some (tupI es)] m=.ok (.bl true) m:=by
  simp only [bI,aO,aP,aQ,aS,nj,dB,hlk,aC,yg,decide_eq_true hkk]
 rw [xT,qS];simp only [ao,if_true];simp only [bI,aO,aP,aQ,aS,hun]
end
theorem sP {x:W} (h1:getL M x=some xs) (h2:getL M y=some ys) (h3:xs.length+ys.length<=lim):binop .Add x y M=.ok (.ref M.length) (M++[.lst (xs++ys)]):=by
 have:zS M x y=.ok (.ref M.length) (M++[.lst (xs++ys)]):=by simp only [zS,h1,h2]; rw [if_pos h3]; rfl
 cases x<;>cases y<;>first | exact this | cases h1 | cases h2
theorem uR {a b:E} {x:W} (hm:Cm m) (ha:ai C a ρ m=.ok x m) (hb:ai C b ρ m=.ok y m) (h1:getL m x=some xs) (h2:getL m y=some ys) (h3:xs.length+ys.length<=lim) (hp:ak (xs++ys)=true) :
  ai C (.frz (.bin .Add a b)) ρ m=.ok (.fz (xs++ys)) m:=by
 refine bL (m0:=m) ?_ rfl hm hp;rw [eX,ha];simp only [ao];rw [hb];simp only [ao];exact sP h1 h2 h3
structure Hd (m:Mem) (a b c d e:Nat) (ks rl lm:List Str) (ps:List Pc) (ts:List (List Int)):Prop where
 k:m[a]?=some (.lst (ks.map .str))
 r:m[b]?=some (.lst (rl.map .str))
 l:m[c]?=some (.lst (lm.map .str))
 p:m[d]?=some (.lst (ps.map bP))
 t:m[e]?=some (.lst (ts.map tupI))
theorem Hd.app {l:Mem} {a e:Nat} {ks:List Str} {ps:List Pc} {ts:List (List Int)} (h:Hd m a b c d e ks rl lm ps ts):Hd (m++l) a b c d e ks rl lm ps ts:=by
 have g:∀{i:Nat} {o:O},m[i]?=some o->(m++l)[i]?=some o:=λ q=>by rw [getElem?_append_left (List.getElem?_eq_some_iff.mp q).1]; exact q
 exact ⟨g h.k,g h.r,g h.l,g h.p,g h.t⟩
noncomputable def gz (t:List Int):Bool:=match t with
 | [a,b,c,d]=>decide (1<=a)&&decide (a<=b)&&decide (b<=4)&&decide (1<=c)&&decide (c<=d)&&decide (d<=4)
 | _=>false
noncomputable def jr (w:Str) (ps:List Pc):List Str:=(ps.filter λ p=>decide (p.1=w)).flatMap (·.2.1)
structure bH (ks rl lm:List Str) (af:Nat) (ps:List Pc) (ts:List (List Int)):Prop where
 wd:∀z∈ks++rl++lm,Wd z
 nd:(ks++rl++lm).Nodup
 k2:ks.length<=2
 r4:rl.length<=4
 l2:lm.length<=2
 n2:2<=af
 n6:af<=640
 p8:ps.length<=800
 pc:∀p∈ps,j9 (ks++rl) rl lm af p
 co:∀z∈rl,(jr "coil" ps).count z=1
 la:∀z∈lm,(jr "lamp" ps).count z=1
 tl:ts.length=rl.length
 tm:∀t∈ts,gz t=true
section
variable {n:Nat} {m:Mem} {a b c d e:Nat} {ks rl lm:List Str} {af:Nat} {ps:List Pc} {ts:List (List Int)}
theorem yk (h:m[q]?=some (.lst xs)):bu .len [.ref q] m=.ok (.int xs.length) m:=fX (m:=m) (w:=.ref q) (xs:=xs) (m8 (by simp only [getL,h]))
theorem pA (hm:Cm m) (h:Hd m a b c d e ks rl lm ps ts) (o:bH ks rl lm af ps ts):aH (D.runN pg (n+1+1+1) 8) [.ref a,.ref b,.ref c] m=.ok .non m:=by
 rw [bx rfl];refine fW (d:=⟨3,4,b8⟩) (ρ:=[some (.ref a),some (.ref b),some (.ref c),some .non]) rfl rfl ?_;show aK _ b8 [some (.ref a),some (.ref b),some (.ref c),none] m=_;have hk2:=o.k2;have Fo:=o.r4;have hl2:=o.l2;have e1:=uR (C:=Cn pg (n+1+1)) (a:=.var 0) (b:=.var 1) (ρ:=[some (.ref a),some (.ref b),some (.ref c),none]) (x:=.ref a) (y:=.ref b) (xs:=ks.map .str) (ys:=rl.map .str) hm (by simp only [bI,aO,aP,aQ,aS]) (by simp only [bI,aO,aP,aQ,aS]) (by simp only [getL,h.k]) (by simp only [getL,h.r]) (by simp [lim]; omega) (by rw [<-map_append]; exact aX _);have e2:=uR (C:=Cn pg (n+1+1)) (b:=.var 2) (y:=.ref c) (ys:=lm.map .str) hm e1 (by simp only [bI,aO,aP,aQ,aS]) rfl (by simp only [getL,h.l]) (by simp [lim]; omega) (by rw [<-map_append,<-map_append]; exact aX _);rw [<-map_append,<-map_append] at e2;have e3:ai (Cn pg (n+1+1)) (.call 9 (.cons (.frz (.bin .Add (.frz (.bin .Add (.var 0) (.var 1))) (.var 2))) .nil)) [some (.ref a),some (.ref b),some (.ref c),none] m=.ok .non m:=by
  rw [cV,au,e2];simp only [ao,ay,iS (n:=n) o.wd o.nd (by simp; omega)]
 have ht:aT (Cn pg (n+1+1)) (.cmp .IsNot (.var 3) (.cst .non)) [some (.ref a),some (.ref b),some (.ref c),some .non] m=.ok false m:=by simp only [bI,sG,K9,aO,aP,aQ,aS,aC,rL,Bool.not_true]
 rw [b8,aj (ρ1:=[some (.ref a),some (.ref b),some (.ref c),some .non]) (aI e3 rfl),aj (by rw [dF ht,aA]),aA]
theorem qT (h:Hd m a b c d e ks rl lm ps ts) (o:bH ks rl lm af ps ts):aH (D.runN pg (n+1) 11) [.ref a,.ref b,.ref c] m=.ok .non m:=by
 rw [bx rfl];have hI:cz (Cn pg n) (.enm (.var 3)) [some (.ref a),some (.ref b),some (.ref c),some (.tup [.tup [.ref a,.int 2],.tup [.ref b,.int 4],.tup [.ref c,.int 2]]),none,none,none] m=.ok (.enm (.tup [.tup [.ref a,.int 2],.tup [.ref b,.int 4],.tup [.ref c,.int 2]])) m:=by simp [cz,bI,srcOf]
 obtain ⟨ρ',m',hf,o4,o5,o6,rfl,rfl⟩:=cJ (C:=Cn pg n) (t:=.tup (.cons (.var 4) (.cons (.tup (.cons (.var 5) (.cons (.var 6) .nil))) .nil))) (b:=pq) hI (n:=3) rfl
  (λ i ρ M=>∃o4 o5 o6,ρ=[some (.ref a),some (.ref b),some (.ref c),some (.tup [.tup [.ref a,.int 2],.tup [.ref b,.int 4],.tup [.ref c,.int 2]]),o4,o5,o6]/\M=m) ⟨none,none,none,rfl,rfl⟩ (λ i ρ M hi=>by
   rintro ⟨o4,o5,o6,rfl,rfl⟩;have go:∀(q:Nat) (k:Int) (xs:List W),M[q]?=some (.lst xs)->(xs.length:Int)<=k->([W.tup [.ref a,.int 2],.tup [.ref b,.int 4],.tup [.ref c,.int 2]]:List W)[i]?=some (.tup [.ref q,.int k])->∃x ρ1 ρ2 m2,Src.get (.enm (.tup [.tup [.ref a,.int 2],.tup [.ref b,.int 4],.tup [.ref c,.int 2]])) M i=.it x/\aV (.tup (.cons (.var 4) (.cons (.tup (.cons (.var 5) (.cons (.var 6) .nil))) .nil))) x [some (.ref a),some (.ref b),some (.ref c),some (.tup [.tup [.ref a,.int 2],.tup [.ref b,.int 4],.tup [.ref c,.int 2]]),o4,o5,o6]=some ρ1/\(aK (Cn pg n) pq ρ1 M=.ok (.nx ρ2) m2\/aK (Cn pg n) pq ρ1 M=.ok (.ct ρ2) m2)/\∃o4 o5 o6,ρ2=[some (.ref a),some (.ref b),some (.ref c),some (.tup [.tup [.ref a,.int 2],.tup [.ref b,.int 4],.tup [.ref c,.int 2]]),o4,o5,o6]/\m2=M:=λ q k xs hq hk hx=>by
    have hT:aT (Cn pg n) (.cmp .Gt (.blt .len (.cons (.var 5) .nil)) (.var 6)) [some (.ref a),some (.ref b),some (.ref c),some (.tup [.tup [.ref a,.int 2],.tup [.ref b,.int 4],.tup [.ref c,.int 2]]),some (.int i),some (.ref q),some (.int k)] M=.ok false M:=by
     simp only [cg,cF,au,ay,aq,aO,aP,aQ,aS,ao,yk hq,aC];rw [decide_eq_false (by omega)]
    refine ⟨.tup [.int i,.tup [.ref q,.int k]],[some (.ref a),some (.ref b),some (.ref c),some (.tup [.tup [.ref a,.int 2],.tup [.ref b,.int 4],.tup [.ref c,.int 2]]),some (.int i),some (.ref q),some (.int k)],_,_,?_,rfl,.inl (by rw [pq,aj (by rw [dF hT,aA]),aA]),_,_,_,rfl,rfl⟩;simp only [Src.get,hx]
   have hk2:=o.k2;have Fo:=o.r4;have hl2:=o.l2;rcases (by omega:i=0\/i=1\/i=2) with rfl | rfl | rfl
   ·exact go a 2 _ h.k (by rw [length_map]; omega) rfl
   ·exact go b 4 _ h.r (by rw [length_map]; omega) rfl
   ·exact go c 2 _ h.l (by rw [length_map]; omega) rfl)
  (fun ρ M _=>rfl)
 refine fW (d:=⟨3,7,IW⟩) (ρ:=[some (.ref a),some (.ref b),some (.ref c),some (.tup [.tup [.ref a,.int 2],.tup [.ref b,.int 4],.tup [.ref c,.int 2]]),o4,o5,o6]) rfl rfl ?_;show aK _ IW [some (.ref a),some (.ref b),some (.ref c),none,none,none,none] m'=_;rw [IW,aj (ρ1:=[some (.ref a),some (.ref b),some (.ref c),some (.tup [.tup [.ref a,.int 2],.tup [.ref b,.int 4],.tup [.ref c,.int 2]]),none,none,none]) (m1:=m') (aI (w:=.tup [.tup [.ref a,.int 2],.tup [.ref b,.int 4],.tup [.ref c,.int 2]]) (by simp [bI,lim]) rfl),aj hf,aA]
theorem pB {k:Nat} (h1:2<=af) (h2:af<=640) (h3:k<=800):aH (D.runN pg (n+1) 12) [.int af,.int k] m=.ok .non m:=by
 refine aU (m1:=[]) rfl ?_ rfl;refine fW (d:=⟨2,2,IX⟩) (ρ:=[some (.int af),some (.int k)]) rfl rfl ?_;show aK _ IX [some (.int af),some (.int k)] []=_;have c1:aC .LtE (.int 2) (.int af) []=.ok true []:=by simp [aC]; omega
 have c2:aC .LtE (.int af) (.int 640) []=.ok true []:=by simp [aC]; omega
 have c3:aC .Gt (.int k) (.int 800) []=.ok false []:=by simp [aC]; omega
 have t1:aT (Cn pg n) (.not (.chain .LtE .LtE (.cst (.int 2)) (.var 0) (.cst (.int 640)))) [some (.int af),some (.int k)] []=.ok false []:=by
  simp only [fF,m5,aJ,aq,aO,aP,aQ,aS,ao,c1,c2,if_true,Bool.not_true]
 have t2:aT (Cn pg n) (.cmp .Gt (.var 1) (.cst (.int 800))) [some (.int af),some (.int k)] []=.ok false []:=by
  simp only [cg,aJ,aq,aO,aP,aQ,aS,ao,c3]
 rw [IX,aj (by rw [dF t1,aA]),aj (by rw [dF t2,aA]),aA]
theorem nk (hm:Cm m) (h:Hd m a b c d e ks rl lm ps ts) (o:bH ks rl lm af ps ts):∃l,aH (D.runN pg (n+1+1+1+1) 13) [.ref a,.ref b,.ref c,.int af,.ref d] m=.ok .non (m++l)/\Cm (m++l):=by
 have hk2:=o.k2;have Fo:=o.r4;have bl:=(List.getElem?_eq_some_iff.mp h.r).1;have cl:=(List.getElem?_eq_some_iff.mp h.l).1;have e5:=uR (C:=Cn pg (n+1+1+1)) (a:=.var 0) (b:=.var 1) (ρ:=[some (.ref a),some (.ref b),some (.ref c),some (.int af),some (.ref d),none,none,none,none]) (x:=.ref a) (y:=.ref b) (xs:=ks.map .str) (ys:=rl.map .str) hm (by simp only [bI,aO,aP,aQ,aS]) (by simp only [bI,aO,aP,aQ,aS]) (by simp only [getL,h.k]) (by simp only [getL,h.r]) (by simp [lim]; omega) (by rw [<-map_append]; exact aX _);rw [<-map_append] at e5;have hc:Cm (m++[.dic (AR (.fz ((ks++rl).map .str)) (.ref b) (.ref c))]):=hm.push (by
  have:=bA m.length (aX (ks++rl));simp only [map_append] at this ⊢;simp [eS,cB,fH,bl,cl,this])
 have hj:(m++[O.dic (AR (.fz ((ks++rl).map .str)) (.ref b) (.ref c))])[m.length]?=some (.dic (AR (.fz ((ks++rl).map .str)) (.ref b) (.ref c))):=by simp
 have h':=h.app (l:=[O.dic (AR (.fz ((ks++rl).map .str)) (.ref b) (.ref c))]);refine ⟨_,?_,hc⟩;generalize hM:m++[O.dic (AR (.fz ((ks++rl).map .str)) (.ref b) (.ref c))]=M at hj h' hc ⊢;rw [bx rfl];have hI:cz (Cn pg (n+1+1+1)) (.enm (.var 4)) [some (.ref a),some (.ref b),some (.ref c),some (.int af),some (.ref d),some (.fz ((ks++rl).map .str)),some (.ref m.length),none,none] M=.ok (.enm (.lst d)) M:=by
  simp only [cz,aq,aO,aP,aQ,aS,ao,srcOf,getL,h'.p]
 obtain ⟨ρ',m',hf,o7,o8,rfl,rfl⟩:=cJ (C:=Cn pg (n+1+1+1)) (t:=.tup (.cons (.var 7) (.cons (.var 8) .nil))) (b:=ya) hI (n:=ps.length) (by simp [Src.len,getL,h'.p])
  (λ i ρ M'=>∃o7 o8,ρ=[some (.ref a),some (.ref b),some (.ref c),some (.int af),some (.ref d),some (.fz ((ks++rl).map .str)),some (.ref m.length),o7,o8]/\M'=M) ⟨none,none,rfl,rfl⟩ (λ i ρ M' hi=>by
   rintro ⟨o7,o8,rfl,rfl⟩;have hp:=yj (n:=n) (m:=M') (o.pc ps[i] (getElem_mem hi)) hj rfl (by simp only [getL,h'.r]) (by simp only [getL,h'.l]) (λ z hz=>o.wd z (mem_append_left _ hz)) (λ z hz=>o.wd z (mem_append_left _ (mem_append_right _ hz))) (λ z hz=>o.wd z (mem_append_right _ hz));have hT:aT (Cn pg (n+1+1+1)) (.not (.call 14 (.cons (.var 8) (.cons (.var 6) (.cons (.var 3) .nil))))) [some (.ref a),some (.ref b),some (.ref c),some (.int af),some (.ref d),some (.fz ((ks++rl).map .str)),some (.ref m.length),some (.int i),some (bP ps[i])] M'=.ok false M':=by
    have t:aT (Cn pg (n+1+1+1)) (.call 14 (.cons (.var 8) (.cons (.var 6) (.cons (.var 3) .nil)))) [some (.ref a),some (.ref b),some (.ref c),some (.int af),some (.ref d),some (.fz ((ks++rl).map .str)),some (.ref m.length),some (.int i),some (bP ps[i])] M'=.ok true M':=d9 (iR _ _) (by simp only [bI,aO,aP,aQ,aS,hp]);rw [fF,t];rfl
   refine ⟨.tup [.int i,bP ps[i]],[some (.ref a),some (.ref b),some (.ref c),some (.int af),some (.ref d),some (.fz ((ks++rl).map .str)),some (.ref m.length),some (.int i),some (bP ps[i])],_,_,?_,rfl,.inl (by rw [ya,aj (by rw [dF hT,aA]),aA]),_,_,rfl,rfl⟩;rw [fB (w:=bP ps[i])];rw [cR h'.p,bf (by simpa using hi),getElem_map])
  (fun ρ M'=>by
   rintro ⟨_,_,_,rfl⟩;rw [d8];rw [cR h'.p];exact aM (by simp))
 refine fW (d:=⟨5,9,IY⟩) (ρ:=[some (.ref a),some (.ref b),some (.ref c),some (.int af),some (.ref d),some (.fz ((ks++rl).map .str)),some (.ref m.length),o7,o8]) rfl rfl ?_;show aK _ IY [some (.ref a),some (.ref b),some (.ref c),some (.int af),some (.ref d),none,none,none,none] m=_;rw [IY,aj (ρ1:=[some (.ref a),some (.ref b),some (.ref c),some (.int af),some (.ref d),some (.fz ((ks++rl).map .str)),none,none,none]) (m1:=m) (aI e5 rfl),aj (ρ1:=[some (.ref a),some (.ref b),some (.ref c),some (.int af),some (.ref d),some (.fz ((ks++rl).map .str)),some (.ref m.length),none,none]) (m1:=m') (aI (w:=.ref m.length) ?_ rfl),aj hf,aA];rw [sI,lM];simp only [au,ay,aq,aO,aP,aQ,aS,ao];rw [if_pos (by simp [lim])];simp only [ao,dB,qp];rw [if_pos ⟨rfl,by decide +kernel,by decide⟩];simp only [new,zip_cons_cons,zip_nil_right,hM]
end
section
variable {n:Nat} {m:Mem} {a b c d e:Nat} {ks rl lm:List Str} {af:Nat} {ps:List Pc} {ts:List (List Int)}
theorem MH {x0 x1 x2 x3:Int}:bh (tupI [x0,x1,x2,x3]) (.int 0) M=.ok (.int x0) M/\bh (tupI [x0,x1,x2,x3]) (.int 1) M=.ok (.int x1) M/\bh (tupI [x0,x1,x2,x3]) (.int 2) M=.ok (.int x2) M/\bh (tupI [x0,x1,x2,x3]) (.int 3) M=.ok (.int x3) M:=⟨rfl,rfl,rfl,rfl⟩
theorem sQ {i j:Int} (h:i<=j) (M:Mem):aC .LtE (.int i) (.int j) M=.ok true M:=by simp [aC,h]
theorem uS (h:gz t=true):aH (D.runN pg (n+1) 20) [tupI t] m=.ok (.bl true) m:=by
 obtain ⟨x0,x1,x2,x3,rfl⟩:∃x0 x1 x2 x3,t=[x0,x1,x2,x3]:=by
  unfold gz at h;split at h
  ·exact ⟨_,_,_,_,rfl⟩
  ·cases h
 simp only [gz,Bool.and_eq_true,decide_eq_true_eq] at h;obtain ⟨⟨⟨⟨⟨h1,h2⟩,h3⟩,h4⟩,h5⟩,h6⟩:=h;refine aU (m1:=[]) rfl ?_ rfl;refine bw (d:=⟨1,2,Jb⟩) rfl rfl ?_;show aK _ Jb [some (tupI [x0,x1,x2,x3]),none] []=_;obtain ⟨a0,a1,a2,a3⟩:=MH (x0:=x0) (x1:=x1) (x2:=x2) (x3:=x3) (M:=[]);have hall:=oX (C:=Cn pg n) (i:=1) (js:=[1]) (it:=.var 0) (s:=.tup ([x0,x1,x2,x3].map .int)) (e:=.chain .LtE .LtE (.cst (.int 1)) (.var 1) (.cst (.int 4))) (ρ:=[some (tupI [x0,x1,x2,x3]),none]) (m:=[]) (xs:=[x0,x1,x2,x3].map .int) Cm.nil (by rw [eY,aq]; rfl) (λ j=>rfl) rfl (by simp [lim]) (λ x hx=>by
  obtain ⟨i,hi,rfl⟩:=List.mem_map.mp hx;have:1<=i/\i<=4:=by
   simp only [mem_cons,not_mem_nil,or_false] at hi;rcases hi with rfl | rfl | rfl | rfl<;>omega
  simp only [bY,bI,aO,aP,aQ,aS,sQ this.1,sQ this.2,if_true])
 have hT:aT (Cn pg n) (.or (.cmp .NotEq (.blt .len (.cons (.var 0) .nil)) (.cst (.int 4))) (.not (.blt .all (.cons (.frz (.comp (.gen (.var 1) [1] (.var 0) .nil (.elt (.chain .LtE .LtE (.cst (.int 1)) (.var 1) (.cst (.int 4))))))) .nil)))) [some (tupI [x0,x1,x2,x3]),none] []=.ok false []:=by
  have t1:aT (Cn pg n) (.cmp .NotEq (.blt .len (.cons (.var 0) .nil)) (.cst (.int 4))) [some (tupI [x0,x1,x2,x3]),none] []=.ok false []:=by
   simp only [cg,cF,au,ay,aq,aJ,aO,aP,aQ,aS,ao,nj,aC,yg];rfl
  have t2:=d9 (xV _ _) hall;rw [j5,t1];simp only [ao,Bool.false_eq_true,if_false];rw [fF,t2];rfl
 rw [Jb,aj (by rw [dF hT,aA]),aY (bq (w:=.bl true) (m1:=[]) ?_)];simp only [bI,aO,aP,aQ,aS,a0,a1,a2,a3,sQ h2,sQ h5,if_true]
theorem pC (hm:Cm m) (h:Hd m a b c d e ks rl lm ps ts) (o:bH ks rl lm af ps ts):∃l,aH (D.runN pg (n+1+1) 19) [.ref b,.ref e] m=.ok .non (m++l)/\Cm (m++l):=by
 have Fo:=o.r4;have Fp:=o.tl;obtain ⟨Y,hY,hYm,hYl⟩:∃Y:List (List Int),cN (ts.map tupI) none (some (rl.length:Int))=Y.map tupI/\(∀t∈Y,gz t=true)/\Y.length<=4:=by
  refine ⟨(ts.drop (HT.bT (ts.map tupI).length 0 none)).take (HT.bT (ts.map tupI).length (ts.map tupI).length (some (rl.length:Int)) - HT.bT (ts.map tupI).length 0 none),?_,λ t ht=>o.tm t (mem_of_mem_drop (mem_of_mem_take ht)),?_⟩
  ·unfold cN;rw [<-map_drop,<-map_take]
  ·rw [length_take,length_drop]; omega
 have hc:Cm (m++[.lst (Y.map tupI)]):=hm.push (o:=.lst (Y.map tupI)) (bA _ (ig (λ t=>by simp [aD,dS]) _));have h':=h.app (l:=[.lst (Y.map tupI)]);have hq:(m++[O.lst (Y.map tupI)])[m.length]?=some (.lst (Y.map tupI)):=by simp
 refine ⟨_,?_,hc⟩;rw [bx rfl];have hI:cz (Cn pg (n+1)) (.enm (.slc (.var 1) .none (.some (.blt .len (.cons (.var 0) .nil))))) [some (.ref b),some (.ref e),none,none] m=.ok (.enm (.lst m.length)) (m++[.lst (Y.map tupI)]):=by
  have hs:cK (.ref e) none (some (rl.length:Int)) m=.ok (.ref m.length) (m++[.lst (Y.map tupI)]):=by
   simp only [cK,getL,h.t,hY,new]
  simp only [cz,jb,aq,fC,dj,cF,au,ay,aO,aP,aQ,aS,ao,yk h.r,length_map,hs,srcOf,getL,hq]
 obtain ⟨ρ',m',hf,o2,o3,rfl,rfl⟩:=cJ (C:=Cn pg (n+1)) (t:=.tup (.cons (.var 2) (.cons (.var 3) .nil))) (b:=yc) hI (n:=Y.length) (by simp [Src.len,getL,hq])
  (λ i ρ M'=>∃o2 o3,ρ=[some (.ref b),some (.ref e),o2,o3]/\M'=m++[.lst (Y.map tupI)]) ⟨none,none,rfl,rfl⟩ (λ i ρ M' hi=>by
   rintro ⟨o2,o3,rfl,rfl⟩;have hp:=uS (n:=n) (m:=m++[.lst (Y.map tupI)]) (hYm Y[i] (getElem_mem hi));have hT:aT (Cn pg (n+1)) (.not (.call 20 (.cons (.var 3) .nil))) [some (.ref b),some (.ref e),some (.int i),some (tupI Y[i])] (m++[.lst (Y.map tupI)])=.ok false (m++[.lst (Y.map tupI)]):=by
    have t:aT (Cn pg (n+1)) (.call 20 (.cons (.var 3) .nil)) [some (.ref b),some (.ref e),some (.int i),some (tupI Y[i])] (m++[.lst (Y.map tupI)])=.ok true (m++[.lst (Y.map tupI)]):=d9 (iR _ _) (by simp only [bI,aO,aP,aQ,aS,hp]);rw [fF,t];rfl
   refine ⟨.tup [.int i,tupI Y[i]],[some (.ref b),some (.ref e),some (.int i),some (tupI Y[i])],_,_,?_,rfl,.inl (by rw [yc,aj (by rw [dF hT,aA]),aA]),_,_,rfl,rfl⟩;rw [fB (w:=tupI Y[i])];rw [cR hq,bf (by simpa using hi),getElem_map])
  (fun ρ M'=>by
   rintro ⟨_,_,_,rfl⟩;rw [d8];rw [cR hq];exact aM (by simp))
 refine fW (d:=⟨2,4,Ja⟩) (ρ:=[some (.ref b),some (.ref e),o2,o3]) rfl rfl ?_;show aK _ Ja [some (.ref b),some (.ref e),none,none] m=_;have hT2:aT (Cn pg (n+1)) (.cmp .NotEq (.blt .len (.cons (.var 1) .nil)) (.blt .len (.cons (.var 0) .nil))) [some (.ref b),some (.ref e),o2,o3] (m++[.lst (Y.map tupI)])=.ok false (m++[.lst (Y.map tupI)]):=by
  simp only [cg,cF,au,ay,aq,aO,aP,aQ,aS,ao,yk h'.r,yk h'.t,length_map,aC,yg,Fp];simp
 rw [Ja,aj hf,aj (by rw [dF hT2,aA]),aA]
theorem uT (l:List Str):dI (l.map .str)=some l:=by
 induction l with
 | nil=>rfl
 | cons x r ih=>simp [dI,ih]
noncomputable def Jy (w:Str):W->Bool
 | .tup (.str v::_)=>decide (v=w)
 | _=>false
noncomputable def EM:W->W
 | .tup (_::y::_)=>y
 | _=>.non
theorem yl {w:Str}:∀{ps:List Pc},(∀p∈ps,p.1=w->∃z,p.2.1=[z])->((ps.map bP).filter (Jy w)).map EM=(jr w ps).map .str:=by
 intro ps
 induction ps with
 | nil=>intro _; rfl
 | cons p r ih=>
  intro h;have ih:=ih λ x hx=>h x (mem_cons_of_mem _ hx);unfold jr at ih ⊢;have e:Jy w (bP p)=decide (p.1=w):=rfl;rw [map_cons,filter_cons,filter_cons,e]
  by_cases hp:p.1=w
  ·obtain ⟨z,hz⟩:=h p mem_cons_self hp;rw [if_pos (by simp [hp]),if_pos (by simp [hp]),map_cons,ih,flatMap_cons,hz];show EM (.tup (.str p.1::(p.2.1.map .str++p.2.2.map .int)))::_=_;rw [hz];rfl
  ·rw [if_neg (by simp [hp]),if_neg (by simp [hp])];exact ih
theorem AS {w:Str} (h:∀p∈ps,p.1=w->∃z,p.2.1=[z]):(jr w ps).length<=ps.length:=by
 have:=congrArg List.length (yl h);rw [length_map,length_map] at this;have h2:=length_filter_le (Jy w) (ps.map bP);rw [length_map] at h2;omega
theorem pD {w:Str} {nl:List Str} (hm:Cm m) (hw:w="coil"\/w="lamp") (hd:m[d]?=some (.lst (ps.map bP))) (hq:m[q]?=some (.lst (nl.map .str))) (hc:∀z∈nl,(jr w ps).count z=1) (hp:∀p∈ps,∃sw rl lm af,j9 sw rl lm af p) (hl:ps.length<=800) :
  ∃l,aH (D.runN pg (n+1) 18) [.str w,.ref q,.ref d] m=.ok .non (m++l)/\Cm (m++l):=by
 have MI:w.cps.all (· < 0x110000)=true:=kc (.inr (by rcases hw with rfl | rfl; exact ⟨_,.coil⟩; exact ⟨_,.lamp⟩));have hk:∀p∈ps,p.1.cps.all (· < 0x110000)=true/\(p.1=w->∃z,p.2.1=[z]):=λ p hpp=>by
  obtain ⟨_,_,_,_,hok⟩:=hp p hpp;rcases hok.kind with ⟨h1,_,_⟩ | ⟨z,k,h1,h2,_⟩
  ·refine ⟨kc (.inl h1),λ e=>?_⟩;rw [h1] at e;rcases hw with rfl | rfl
   ·exact absurd e (by decide +kernel)
   ·exact absurd e (by decide +kernel)
  ·exact ⟨kc (.inr ⟨k,h2⟩),λ _=>⟨z,h1⟩⟩
 have hlim:(ps.map bP).length<=lim:=by rw [length_map]; simp only [lim]; omega
 have II:∀x∈ps.map bP,∃p∈ps,x=bP p:=λ x hx=>by
  obtain ⟨p,hp,e⟩:=List.mem_map.mp hx;exact ⟨p,hp,e.symm⟩
 obtain ⟨ρ1,qS⟩:=gm (C:=Cn pg n) (get:=Src.get (.lst d)) (t:=.var 6) (ifs:=.cons (.cmp .Eq (.idx (.var 6) (.cst (.int 0))) (.var 0)) .nil) (e:=.idx (.var 6) (.cst (.int 1))) (ρ:=bY [6] [some (.str w),some (.ref q),some (.ref d),none,none,none,none]) (m:=m) (xs:=ps.map bP) (B:=λ x=>(bY [6] [some (.str w),some (.ref q),some (.ref d),none,none,none,none]).set 6 (some x)) (p:=Jy w) (g:=EM)
  (λ j hj=>by rw [cR hd,bf hj]) (by rw [cR hd]; exact aM (by omega)) (λ x _=>by simp only [aV]) (λ x _ y _=>by simp only [aV,set_set]) (λ x hx=>by
   obtain ⟨p,hpp,rfl⟩:=II x hx;have e:=Ju (m:=m) (hk p hpp).1 MI;simp only [bY,bz,cg,cU,aq,aJ,aO,aP,aQ,aS,ao,Jv,aC,e];show (if decide (p.1=w)=true then R.ok true m else R.ok false m)=.ok (decide (p.1=w)) m;cases decide (p.1=w)<;>rfl) (λ x hx hpx=>by
   obtain ⟨p,hpp,rfl⟩:=II x hx;obtain ⟨z,hz⟩:=(hk p hpp).2 (of_decide_eq_true hpx);obtain ⟨v,zs,es⟩:=p;have hz:zs=[z]:=hz;subst hz;have e:=eG (m:=m) (w:=bP (v,[z],es)) (xs:=.str v::([z].map .str++es.map .int)) (i:=1) rfl (by simp);simp only [bY,cU,aq,aJ,aO,aP,aQ,aS,ao];exact e) hlim
 rw [yl λ p hpp=>(hk p hpp).2] at qS;have hfl:=AS (w:=w) (ps:=ps) λ p hpp=>(hk p hpp).2;have eC:ai (Cn pg n) (.comp (.gen (.var 6) [6] (.var 2) (.cons (.cmp .Eq (.idx (.var 6) (.cst (.int 0))) (.var 0)) .nil) (.elt (.idx (.var 6) (.cst (.int 1)))))) [some (.str w),some (.ref q),some (.ref d),none,none,none,none] m=.ok (.ref m.length) (m++[.lst ((jr w ps).map .str)]):=by
  refine dZ (s:=.lst d) (js:=[6]) (m1:=m) (ρ':=ρ1) ?_ ?_
  ·rw [eY,aq];simp only [aO,aP,aQ,aS,ao,fE,qq,srcOf,getL,hd]
  ·have hlen:Src.len (.lst d) m=(ps.map bP).length:=by simp only [Src.len,getL,hd]
   rw [hlen];exact qS
 have hc1:Cm (m++[.lst ((jr w ps).map .str)]):=hm.push (o:=.lst ((jr w ps).map .str)) (bA _ (aX _));have La:(m++[O.lst ((jr w ps).map .str)])[m.length]?=some (.lst ((jr w ps).map .str)):=by simp
 have hq':(m++[O.lst ((jr w ps).map .str)])[q]?=some (.lst (nl.map .str)):=by rw [getElem?_append_left (List.getElem?_eq_some_iff.mp hq).1]; exact hq
 refine ⟨_,?_,hc1⟩;generalize m++[O.lst ((jr w ps).map .str)]=M at eC La hq' hc1 ⊢;rw [bx (by simp [ak,aD])];have hI:cz (Cn pg n) (.enm (.var 1)) [some (.str w),some (.ref q),some (.ref d),some (.ref m.length),none,none,none] M=.ok (.enm (.lst q)) M:=by
  simp only [cz,aq,aO,aP,aQ,aS,ao,srcOf,getL,hq']
 obtain ⟨ρ',m',hf,o4,o5,rfl,rfl⟩:=cJ (C:=Cn pg n) (t:=.tup (.cons (.var 4) (.cons (.var 5) .nil))) (b:=yb) hI (n:=nl.length) (by simp [Src.len,getL,hq'])
  (λ i ρ M'=>∃o4 o5,ρ=[some (.str w),some (.ref q),some (.ref d),some (.ref m.length),o4,o5,none]/\M'=M) ⟨none,none,rfl,rfl⟩ (λ i ρ M' hi=>by
   rintro ⟨o4,o5,rfl,rfl⟩;have h1:=hc nl[i] (getElem_mem hi);have hkd:kdOf M' (.ref m.length)=iI "count":=by simp only [kdOf,La]; decide
   have hct:br (.ref m.length) "count" [.str nl[i]] M'=.ok (.int 1) M':=by
    simp only [br,La,dJ,String.reduceEq,if_false,if_true,mF,uT,h1];rfl
   have hT:aT (Cn pg n) (.cmp .NotEq (.meth (.var 3) "count" (.cons (.var 5) .nil)) (.cst (.int 1))) [some (.str w),some (.ref q),some (.ref d),some (.ref m.length),some (.int i),some (.str nl[i]),none] M'=.ok false M':=by
    simp only [cg,dH,aq,aJ,au,ay,aO,aP,aQ,aS,ao];rw [if_pos hkd,hct];simp only [ao,aC,yg];rfl
   refine ⟨.tup [.int i,.str nl[i]],[some (.str w),some (.ref q),some (.ref d),some (.ref m.length),some (.int i),some (.str nl[i]),none],_,_,?_,rfl,.inl (by rw [yb,aj (by rw [dF hT,aA]),aA]),_,_,rfl,rfl⟩;rw [fB (w:=.str nl[i])];rw [cR hq',bf (by simpa using hi),getElem_map])
  (fun ρ M'=>by
   rintro ⟨_,_,_,rfl⟩;rw [d8];rw [cR hq'];exact aM (by simp))
 refine fW (d:=⟨3,7,I9⟩) (ρ:=[some (.str w),some (.ref q),some (.ref d),some (.ref m.length),o4,o5,none]) rfl rfl ?_;show aK _ I9 [some (.str w),some (.ref q),some (.ref d),none,none,none,none] m=_;rw [I9,aj (aI eC rfl)];simp only [aO,aP,aQ,aS];rw [aj hf,aA]
theorem uU (hm:Cm m) (h:Hd m a b c d e ks rl lm ps ts) (o:bH ks rl lm af ps ts):∃l,aH (D.runN pg (n+1+1+1+1+1) 7) [.ref a,.ref b,.ref c,.int af,.ref d,.ref e] m=.ok .non (m++l)/\Cm (m++l):=by
 have jA:∀p∈ps,∃sw rl lm af,j9 sw rl lm af p:=λ p hp=>⟨_,_,_,_,o.pc p hp⟩;have e1:=pA (n:=n+1) hm h o;have e2:=qT (n:=n+1+1+1) h o;have e3:=pB (n:=n+1+1+1) (m:=m) o.n2 o.n6 o.p8;obtain ⟨l1,e4,c1⟩:=nk (n:=n) hm h o;have h1:=h.app (l:=l1);obtain ⟨l2,e5,c2⟩:=pD (n:=n+1+1+1) (w:="coil") c1 (.inl rfl) h1.p h1.r o.co jA o.p8;have h2:=h1.app (l:=l2);obtain ⟨l3,e6,c3⟩:=pD (n:=n+1+1+1) (w:="lamp") c2 (.inr rfl) h2.p h2.l o.la jA o.p8;have h3:=h2.app (l:=l3);obtain ⟨l4,e7,c4⟩:=pC (n:=n+1+1) c3 h3 o;refine ⟨l1++l2++l3++l4,?_,by simpa [append_assoc] using c4⟩;rw [bx rfl];refine fW (d:=⟨6,6,b7⟩) (ρ:=[some (.ref a),some (.ref b),some (.ref c),some (.int af),some (.ref d),some (.ref e)]) rfl rfl ?_;show aK _ b7 [some (.ref a),some (.ref b),some (.ref c),some (.int af),some (.ref d),some (.ref e)] m=_;rw [b7,aj (bX (w:=.non) (m1:=m) (by simp only [bI,aO,aP,aQ,aS,e1])),aj (bX (w:=.non) (m1:=m) (by simp only [bI,aO,aP,aQ,aS,e2])),aj (bX (w:=.non) (m1:=m) (by simp only [bI,aO,aP,aQ,aS,yk h.p,length_map,e3])),aj (bX (w:=.non) (m1:=m++l1) (by simp only [bI,aO,aP,aQ,aS,e4])),aj (bX (w:=.non) (m1:=m++l1++l2) (by simp only [bI,aO,aP,aQ,aS,e5])),aj (bX (w:=.non) (m1:=m++l1++l2++l3) (by simp only [bI,aO,aP,aQ,aS,e6])),aj (bX (w:=.non) (m1:=m++l1++l2++l3++l4) (by simp only [bI,aO,aP,aQ,aS,e7])),aA];simp [append_assoc]
end
abbrev bM (l:List Str):W:=.fz (l.map .str)
theorem fY (he:ai C e ρ m=.ok w m) (h:getL m w=some xs) (hm:Cm m) (hp:ak xs=true):ai C (.frz (.blt .list (.cons e .nil))) ρ m=.ok (.fz xs) m:=by
 refine bL (m0:=m) ?_ rfl hm hp;rw [cF,au,he];simp only [ao,ay,bu,m8 h,new]
theorem iT {f:Str} {fs fs':List (Str×W)} {v:W} (hp:m[p]?=some (.ins "Net" fs)) (hc:cs.flds.contains (("Net":Str),f)=true) (hl:fs.length < 1000) (hf:D.dM f v fs=fs'):om cs (.ref p) f v m=.ok () (m.set p (.ins "Net" fs')):=by
 simp only [om,hp];rw [if_pos ⟨hc,hl⟩,hf]
theorem ym (p:Pc):aD (bP p)=true:=by
 simp only [aD,ak,Bool.true_and];rw [sE,aX,dS];rfl
theorem bR (ps:List Pc):ak (ps.map bP)=true:=ig ym ps
theorem dm (ts:List (List Int)):ak (ts.map tupI)=true:=ig (λ t=>by simp [aD,dS]) ts
abbrev eH (ks rl lm:List Str) (af:Nat) (ps:List Pc) (ts:List (List Int)):List (Str×W):=[("key_list",bM ks),("relay_list",bM rl),("lamp_list",bM lm),("many_nodes",.int af),("piece_list",.fz (ps.map bP)),("time_list",.fz (ts.map tupI))]
abbrev bJ (ks rl lm:List Str) (af:Nat) (ps:List Pc) (ts:List (List Int)):W:=.obj "Net" ["key_list","relay_list","lamp_list","many_nodes","piece_list","time_list"] [bM ks,bM rl,bM lm,.int af,.fz (ps.map bP),.fz (ts.map tupI)]
theorem yo {fs:List (Str×W)} (h:Cm m) (hp:ak (fs.map (·.2))=true):Cm (m.set p (.ins "Net" fs)):=h.set (bA _ hp)
section
variable {n:Nat} {m:Mem} {a b c d e:Nat} {ks rl lm:List Str} {af:Nat} {ps:List Pc} {ts:List (List Int)}
theorem Hd.ins {fs gs:List (Str×W)} (h:Hd m a b c d e ks rl lm ps ts) (hp:m[p]?=some (.ins "Net" fs)):Hd (m.set p (.ins "Net" gs)) a b c d e ks rl lm ps ts:=by
 have g:∀{i:Nat} {xs:List W},m[i]?=some (.lst xs)->(m.set p (.ins "Net" gs))[i]?=some (.lst xs):=λ {i xs} q=>by
  rw [getElem?_set_ne]
  ·exact q
  ·rintro rfl;rw [hp] at q; cases q
 exact ⟨g h.k,g h.r,g h.l,g h.p,g h.t⟩
theorem pF (hm:Cm m) (hp:m[p]?=some (.ins "Net" [])) (h:Hd m a b c d e ks rl lm ps ts) (o:bH ks rl lm af ps ts) :
  ∃l,D.runN pg (n+1+1+1+1+1+1) 0 [.ref p,.ref a,.ref b,.ref c,.int af,.ref d,.ref e] m=.ok .non ((m++l).set p (.ins "Net" (eH ks rl lm af ps ts)))/\Cm ((m++l).set p (.ins "Net" (eH ks rl lm af ps ts))):=by
 obtain ⟨l,d0,c0⟩:=uU (n:=n) hm h o;have hlt:p < m.length:=(List.getElem?_eq_some_iff.mp hp).1;have hp0:(m++l)[p]?=some (.ins "Net" []):=by rw [getElem?_append_left hlt]; exact hp
 have h0:=h.app (l:=l);refine ⟨l,?_,yo c0 (by simp [ak,aD,aX,bR,dm])⟩;generalize m++l=M at d0 c0 hp0 h0 ⊢;have MJ:p < M.length:=(List.getElem?_eq_some_iff.mp hp0).1;have g:∀o:O,(M.set p o)[p]?=some o:=λ o=>by rw [getElem?_set_self MJ]
 have cm:∀fs:List (Str×W),ak (fs.map (·.2))=true->Cm (M.set p (.ins "Net" fs)):=λ fs hf=>yo c0 hf;have hh:∀fs:List (Str×W),Hd (M.set p (.ins "Net" fs)) a b c d e ks rl lm ps ts:=λ fs=>h0.ins hp0;have gL:∀{M':Mem} {i:Nat} {xs:List W},M'[i]?=some (.lst xs)->getL M' (.ref i)=some xs:=λ q=>by simp only [getL,q]
 refine fW (d:=⟨7,7,b0⟩) (ρ:=[some (.ref p),some (.ref a),some (.ref b),some (.ref c),some (.int af),some (.ref d),some (.ref e)]) rfl rfl ?_;show aK _ b0 [some (.ref p),some (.ref a),some (.ref b),some (.ref c),some (.int af),some (.ref d),some (.ref e)] m=_;have v0:∀M',ai (Cn pg (n+1+1+1+1+1)) (.var 0) [some (.ref p),some (.ref a),some (.ref b),some (.ref c),some (.int af),some (.ref d),some (.ref e)] M'=.ok (.ref p) M':=λ M'=>by simp only [bI,aO,aP,aQ,aS]
 rw [b0,aj (bX (w:=.non) (m1:=M) (by simp only [bI,aO,aP,aQ,aS,d0]))];rw [aj (iP (fY (w:=.ref a) (by simp only [bI,aO,aP,aQ,aS]) (gL h0.k) c0 (aX _)) (v0 _) (iT (fs':=[("key_list",bM ks)]) hp0 rfl (by decide) rfl))];rw [aj (iP (fY (w:=.ref b) (by simp only [bI,aO,aP,aQ,aS]) (gL (hh _).r) (cm _ (by simp [ak,aD,aX])) (aX _)) (v0 _) (iT (fs':=[("key_list",bM ks),("relay_list",bM rl)]) (g _) rfl (by simp) rfl)),set_set];rw [aj (iP (fY (w:=.ref c) (by simp only [bI,aO,aP,aQ,aS]) (gL (hh _).l) (cm _ (by simp [ak,aD,aX])) (aX _)) (v0 _) (iT (fs':=[("key_list",bM ks),("relay_list",bM rl),("lamp_list",bM lm)]) (g _) rfl (by simp) rfl)),set_set];rw [aj (iP (w:=.int af) (m1:=M.set p (.ins "Net" [("key_list",bM ks),("relay_list",bM rl),("lamp_list",bM lm)])) (by simp only [bI,aO,aP,aQ,aS]) (v0 _) (iT (fs':=[("key_list",bM ks),("relay_list",bM rl),("lamp_list",bM lm),("many_nodes",.int af)]) (g _) rfl (by simp) rfl)),set_set];rw [aj (iP (fY (w:=.ref d) (by simp only [bI,aO,aP,aQ,aS]) (gL (hh _).p) (cm _ (by simp [ak,aD,aX])) (bR _)) (v0 _) (iT (fs':=[("key_list",bM ks),("relay_list",bM rl),("lamp_list",bM lm),("many_nodes",.int af),("piece_list",.fz (ps.map bP))]) (g _) rfl (by simp) rfl)),set_set];rw [aj (iP (fY (w:=.ref e) (by simp only [bI,aO,aP,aQ,aS]) (gL (hh _).t) (cm _ (by simp [ak,aD,aX,bR])) (dm _)) (v0 _) (iT (fs':=eH ks rl lm af ps ts) (g _) rfl (by simp) rfl)),set_set,aA]
theorem made (hm:Cm m) (hq:m[q]?=some (.lst [.ref a,.ref b,.ref c,.int af,.ref d,.ref e])) (h:Hd m a b c d e ks rl lm ps ts) (o:bH ks rl lm af ps ts) :
  ∃l,aH (D.runN pg (n+1+1+1+1+1+1+1) 39) [.ref q] m=.ok (.ref m.length) (m++.ins "Net" (eH ks rl lm af ps ts)::l)/\Cm (m++.ins "Net" (eH ks rl lm af ps ts)::l):=by
 have hp:(m++[O.ins "Net" []])[m.length]?=some (.ins "Net" []):=by simp
 obtain ⟨l,h1,c1⟩:=pF (n:=n) (hm.push (o:=.ins "Net" []) rfl) hp h.app o;have h2:((m++[O.ins "Net" []])++l).set m.length (.ins "Net" (eH ks rl lm af ps ts))=m++.ins "Net" (eH ks rl lm af ps ts)::l:=by
  rw [append_assoc,set_append_right _ _ (Nat.le_refl _),Nat.sub_self];rfl
 rw [h2] at h1 c1;refine ⟨l,?_,c1⟩;rw [bx rfl];refine bw (d:=⟨1,1,Jq⟩) rfl rfl ?_;show aK _ Jq [some (.ref q)] m=_;have hi:cs.ini.lookup ("Net":Str)=some 0:=rfl;have gx:cu m (.ref q)=some [.ref a,.ref b,.ref c,.int af,.ref d,.ref e]:=m8 (by simp only [getL,hq]);have ix:bh (.ref q) (.int 0) m=.ok (.ref a) m/\bh (.ref q) (.int 1) m=.ok (.ref b) m/\bh (.ref q) (.int 2) m=.ok (.ref c) m/\bh (.ref q) (.int 3) m=.ok (.int af) m/\bh (.ref q) (.int 4) m=.ok (.ref d) m/\bh (.ref q) (.int 5) m=.ok (.ref e) m:=by
  simp only [bh,gx];exact ⟨rfl,rfl,rfl,rfl,rfl,rfl⟩
 obtain ⟨i0,i1,i2,i3,i4,i5⟩:=ix;rw [Jq,aY (bq (w:=.ref m.length) (m1:=m++.ins "Net" (eH ks rl lm af ps ts)::l) ?_)];rw [qP];simp only [au,ay,cU,aq,aJ,aO,aP,aQ,aS,ao,i0,i1,i2,i3,i4,i5];simp only [fR,Cn,pg,hi];have:aH (D.runN pg (n+1+1+1+1+1+1) 0) [.ref m.length,.ref a,.ref b,.ref c,.int af,.ref d,.ref e] (m++[O.ins "Net" []])=.ok .non (m++.ins "Net" (eH ks rl lm af ps ts)::l):=by rw [bx rfl,h1]
 simp only [pg] at this;rw [this];rfl
end
theorem toNat_eq {d:Int} (h:0<=d):((d.toNat:Nat):Int)=d:=by omega
theorem Lb:Draws (D.runN pg (n+1) 32):=by
 intro m p many hp h0 h1;obtain ⟨A,B,hm⟩:=hp;have hp:p < m.length:=(List.getElem?_eq_some_iff.mp hm).1;have hs:∀o:O,(m.set p o)[p]?=some o:=λ o=>by simp [hp]
 by_cases hA:0 < A
 ·refine ⟨A%many,m.set p (cW (A / many) B),?_,⟨_,_,rfl⟩,Int.emod_nonneg _ (by omega),Int.emod_lt_of_pos _ h0⟩;simp [D.runN,pg,K7,dQ,aK,bN,aT,ai,bg,fK,eE,aV,R.bind,aC,bh,cu,getL,hm,L2.nU,L2.qb,bu,oj,outF,hA,h0,h1]
 ·refine ⟨_,m.set p (cW A ((B*48271)%2147483647)),?_,⟨_,_,rfl⟩,Int.emod_nonneg (((B*48271)%2147483647)*((B*48271)%2147483647)%2147483629 / 7) (by omega:many≠0),Int.emod_lt_of_pos _ h0⟩;have g0:0<=(B*48271)%2147483647:=Int.emod_nonneg _ (by decide);have g1:(B*48271)%2147483647 < 2147483647:=Int.emod_lt_of_pos _ (by decide);have g2:gD B 48271=true:=by simp [gD]
  have g3:gD ((B*48271)%2147483647) ((B*48271)%2147483647)=true:=by simp [gD]; omega
  simp [D.runN,pg,K7,dQ,aK,bN,aT,ai,bg,fK,eE,aV,R.bind,aC,bh,cu,getL,hm,hs,L2.nU,L2.qb,bu,oj,outF,hA,h0,h1,binop,g2,g3]
theorem draw {many:Int} (hp:kC m p) (h0:0 < many) (h1:many < 1073741824):∃d:Nat,∃m',aH (D.runN pg (n+1) 32) [.ref p,.int many] m=.ok (.int d) m'/\PS p m m'/\(d:Int) < many:=by
 rw [bx rfl];obtain ⟨d,m',h,s,z0,z1⟩:=Lb hp h0 h1;exact ⟨d.toNat,m',by rw [toNat_eq z0]; exact h,s,by omega⟩
theorem Lc {k:Nat} (hk:k < 100):∃A B,aH (D.runN pg (n+1) 31) [.fz (ns.map .int),.int k] m=.ok (.ref m.length) (m++[cW A B]):=by
 have g:gD 7919 k=true:=by simp [gD]
 obtain ⟨A,B,hr⟩:∃A B,D.runN pg (n+1) 31 [.fz (ns.map .int),.int k] []=.ok (.ref 0) [cW A B]:=by
  by_cases h:k < ns.length
  ·have h':(k:Int) < ns.length:=by omega
   refine ⟨if ns[k] - 10^18>0 then ns[k] - 10^18 else 0,((if ns[k] < 0 then -ns[k] else ns[k])+7919*k+31)%2147483646+1,?_⟩;simp [D.runN,pg,K0,dQ,aK,bN,aT,ai,bg,fK,aV,R.bind,aC,bh,cu,getL,L2.nU,L2.qb,bu,binop,outF,h,h',g,new,lim]
  ·have h':¬(k:Int) < ns.length:=by omega
   refine ⟨0,(0+7919*k+31)%2147483646+1,?_⟩;simp [D.runN,pg,K0,dQ,aK,bN,aT,ai,bg,fK,aV,R.bind,aC,bh,cu,getL,L2.nU,L2.qb,bu,binop,outF,h,h',g,new,lim]
 exact ⟨A,B,(eW (m:=m) (by simp [ak,aD,dS]) hr rfl).trans rfl⟩
theorem B9:("abcdefghijklmnopqrstuvwxyz":Str).cps.toList=(List.range 26).map (97+·):=by decide +kernel
abbrev ab:W:=.str "abcdefghijklmnopqrstuvwxyz"
theorem Ld (h:d < 26) (m:Mem):bh ab (.int d) m=.ok (.str ⟨#[97+d]⟩) m:=by
 have hl:("abcdefghijklmnopqrstuvwxyz":Str).length<=lim:=by decide +kernel
 simp only [bh];rw [if_pos hl,B9,nc (i:=d) (by simpa using h)];simp
theorem Wd.small (h:Wd z):z.cps.all (· < 0x110000)=true:=by
 rw [Array.all_eq_true];intro i hi;have:=h.az z.cps[i] (by simp);simp;omega
noncomputable def ws (cs:List Nat):Str:=⟨cs.toArray⟩
theorem Ca {cs:List Nat} (h1:1<=cs.length) (h8:cs.length<=8) (ha:∀c∈cs,97<=c/\c<=122):Wd (ws cs):=⟨by simpa [ws] using h1,by simpa [ws] using h8,λ c hc=>ha c (by simpa [ws] using hc)⟩
theorem EN {cs:List Nat} (h:cs.length<=100):binop .Add (.str (ws cs)) (.str ⟨#[c]⟩) m=.ok (.str (ws (cs++[c]))) m:=by
 have e:(ws cs).length+(⟨#[c]⟩:Str).length<=lim:=by simp [iy,ws,lim]; omega
 simp only [binop];rw [if_pos e];congr 2;show Str.mk (cs.toArray++#[c])=_;simp [ws]
section
variable {C:D.Cx} {i:Nat} {js:List Nat} {it e:E} {ifs:Es} {ρ:D.Loc} {m:Mem} {xs:List W} {s:Src} {p:W->Bool} {g:W->W} {t:T} {B:W->D.Loc}
theorem EO (hm:Cm m) (hI:cz C it ρ m=.ok s m) (hg:∀j,s.get m j=Src.get (.tup xs) m j) (hn:s.len m=xs.length) (h0:∀x∈xs,aV t x (bY js ρ)=some (B x)) (h1:∀x∈xs,∀y∈xs,aV t y (B x)=some (B y)) (ht:∀x∈xs,bz C ifs (B x) m=.ok (p x) m)
  (he:∀x∈xs,p x=true->ai C e (B x) m=.ok (g x) m) (hp:∀x∈xs,p x=true->aD (g x)=true) (hl:xs.length<=lim):ai C (.frz (.comp (.gen t js it ifs (.elt e)))) ρ m=.ok (.fz ((xs.filter p).map g)) m:=by
 obtain ⟨ρ',hc⟩:=gm (C:=C) (get:=s.get) (t:=t) (ifs:=ifs) (e:=e) (ρ:=bY js ρ) (m:=m) (xs:=xs) (B:=B) (p:=p) (g:=g) (λ j hj=>by rw [hg,bf hj]) (by rw [hg]; exact aM (by omega)) h0 h1 ht he hl;refine bL (dZ (js:=js) (ifs:=ifs) (g:=.elt e) hI (by rw [hn]; exact hc)) rfl hm (bE.mpr λ x hx=>?_);obtain ⟨y,hy,rfl⟩:=List.mem_map.mp hx;obtain ⟨hy,hpy⟩:=List.mem_filter.mp hy;exact hp y hy hpy
theorem Cb (hm:Cm m) (hI:cz C it ρ m=.ok s m) (hg:∀j,s.get m j=Src.get (.tup xs) m j) (hn:s.len m=xs.length) (ht:∀x∈xs,bz C ifs ((bY js ρ).set i (some x)) m=.ok (p x) m)
  (he:∀x∈xs,p x=true->ai C e ((bY js ρ).set i (some x)) m=.ok (g x) m) (hp:∀x∈xs,p x=true->aD (g x)=true) (hl:xs.length<=lim):ai C (.frz (.comp (.gen (.var i) js it ifs (.elt e)))) ρ m=.ok (.fz ((xs.filter p).map g)) m:=
 EO hm hI hg hn (λ x _=>by simp only [aV]) (λ x _ y _=>by simp only [aV,set_set]) ht he hp hl
theorem eK (hm:Cm m) (hI:cz C it ρ m=.ok s m) (hg:∀j,s.get m j=Src.get (.tup xs) m j) (hn:s.len m=xs.length)
  (he:∀x∈xs,ai C e ((bY js ρ).set i (some x)) m=.ok (g x) m) (hp:∀x∈xs,aD (g x)=true) (hl:xs.length<=lim):ai C (.frz (.comp (.gen (.var i) js it .nil (.elt e)))) ρ m=.ok (.fz (xs.map g)) m:=by
 have:=Cb (C:=C) (i:=i) (js:=js) (it:=it) (ifs:=.nil) (e:=e) (ρ:=ρ) (p:=λ _=>true) (g:=g) hm hI hg hn (λ x _=>by simp only [bz]) (λ x hx _=>he x hx) (λ x hx _=>hp x hx) hl;rw [ir] at this;exact this
end
theorem ER:L2.asc ("abcdefghijklmnopqrstuvwxyz":Str)=true:=by decide +kernel
theorem fZ:signs ("abcdefghijklmnopqrstuvwxyz":Str)=(List.range 26).map λ d=>W.str ⟨#[97+d]⟩:=by
 unfold signs;rw [B9,map_map];rfl
theorem ES (cs:List Nat):Txt.slice (ws cs) none (some 7)=ws (cs.take 7):=by
 have:=L2.v7 (ws cs) 7;rw [show ((7:Nat):Int)=7 from rfl] at this;rw [this];simp [ws]
section
variable {C:D.Cx} {i p:Nat} {js:List Nat} {it e:E} {ρ:D.Loc} {m:Mem} {xs:List W} {s:Src} {Rr:W->W->Prop}
theorem sR (hp:kC m p) (hm:Cm m) (hI:cz C it ρ m=.ok s m) (hg:∀M j,s.get M j=Src.get (.tup xs) M j) (hn:s.len m=xs.length) (hl:xs.length<=lim)
  (he:∀x∈xs,∀m1,PS p m m1->∃w m2,ai C e ((bY js ρ).set i (some x)) m1=.ok w m2/\PS p m1 m2/\aD w=true/\Rr x w) :
  ∃ws m',ai C (.frz (.comp (.gen (.var i) js it .nil (.elt e)))) ρ m=.ok (.fz ws) m'/\PS p m m'/\ws.length=xs.length/\∀(j:Nat) (h:j < xs.length) (h':j < ws.length),Rr xs[j] ws[j]:=by
 obtain ⟨acc,ρ',m',e1,h1,h2,h3,h4,h5⟩:=dO (get:=s.get) (t:=.var i) (test:=fun ρ m=>bz C .nil ρ m) (body:=fun ρ m acc=>gE C (.elt e) ρ m acc) (n:=xs.length)
  (λ j ρ1 m1 acc=>(∀o,ρ1.set i o=(bY js ρ).set i o)/\PS p m m1/\acc.length=j/\(∀w∈acc,aD w=true)/\∀(k:Nat) (h:k < xs.length) (h':k < acc.length),Rr xs[k] acc[k]) (λ j ρ1 m1 acc hj=>by
   rintro ⟨h1,h2,h3,h4,h5⟩;obtain ⟨w,m2,e1,e2,e3,e4⟩:=he xs[j] (getElem_mem hj) m1 h2;refine ⟨xs[j],(bY js ρ).set i (some xs[j]),by rw [hg,bf hj],by simp only [aV,h1],.inl ⟨m1,acc++[w],(bY js ρ).set i (some xs[j]),m2,by simp only [bz],?_,λ o=>by simp,h2.trans e2,by simp [h3],λ y hy=>?_,λ k hk hk'=>?_⟩⟩
   ·have:acc.length < lim:=by omega
    simp only [gE,e1,R.bind,this,if_true]
   ·rcases List.mem_append.mp hy with hy | hy
    ·exact h4 y hy
    ·rw [mem_singleton] at hy; subst hy; exact e3
   ·by_cases hka:k < acc.length
    ·rw [getElem_append_left hka]; exact h5 k hk hka
    ·have hk2:k=acc.length:=by simp at hk'; omega
     subst hk2;rw [getElem_append_right (Nat.le_refl _)];simp only [h3,Nat.sub_self,getElem_cons_zero];exact e4) (fun ρ m acc _=>by rw [hg]; exact aM (by omega)) xs.length 0 (bY js ρ) m [] (by omega) ⟨λ _=>rfl,hp.refl,rfl,by simp,λ k h h'=>by simp at h'⟩
 refine ⟨acc,m',bL (m0:=m') (dZ (js:=js) (ifs:=.nil) (g:=.elt e) hI (by rw [hn]; exact e1)) h2.len (h2.cm hm) (bE.mpr h4),h2,h3,h5⟩
end
theorem jB (k:Nat) (M:Mem) (j:Nat):Src.get (.rng 0 k) M j=Src.get (.tup ((List.range k).map λ t=>W.int (t:Nat))) M j:=by
 by_cases h:j < k
 ·rw [fu h,bf (by simpa using h)]; simp
 ·rw [d7 h,aM (by simpa using h)]
section
variable {C:D.Cx} {i:Nat} {js:List Nat} {it e:E} {ρ:D.Loc} {m:Mem} {xs:List W} {s:Src}
theorem yp (I:Nat->Mem->List W->Prop) {m0:Mem} (hI:cz C it ρ m0=.ok s m) (hg:∀M j,I j M=I j M->s.get M j=Src.get (.tup xs) M j) (hn:s.len m=xs.length) (hl:xs.length<=lim) (h0:I 0 m [])
  (hs:∀(j:Nat) (h:j < xs.length) (M:Mem) (acc:List W),I j M acc->acc.length=j->∃w M2,ai C e ((bY js ρ).set i (some xs[j])) M=.ok w M2/\aD w=true/\I (j+1) M2 (acc++[w]))
  (hf:∀M acc,I xs.length M acc->M.length=m0.length/\Cm M) :
  ∃ws m',ai C (.frz (.comp (.gen (.var i) js it .nil (.elt e)))) ρ m0=.ok (.fz ws) m'/\I xs.length m' ws/\ws.length=xs.length:=by
 obtain ⟨acc,ρ',m',e1,h1,h2,h3,h4⟩:=dO (get:=s.get) (t:=.var i) (test:=fun ρ m=>bz C .nil ρ m) (body:=fun ρ m acc=>gE C (.elt e) ρ m acc) (n:=xs.length)
  (λ j ρ1 m1 acc=>(∀o,ρ1.set i o=(bY js ρ).set i o)/\I j m1 acc/\acc.length=j/\∀w∈acc,aD w=true) (λ j ρ1 m1 acc hj=>by
   rintro ⟨h1,h2,h3,h4⟩;obtain ⟨w,m2,e1,e3,e4⟩:=hs j hj m1 acc h2 h3;refine ⟨xs[j],(bY js ρ).set i (some xs[j]),by rw [hg m1 j rfl,bf hj],by simp only [aV,h1],.inl ⟨m1,acc++[w],(bY js ρ).set i (some xs[j]),m2,by simp only [bz],?_,λ o=>by simp,e4,by simp [h3],λ y hy=>?_⟩⟩
   ·have:acc.length < lim:=by omega
    simp only [gE,e1,R.bind,this,if_true]
   ·rcases List.mem_append.mp hy with hy | hy
    ·exact h4 y hy
    ·rw [mem_singleton] at hy; subst hy; exact e3) (fun ρ m acc _=>by rw [hg m _ rfl]; exact aM (by omega)) xs.length 0 (bY js ρ) m [] (by omega) ⟨λ _=>rfl,h0,rfl,by simp⟩
 obtain ⟨f1,f2⟩:=hf _ _ h2;exact ⟨acc,m',bL (m0:=m') (dZ (js:=js) (ifs:=.nil) (g:=.elt e) hI (by rw [hn]; exact e1)) f1 f2 (bE.mpr h4),h2,h3⟩
theorem yq (I:Nat->Mem->List W->Prop) {m0:Mem} (hI:cz C it ρ m0=.ok s m) (hg:∀M j,I j M=I j M->s.get M j=Src.get (.tup xs) M j) (hn:s.len m=xs.length) (hl:xs.length<=lim) (h0:I 0 m [])
  (hs:∀(j:Nat) (h:j < xs.length) (M:Mem) (acc:List W),I j M acc->acc.length=j->∃w M2,ai C e ((bY js ρ).set i (some xs[j])) M=.ok w M2/\aD w=true/\I (j+1) M2 (acc++[w])) :
  ∃ws m',ai C (.comp (.gen (.var i) js it .nil (.elt e))) ρ m0=.ok (.ref m'.length) (m'++[.lst ws])/\I xs.length m' ws/\ws.length=xs.length/\ak ws=true:=by
 obtain ⟨acc,ρ',m',e1,h1,h2,h3,h4⟩:=dO (get:=s.get) (t:=.var i) (test:=fun ρ m=>bz C .nil ρ m) (body:=fun ρ m acc=>gE C (.elt e) ρ m acc) (n:=xs.length)
  (λ j ρ1 m1 acc=>(∀o,ρ1.set i o=(bY js ρ).set i o)/\I j m1 acc/\acc.length=j/\∀w∈acc,aD w=true) (λ j ρ1 m1 acc hj=>by
   rintro ⟨h1,h2,h3,h4⟩;obtain ⟨w,m2,e1,e3,e4⟩:=hs j hj m1 acc h2 h3;refine ⟨xs[j],(bY js ρ).set i (some xs[j]),by rw [hg m1 j rfl,bf hj],by simp only [aV,h1],.inl ⟨m1,acc++[w],(bY js ρ).set i (some xs[j]),m2,by simp only [bz],?_,λ o=>by simp,e4,by simp [h3],λ y hy=>?_⟩⟩
   ·have:acc.length < lim:=by omega
    simp only [gE,e1,R.bind,this,if_true]
   ·rcases List.mem_append.mp hy with hy | hy
    ·exact h4 y hy
    ·rw [mem_singleton] at hy; subst hy; exact e3) (fun ρ m acc _=>by rw [hg m _ rfl]; exact aM (by omega)) xs.length 0 (bY js ρ) m [] (by omega) ⟨λ _=>rfl,h0,rfl,by simp⟩
 exact ⟨acc,m',dZ (js:=js) (ifs:=.nil) (g:=.elt e) hI (by rw [hn]; exact e1),h2,h3,bE.mpr h4⟩
end
theorem qU:∀{l:List α} {d:Nat} (h:d < l.length),(l[d]::l.eraseIdx d).Perm l:=by
 intro l
 induction l with
 | nil=>intro d h; simp at h
 | cons x r ih=>
  intro d h;cases d with
  | zero=>exact List.Perm.refl _
  | succ d=>
   have hd:d < r.length:=by simpa using h
   show (r[d]::x::r.eraseIdx d).Perm (x::r);exact (List.Perm.swap x r[d] _).trans ((ih hd).cons x)
theorem nq {β:Type} (f:α->β):∀(l:List α) (d:Nat),(l.map f).eraseIdx d=(l.eraseIdx d).map f:=by
 intro l
 induction l with
 | nil=>intro d; rfl
 | cons x r ih=>
  intro d;cases d with
  | zero=>rfl
  | succ d=>show f x::(r.map f).eraseIdx d=_; rw [ih]; rfl
structure HQ (p q L:Nat) (all:List Int) (Z M:Mem) (ns rest:List Int):Prop where
 fr:∀i,i≠p->i≠q->M[i]?=Z[i]?
 cW:kC M p
 cm:Cm M
 len:M.length=L
 at_:M[q]?=some (.lst (rest.map W.int))
 perm:(ns++rest).Perm all
theorem HQ.step {all:List Int} {rest:List Int} (h:HQ p q L all Z M ns rest) (hpq:p≠q) (hr:0 < rest.length) (hl:rest.length<=1000) (h0:ρ[0]?=some (some (.ref p))) (h3:ρ[3]?=some (some (.ref q))) :
  ∃a rest' M2,ai (Cn pg (n+1)) (.meth (.var 3) "pop" (.cons (.call 32 (.cons (.var 0) (.cons (.blt .len (.cons (.var 3) .nil)) .nil))) .nil)) ρ M=.ok (.int a) M2/\HQ p q L all Z M2 (ns++[a]) rest'/\rest'.length+1=rest.length:=by
 obtain ⟨d,m1,hd,s,d1⟩:=draw (n:=n) (many:=rest.length) h.cW (by omega) (by omega);have hq1:m1[q]?=some (.lst (rest.map W.int)):=(s.ne hpq).trans h.at_;have HR:q < m1.length:=(List.getElem?_eq_some_iff.mp hq1).1;have hdl:d < rest.length:=by omega
 have hk:kdOf M (.ref q)=iI "pop":=by simp only [kdOf,h.at_]; rfl
 have Le:br (.ref q) "pop" [.int d] m1=.ok (.int rest[d]) (m1.set q (.lst ((rest.eraseIdx d).map W.int))):=by
  have hb:-(2^63)<=(d:Int)/\(d:Int) < 2^63:=by omega
  have hs:seqIndex? (d:Int) (rest.map W.int).length=some d:=by
   unfold seqIndex?;simp only [length_map];rw [if_neg (by omega:¬(d:Int) < 0)];simp;omega
  have hg:(rest.map W.int)[d]?=some (.int rest[d]):=by simp [hdl]
  have hop:rN q (rest.map W.int) [.int d] m1=.ok (.int rest[d]) (m1.set q (.lst ((rest.eraseIdx d).map W.int))):=by
   simp only [rN];rw [if_pos hb];simp only [hs,hg,nq]
  simp only [br,hq1,dJ];rw [if_neg (by decide),if_neg (by decide),if_neg (by decide),if_pos trivial];exact hop
 obtain ⟨A,B,hA⟩:=s.cW h.cW;refine ⟨rest[d],rest.eraseIdx d,m1.set q (.lst ((rest.eraseIdx d).map W.int)),?_,⟨λ i h1 h2=>by rw [getElem?_set_ne h2.symm,s.ne h1.symm]; exact h.fr i h1 h2,⟨A,B,?_⟩,(s.cm h.cm).set (bA _ (dS _)),by rw [length_set,s.len,h.len],getElem?_set_self HR,?_⟩,by rw [length_eraseIdx_of_lt hdl]; omega⟩
 ·simp only [bI,h0,h3,hk,if_true,bu,cu,getL,h.at_,length_map,hd,Le]
 ·rw [getElem?_set_ne hpq.symm]; exact hA
 ·refine List.Perm.trans ?_ h.perm;rw [append_assoc];refine List.Perm.append_left ns ?_;exact qU hdl
theorem unlike {many:Nat} {es:Es} (hp:kC m p) (hm:Cm m) (h1:many<=af) (h2:af<=100) (he:bg (Cn pg (n+1+1)) es ρ m=.ok [.ref p,.int af,.int many] m) :
  ∃(ns:List Int) (m':Mem),ai (Cn pg (n+1+1)) (.frz (.call 34 es)) ρ m=.ok (tupI ns) m'/\PS p m m'/\ns.length=many/\ns.Nodup/\∀i∈ns,0<=i/\i < (af:Int):=by
 have hpl:=hp.lt;have hpq:p≠m.length:=by omega
 have Jx:((List.range af).map λ i=>W.int (i:Nat))=((List.range af).map λ i:Nat=>(i:Int)).map W.int:=by rw [map_map]; rfl
 have n0:HQ p m.length (m.length+1) ((List.range af).map λ i:Nat=>(i:Int)) (m++[.lst (((List.range af).map λ i:Nat=>(i:Int)).map W.int)]) (m++[.lst (((List.range af).map λ i:Nat=>(i:Int)).map W.int)]) [] ((List.range af).map λ i:Nat=>(i:Int)):=
  ⟨λ _ _ _=>rfl,hp.app,hm.push (o:=.lst (((List.range af).map λ i:Nat=>(i:Int)).map W.int)) (bA _ (dS _)),by simp,by simp,List.Perm.refl _⟩
 generalize hM:m++[O.lst (((List.range af).map λ i:Nat=>(i:Int)).map W.int)]=M0 at n0;have hI:cz (Cn pg (n+1)) (.rng (.var 2)) [some (.ref p),some (.int af),some (.int many),some (.ref m.length),none] M0=.ok (.rng 0 many) M0:=uM (by simp only [bI,aO,aP,aQ,aS]) (by omega);obtain ⟨ws,m2,e,⟨ns,rest,rfl,hr,hN⟩,hlen⟩:=yp (C:=Cn pg (n+1)) (i:=4) (js:=[4]) (it:=.rng (.var 2)) (e:=.meth (.var 3) "pop" (.cons (.call 32 (.cons (.var 0) (.cons (.blt .len (.cons (.var 3) .nil)) .nil))) .nil)) (ρ:=[some (.ref p),some (.int af),some (.int many),some (.ref m.length),none]) (m:=M0) (xs:=(List.range many).map λ t=>W.int (t:Nat))
  (λ j M' acc=>∃ns rest,acc=ns.map W.int/\rest.length+j=af/\HQ p m.length (m.length+1) ((List.range af).map λ i:Nat=>(i:Int)) M0 M' ns rest) hI (λ M j _=>jB many M j) (by simp [Src.len]) (by simp [lim]; omega) ⟨[],_,rfl,by simp,n0⟩ (λ j hj M' acc ⟨ns,rest,ha,hr,hN⟩ hac=>by
   have hj:j < many:=by simpa using hj
   obtain ⟨a,rest',M2,e,hN2,hl⟩:=hN.step (n:=n) hpq (by omega) (by omega) (ρ:=(bY [4] [some (.ref p),some (.int af),some (.int many),some (.ref m.length),none]).set 4 (some ((List.range many).map λ t=>W.int (t:Nat))[j])) (by simp only [bY,aO,aP,aQ,aS]) (by simp only [bY,aO,aP,aQ,aS]);exact ⟨.int a,M2,e,rfl,ns++[a],rest',by simp [ha],by omega,hN2⟩) (λ M' acc ⟨ns,rest,_,_,hN⟩=>⟨by rw [hN.len,n0.len],hN.cm⟩)
 have hall:((List.range af).map λ i:Nat=>(i:Int)).Nodup:=by
  rw [nodup_iff_pairwise_ne,pairwise_map];exact List.Pairwise.imp (λ {a b} hab e=>hab (Int.ofNat.inj e)) (List.nodup_iff_pairwise_ne.mp nodup_range)
 have hnd:ns.Nodup:=(List.nodup_append.mp (hN.perm.nodup_iff.mpr hall)).1;have MK:∀i∈ns,0<=i/\i < (af:Int):=λ i hi=>by
  obtain ⟨j,hj,rfl⟩:=List.mem_map.mp (hN.perm.mem_iff.mp (mem_append_left _ hi));have:=List.mem_range.mp hj;omega
 obtain ⟨A,B,hA⟩:=hN.cW;have hm2:m2=m.set p (cW A B)++[.lst (rest.map W.int)]:=by
  apply ext_getElem?;intro i
  by_cases hi:i < m.length
  ·rw [getElem?_append_left (by rw [length_set]; exact hi)]
   by_cases hip:i=p
   ·subst hip;rw [getElem?_set_self hi]; exact hA
   ·rw [getElem?_set_ne (λ z=>hip z.symm),hN.fr i hip (by omega),<-hM,getElem?_append_left hi]
  ·by_cases hi2:i=m.length
   ·subst hi2;rw [hN.at_,getElem?_append_right (by simp)];simp
   ·have h3:=hN.len;rw [getElem?_eq_none (by omega),getElem?_eq_none (by simp; omega)]
 have hps:PS p m (m.set p (cW A B)):=⟨A,B,rfl⟩;refine ⟨ns,m.set p (cW A B),?_,hps,by simpa using hlen,hnd,MK⟩;refine gO (m0:=m.set p (cW A B)) (w:=tupI ns) (l:=[.lst (rest.map W.int)]) ?_ (by simp) (hps.cm hm) (j4 _ (by simp [aD,dS]));rw [cV,he];simp only [ao];rw [bx rfl];refine bw (d:=⟨3,5,Jl⟩) rfl rfl ?_;show aK _ Jl [some (.ref p),some (.int af),some (.int many),none,none] m=_;rw [Jl,aj (ρ1:=[some (.ref p),some (.int af),some (.int many),some (.ref m.length),none]) (m1:=M0) (aI (w:=.ref m.length) ?_ rfl),aY (bq (w:=tupI ns) (m1:=m.set p (cW A B)++[.lst (rest.map W.int)]) ?_)]
 ·rw [cF,au,e];simp only [ao,ay,bu,cu,getL,hm2]
 ·simp only [bI,aO,aP,aQ,aS];rw [if_pos (by omega)];simp only [new,Int.toNat_natCast,Jx,hM]
theorem kg {a b:Int}:binop .Add (.int a) (.int b) m=.ok (.int (a+b)) m:=rfl
theorem Lf {a b:Int}:binop .Sub (.int a) (.int b) m=.ok (.int (a - b)) m:=rfl
theorem times (hp:kC m p):∃t m',aH (D.runN pg (n+1+1) 36) [.ref p] m=.ok (tupI t) m'/\PS p m m'/\gz t=true:=by
 obtain ⟨d1,m1,h1,s1,z1⟩:=draw (n:=n) (many:=4) hp (by decide) (by decide);obtain ⟨d2,m2,h2,s2,z2⟩:=draw (n:=n) (many:=4) (s1.cW hp) (by decide) (by decide);have s12:=s1.trans s2;obtain ⟨d3,m3,h3,s3,z3⟩:=draw (n:=n) (many:=5 - (1+(d1:Int))) (s12.cW hp) (by omega) (by omega);have LR:=s12.trans s3;obtain ⟨d4,m4,h4,s4,z4⟩:=draw (n:=n) (many:=5 - (1+(d2:Int))) (LR.cW hp) (by omega) (by omega);refine ⟨[1+d1,1+d1+d3,1+d2,1+d2+d4],m4,?_,LR.trans s4,by simp [gz]; omega⟩;rw [bx rfl];refine bw (d:=⟨1,3,Jm⟩) rfl rfl ?_;show aK _ Jm [some (.ref p),none,none] m=_;rw [Jm,aj (ρ1:=[some (.ref p),some (.int (1+d1)),some (.int (1+d2))]) (m1:=m2) ?_,aY (bq (w:=tupI [1+d1,1+d1+d3,1+d2,1+d2+d4]) (m1:=m4) ?_)]
 ·simp only [bI,aO,aP,aQ,aS,kg,Lf,h3,h4];rfl
 ·simp only [bN,bI,aO,aP,aQ,aS,kg,h1,h2];rfl
theorem HS (hz:∀z∈zs,Wd z):ql m (.fz (zs.map .str)) (.fz [])=.ok (decide (zs=[])) m:=by
 have h1:toD 60 m (.fz (zs.map .str))=some (.list (zs.map PyData.str)):=by
  rw [xY,gn (n:=58) (λ z h=>(hz z h).ok)]; rfl
 have h2:toD 60 m (.fz [])=some (.list []):=rfl;simp only [ql,h1,h2];cases zs with
 | nil=>rfl
 | cons z r=>rfl
theorem AU (h:xs.length+ys.length<=lim):binop .Add (.tup xs) (.tup ys) m=.ok (.tup (xs++ys)) m:=by simp only [binop]; rw [if_pos h]
theorem at2 (h:d < 4):∃w:Str,bh (.fz [.str "made",.str "broken"]) (.int ((d:Int)%2)) m=.ok (.str w) m/\(w="made"\/w="broken"):=by
 rcases (by omega:d=0\/d=1\/d=2\/d=3) with rfl | rfl | rfl | rfl
 ·exact ⟨_,rfl,.inl rfl⟩
 ·exact ⟨_,rfl,.inr rfl⟩
 ·exact ⟨_,rfl,.inl rfl⟩
 ·exact ⟨_,rfl,.inr rfl⟩
theorem yr (hm:Cm m):ai C (.frz (.lst (.cons (.cst (.str "made")) (.cons (.cst (.str "broken")) .nil)))) ρ m=.ok (.fz [.str "made",.str "broken"]) m:=by
 refine bL (m0:=m) ?_ rfl hm rfl;simp only [dU,au,ay,aJ,ao];rw [if_pos (by simp [lim])];rfl
theorem AV (hm:Cm m):ai C (.frz (.lst .nil)) ρ m=.ok (.fz []) m:=by
 refine bL (m0:=m) ?_ rfl hm rfl;simp only [dU,ay,ao];rw [if_pos (by simp [lim])];rfl
theorem piece (hp:kC m p) (hm:Cm m) (hz:∀z∈zs,Wd z) (hl:zs.length<=100) (n2:2<=af) (n1:af<=100) (rl lm:List Str) :
  ∃(pc:Pc) (m':Mem),aH (D.runN pg (n+1+1+1) 35) [.ref p,bM zs,.int af] m=.ok (bP pc) m'/\PS p m m'/\j9 zs rl lm af pc/\pc.1≠"coil"/\pc.1≠"lamp":=by
 obtain ⟨d,m1,h1,s1,z1⟩:=draw (n:=n+1) (many:=4) hp (by decide) (by decide);have c1:=s1.cm hm;have p1:=s1.cW hp;have hor:∀r,aT (Cn pg (n+1+1)) (.or (.cmp .Eq (.var 3) (.cst (.int 0))) (.cmp .Eq (.var 1) (.frz (.lst .nil)))) [some (.ref p),some (bM zs),some (.int af),some (.int d),r] m1=.ok (decide (d=0)||decide (zs=[])) m1:=λ r=>by
  simp only [j5,cg,aq,aJ,aO,aP,aQ,aS,ao,AV c1,aC,yg,HS hz]
  by_cases hd:d=0
  ·subst hd; rfl
  ·have:decide ((d:Int)=0)=false:=decide_eq_false (by omega);rw [this,decide_eq_false hd];rfl
 have go:∀{w m2},PS p m1 m2->aK (Cn pg (n+1+1)) (match HJ with | .cons _ r=>r | r=>r) [some (.ref p),some (bM zs),some (.int af),some (.int d),none] m1=.ok (.rt w) m2->aH (D.runN pg (n+1+1+1) 35) [.ref p,bM zs,.int af] m=.ok w m2/\PS p m m2:=λ {w m2} hs he=>by
  refine ⟨?_,s1.trans hs⟩;rw [bx rfl];refine bw (d:=⟨3,5,HJ⟩) rfl rfl ?_;show aK _ HJ [some (.ref p),some (bM zs),some (.int af),none,none] m=_;rw [HJ,aj (ρ1:=[some (.ref p),some (bM zs),some (.int af),some (.int d),none]) (m1:=m1) (aI (w:=.int d) (by simp only [bI,aO,aP,aQ,aS,h1]) rfl)];exact he
 by_cases h0:d=0\/zs=[]
 ·obtain ⟨ns,m2,e,s2,l2,nd,rg⟩:=unlike (n:=n) (m:=m1) (af:=af) (many:=2) (ρ:=[some (.ref p),some (bM zs),some (.int af),some (.int d),none]) (es:=.cons (.var 0) (.cons (.var 2) (.cons (.cst (.int 2)) .nil))) p1 c1 n2 n1 (by simp only [au,ay,aq,aJ,aO,aP,aQ,aS,ao]; rfl);have hc:(decide (d=0)||decide (zs=[]))=true:=by simpa using h0
  refine ⟨("wire",[],ns),m2,(go s2 ?_).1,s1.trans s2,⟨.inl ⟨rfl,rfl,l2⟩,nd,rg⟩,(by decide +kernel:("wire":Str)≠"coil"),(by decide +kernel:("wire":Str)≠"lamp")⟩;show aK _ (.cons (.ife _ _ _) _) _ _=_;refine aY ?_;rw [uL (by rw [hor,hc])];refine aY (bq (w:=bP ("wire",[],ns)) (m1:=m2) ?_);simp only [eX,lM,au,ay,aJ,ao];rw [if_pos (by simp [lim])];simp only [ao];rw [e];simp only [ao];rw [AU (by simp [lim]; omega)];rfl
 ·have hc:(decide (d=0)||decide (zs=[]))=false:=by simpa using h0
  have HP:0 < zs.length:=by
   rcases zs with _ | ⟨z,r⟩
   ·exact absurd (.inr rfl) h0
   ·simp
  obtain ⟨k,m2,h2,s2,z2⟩:=draw (n:=n+1) (many:=zs.length) p1 (by omega) (by omega);have c2:=s2.cm c1;have p2:=s2.cW p1;have hk:k < zs.length:=by omega
  have hlen:∀M,bu .len [bM zs] M=.ok (.int zs.length) M:=λ M=>by
   have:=fX (m:=M) (w:=bM zs) (xs:=zs.map .str) rfl;rw [length_map] at this;exact this
  have hix:∀M,bh (bM zs) (.int k) M=.ok (.str zs[k]) M:=λ M=>by
   have:=eG (m:=M) (w:=bM zs) (xs:=zs.map .str) (i:=k) rfl (by simpa using hk);rw [getElem_map] at this;exact this
  have hin:zs[k]∈zs:=getElem_mem hk;have hn:ai (Cn pg (n+1+1)) (.idx (.var 1) (.call 32 (.cons (.var 0) (.cons (.blt .len (.cons (.var 1) .nil)) .nil)))) [some (.ref p),some (bM zs),some (.int af),some (.int d),none] m1=.ok (.str zs[k]) m2:=by
   simp only [bI,aO,aP,aQ,aS,hlen,h2,hix]
  by_cases h3:d=3/\2 < af
  ·obtain ⟨ns,m3,e,s3,l3,nd,rg⟩:=unlike (n:=n) (m:=m2) (af:=af) (many:=3) (ρ:=[some (.ref p),some (bM zs),some (.int af),some (.int d),some (.str zs[k])]) (es:=.cons (.var 0) (.cons (.var 2) (.cons (.cst (.int 3)) .nil))) p2 c2 (by omega) n1 (by simp only [au,ay,aq,aJ,aO,aP,aQ,aS,ao]; rfl);have hT:aT (Cn pg (n+1+1)) (.and (.cmp .Eq (.var 3) (.cst (.int 3))) (.cmp .Gt (.var 2) (.cst (.int 2)))) [some (.ref p),some (bM zs),some (.int af),some (.int d),some (.str zs[k])] m2=.ok true m2:=by
    have h4:decide ((af:Int)>2)=true:=decide_eq_true (by omega);simp only [oW,cg,aq,aJ,aO,aP,aQ,aS,ao,aC,h3.1,yg,h4];rfl
   refine ⟨("swap",[zs[k]],ns),m3,(go (s2.trans s3) ?_).1,s1.trans (s2.trans s3),⟨.inr ⟨zs[k],3,rfl,.swap,l3,by rw [if_neg (by decide +kernel:¬("swap":Str)="coil"),if_neg (by decide +kernel:¬("swap":Str)="lamp")]; exact hin⟩,nd,rg⟩,(by decide +kernel:("swap":Str)≠"coil"),(by decide +kernel:("swap":Str)≠"lamp")⟩;show aK _ (.cons (.ife _ _ _) (.cons (.asg _ _) (.cons (.ife _ _ _) _))) _ _=_;rw [aj (by rw [dF (by rw [hor,hc]),aA]),aj (ρ1:=[some (.ref p),some (bM zs),some (.int af),some (.int d),some (.str zs[k])]) (aI hn rfl)];refine aY ?_;rw [uL hT];refine aY (bq (w:=bP ("swap",[zs[k]],ns)) (m1:=m3) ?_);simp only [eX,lM,au,ay,aJ,aq,aO,aP,aQ,aS,ao];rw [if_pos (by simp [lim])];simp only [ao];rw [e];simp only [ao];rw [AU (by simp [lim]; omega)];rfl
  ·obtain ⟨ns,m3,e,s3,l3,nd,rg⟩:=unlike (n:=n) (m:=m2) (af:=af) (many:=2) (ρ:=[some (.ref p),some (bM zs),some (.int af),some (.int d),some (.str zs[k])]) (es:=.cons (.var 0) (.cons (.var 2) (.cons (.cst (.int 2)) .nil))) p2 c2 n2 n1 (by simp only [au,ay,aq,aJ,aO,aP,aQ,aS,ao]; rfl);have hT:aT (Cn pg (n+1+1)) (.and (.cmp .Eq (.var 3) (.cst (.int 3))) (.cmp .Gt (.var 2) (.cst (.int 2)))) [some (.ref p),some (bM zs),some (.int af),some (.int d),some (.str zs[k])] m2=.ok false m2:=by
    simp only [oW,cg,aq,aJ,aO,aP,aQ,aS,ao,aC,yg]
    by_cases h4:d=3
    ·have h5:decide ((af:Int)>2)=false:=decide_eq_false (by omega);rw [h5,decide_eq_true (by omega:(d:Int)=3)];rfl
    ·rw [decide_eq_false (by omega:¬(d:Int)=3)];rfl
   obtain ⟨w,hw,Jz⟩:=at2 (d:=d) (m:=m2) (by omega);have hkd:Kd w 2:=by rcases Jz with rfl | rfl<;>constructor
   have ET:w≠"coil"/\w≠"lamp":=by rcases Jz with rfl | rfl<;>decide +kernel
   have hmd:binop .Mod (.int d) (.int 2) m2=.ok (.int ((d:Int)%2)) m2:=rfl;refine ⟨(w,[zs[k]],ns),m3,(go (s2.trans s3) ?_).1,s1.trans (s2.trans s3),⟨.inr ⟨zs[k],2,rfl,hkd,l3,by rw [if_neg ET.1,if_neg ET.2]; exact hin⟩,nd,rg⟩,ET.1,ET.2⟩;show aK _ (.cons (.ife _ _ _) (.cons (.asg _ _) (.cons (.ife _ _ _) (.cons (.ret _) .nil)))) _ _=_;rw [aj (by rw [dF (by rw [hor,hc]),aA]),aj (ρ1:=[some (.ref p),some (bM zs),some (.int af),some (.int d),some (.str zs[k])]) (aI hn rfl),aj (by rw [dF hT,aA]),aY (bq (w:=bP (w,[zs[k]],ns)) (m1:=m3) ?_)];simp only [eX,lM,au,ay,aJ,aq,cU,aO,aP,aQ,aS,ao];rw [yr c2];simp only [ao,hmd,hw];rw [if_pos (by simp [lim])];simp only [ao];rw [e];simp only [ao];rw [AU (by simp [lim]; omega)];rfl
theorem uV {cs:List Nat} {o3 o5 o6:Option W} (hm:Cm m) (hq:m[q]?=some (.lst (tk.map .str))) (hw:∀z∈tk,Wd z) (hl:tk.length<=20) (h1:1<=cs.length) (h8:cs.length<=8) (ha:∀c∈cs,97<=c/\c<=122) :
  ∃z,ai (Cn pg n) (.idx (.frz (.comp (.gen (.var 7) [7] (.var 2) (.cons (.cmp .NotIn (.bin .Add (.slc (.var 4) .none (.some (.cst (.int 7)))) (.var 7)) (.var 1)) .nil) (.elt (.bin .Add (.slc (.var 4) .none (.some (.cst (.int 7)))) (.var 7)))))) (.cst (.int 0)))
    [some (.ref p),some (.ref q),some ab,o3,some (.str (ws cs)),o5,o6,none] m=.ok (.str z) m/\Wd z/\z∉tk:=by
 let cand:List Str:=(List.range 26).map λ d=>ws (cs.take 7++[97+d])
 have hcd:∀z∈cand,Wd z:=λ z hz=>by
  obtain ⟨d,hd,rfl⟩:=List.mem_map.mp hz;have hd:=List.mem_range.mp hd;refine Ca (by simp) (by simp; omega) λ c hc=>?_;rcases List.mem_append.mp hc with hc | hc
  ·exact ha c (mem_of_mem_take hc)
  ·rw [mem_singleton] at hc; omega
 have hnd:cand.Nodup:=by
  show ((List.range 26).map λ d=>ws (cs.take 7++[97+d])).Nodup;rw [nodup_iff_pairwise_ne,pairwise_map];refine List.Pairwise.imp (λ {a b} hab e=>hab ?_) (List.nodup_iff_pairwise_ne.mp nodup_range);have:=congrArg (λ z:Str=>z.cps.toList) e;simp [ws] at this;exact this
 have hI:cz (Cn pg n) (.var 2) [some (.ref p),some (.ref q),some ab,o3,some (.str (ws cs)),o5,o6,none] m=.ok (.tup (signs ("abcdefghijklmnopqrstuvwxyz":Str))) m:=by
  rw [eY]; simp only [aq,aO,aP,aQ,aS,ao]; simp [fE,qq,ER]
 have hlim:(ws cs).length<=lim:=by simp [iy,ws,lim]; omega
 have hb:∀d o,ai (Cn pg n) (.bin .Add (.slc (.var 4) .none (.some (.cst (.int 7)))) (.var 7)) [some (.ref p),some (.ref q),some ab,o3,some (.str (ws cs)),o5,o6,some (.str ⟨#[97+d]⟩)] o=.ok (.str (ws (cs.take 7++[97+d]))) o:=λ d o=>by
  have e3:=EN (cs:=cs.take 7) (c:=97+d) (m:=o) (by simp; omega);simp only [bI,aO,aP,aQ,aS,cK];rw [if_pos hlim];simp only [ao,ES,e3]
 have e2:ai (Cn pg n) (.frz (.comp (.gen (.var 7) [7] (.var 2) (.cons (.cmp .NotIn (.bin .Add (.slc (.var 4) .none (.some (.cst (.int 7)))) (.var 7)) (.var 1)) .nil) (.elt (.bin .Add (.slc (.var 4) .none (.some (.cst (.int 7)))) (.var 7)))))) [some (.ref p),some (.ref q),some ab,o3,some (.str (ws cs)),o5,o6,none] m=.ok (.fz ((cand.filter λ z=>!decide (z∈tk)).map .str)) m:=by
  have:=Cb (C:=Cn pg n) (i:=7) (js:=[7]) (it:=.var 2) (ifs:=.cons (.cmp .NotIn (.bin .Add (.slc (.var 4) .none (.some (.cst (.int 7)))) (.var 7)) (.var 1)) .nil) (e:=.bin .Add (.slc (.var 4) .none (.some (.cst (.int 7)))) (.var 7)) (ρ:=[some (.ref p),some (.ref q),some ab,o3,some (.str (ws cs)),o5,o6,none]) (m:=m) (xs:=signs ("abcdefghijklmnopqrstuvwxyz":Str)) (s:=.tup (signs ("abcdefghijklmnopqrstuvwxyz":Str)))
   (p:=λ x=>match x with | .str z=>!decide ((⟨(cs.take 7).toArray++z.cps⟩:Str)∈tk) | _=>false) (g:=λ x=>match x with | .str z=>.str ⟨(cs.take 7).toArray++z.cps⟩ | _=>.non) hm hI (λ j=>rfl) rfl (λ x hx=>by
    rw [fZ] at hx;obtain ⟨d,hd,rfl⟩:=List.mem_map.mp hx;have:=j7 (m:=m) (hcd (ws (cs.take 7++[97+d])) (List.mem_map.mpr ⟨d,hd,rfl⟩)).small λ z hz=>(hw z hz).small;simp only [bY,bz,cg,aO,aP,aQ,aS,hb,ao,aq,aC,oi,hq,this];rw [show ws (cs.take 7++[97+d])=⟨(cs.take 7).toArray++#[97+d]⟩ by simp [ws]];cases decide ((⟨(cs.take 7).toArray++#[97+d]⟩:Str)∈tk)<;>rfl) (λ x hx _=>by
    rw [fZ] at hx;obtain ⟨d,hd,rfl⟩:=List.mem_map.mp hx;simp only [bY,aO,aP,aQ,aS,hb];simp [ws]) (λ x hx _=>by
    rw [fZ] at hx;obtain ⟨d,hd,rfl⟩:=List.mem_map.mp hx;rfl) (by rw [fZ]; simp [lim])
  rw [this];congr 2;rw [fZ];simp only [cand,filter_map,map_map];have e1:((λ x:W=>match x with | .str z=>!decide ((⟨(cs.take 7).toArray++z.cps⟩:Str)∈tk) | _=>false)∘λ d=>W.str ⟨#[97+d]⟩)=((λ z=>!decide (z∈tk))∘λ d=>ws (cs.take 7++[97+d])):=by
   funext d;simp [ws]
  rw [e1];refine map_congr_left λ d _=>?_;simp [ws]
 have hne:cand.filter (λ z=>!decide (z∈tk))≠[]:=λ he=>by
  rw [filter_eq_nil_iff] at he;have:=lN (k:=tk) hnd λ x hx=>by simpa using he x hx
  simp [cand] at this;omega
 obtain ⟨z,r,hz⟩:=exists_cons_of_ne_nil hne;have Fq:z∈cand.filter λ z=>!decide (z∈tk):=by rw [hz]; exact mem_cons_self
 obtain ⟨hz1,hz2⟩:=List.mem_filter.mp Fq;refine ⟨z,?_,hcd z hz1,by simpa using hz2⟩;rw [hz] at e2;rw [cU,e2];simp only [ao,aJ,bh,cu,getL];simp [L2.nU,L2.qb]
theorem HU (cs:List Nat):dI (cs.map λ c=>W.str ⟨#[c]⟩)=some (cs.map λ c=>⟨#[c]⟩):=by
 induction cs with
 | nil=>rfl
 | cons c r ih=>simp [dI,ih]
theorem HV {cs:List Nat} (h:cs.length<=100):br (.str "") "join" [.fz (cs.map λ c=>W.str ⟨#[c]⟩)] m=.ok (.str (ws cs)) m:=by
 have g2:((cs.map λ c=>(⟨#[c]⟩:Str)).map (·.length)).sum+(cs.map λ c=>(⟨#[c]⟩:Str)).length*("":Str).length<=16777216:=by
  have h0:("":Str).length=0:=rfl;have:∀l:List Nat,((l.map λ c=>(⟨#[c]⟩:Str)).map (·.length)).sum=l.length:=λ l=>by
   induction l with
   | nil=>rfl
   | cons a r ih=>simp [iy] at ih ⊢; omega
  rw [this,h0];omega
 have g3:Txt.join "" (cs.map λ c=>(⟨#[c]⟩:Str))=ws cs:=by
  have:=L2.v8 (cs.map λ c=>(⟨#[c]⟩:Str));have h2:((cs.map λ c=>(⟨#[c]⟩:Str)).map λ y=>y.cps.toList).flatten=cs:=by
   have:∀l:List Nat,((l.map λ c=>(⟨#[c]⟩:Str)).map λ y=>y.cps.toList).flatten=l:=λ l=>by
    induction l with
    | nil=>rfl
    | cons a r ih=>simp only [map_cons,flatten_cons,ih]; rfl
   exact this _
  rw [h2] at this;show Txt.join ⟨#[]⟩ _=_;generalize Txt.join ⟨#[]⟩ (cs.map λ c=>(⟨#[c]⟩:Str))=z at this;obtain ⟨a⟩:=z;simp only at this;rw [ws,<-this]
 simp only [br,i9,if_true,jQ,getL,HU];rw [if_pos g2,g3]
noncomputable def nv:List Str:=["keys","relay","lamps","nodes","wire","made","broken","swap","coil","lamp"]
theorem EU:∀z∈nv,Wd z:=by
 have:(nv.all λ z=>decide (1<=z.cps.size)&&decide (z.cps.size<=8)&&z.cps.toList.all λ c=>decide (97<=c)&&decide (c<=122))=true:=by decide +kernel
 intro z hz;have:=List.all_eq_true.mp this z hz;simp only [Bool.and_eq_true,decide_eq_true_eq] at this;refine ⟨this.1.1,this.1.2,λ c hc=>?_⟩;have:=List.all_eq_true.mp this.2 c hc;simpa using this
theorem AW (hm:Cm m):ai C (.frz (.lst (.cons (.cst (.str "keys")) (.cons (.cst (.str "relay")) (.cons (.cst (.str "lamps")) (.cons (.cst (.str "nodes")) (.cons (.cst (.str "wire")) (.cons (.cst (.str "made")) (.cons (.cst (.str "broken")) (.cons (.cst (.str "swap")) (.cons (.cst (.str "coil")) (.cons (.cst (.str "lamp")) .nil)))))))))))) ρ m=.ok (.fz (nv.map .str)) m:=by
 refine bL (m0:=m) ?_ rfl hm rfl;simp only [dU,au,ay,aJ,ao];rw [if_pos (by simp [lim])];rfl
theorem HW (h:Wd z):∃cs,z=ws cs/\1<=cs.length/\cs.length<=8/\∀c∈cs,97<=c/\c<=122:=
 ⟨z.cps.toList,by obtain ⟨a⟩:=z; simp [ws],by simpa using h.lo,by simpa using h.hi,h.az⟩
theorem AX {k:Nat} {q d:W} (hp:kC m p) (hm:Cm m) (hk:k<=100):∃(cs:List Nat) (m':Mem),ai (Cn pg (n+1)) (.frz (.comp (.gen (.var 6) [6] (.rng (.var 5)) .nil (.elt (.idx (.var 2) (.call 32 (.cons (.var 0) (.cons (.cst (.int 26)) .nil)))))))) [some (.ref p),some q,some ab,some d,none,some (.int k),none,none] m=.ok (.fz (cs.map λ c=>W.str ⟨#[c]⟩)) m'/\PS p m m'/\cs.length=k/\∀c∈cs,97<=c/\c<=122:=by
 obtain ⟨ws,m',e,s,hl,hr⟩:=sR (C:=Cn pg (n+1)) (i:=6) (js:=[6]) (it:=.rng (.var 5)) (e:=.idx (.var 2) (.call 32 (.cons (.var 0) (.cons (.cst (.int 26)) .nil)))) (ρ:=[some (.ref p),some q,some ab,some d,none,some (.int k),none,none]) (xs:=(List.range k).map λ t=>W.int (t:Nat)) (Rr:=λ _ w=>∃c:Nat,w=.str ⟨#[c]⟩/\97<=c/\c<=122) hp hm (uM (by simp only [bI,aO,aP,aQ,aS]) (by omega)) (λ M j=>jB k M j) (by simp [Src.len]) (by simp [lim]; omega) (λ x _ m1 s1=>by
   obtain ⟨d,m2,h1,s2,z1⟩:=draw (n:=n) (many:=26) (s1.cW hp) (by decide) (by decide);refine ⟨.str ⟨#[97+d]⟩,m2,?_,s2,rfl,97+d,rfl,by omega,by omega⟩;simp only [bY,bI,aO,aP,aQ,aS,h1];exact Ld (by omega) m2)
 have hl:ws.length=k:=by simpa using hl
 have hall:∀w∈ws,∃c:Nat,w=.str ⟨#[c]⟩/\97<=c/\c<=122:=λ w hw=>by
  obtain ⟨j,hj,rfl⟩:=List.mem_iff_getElem.mp hw;exact hr j (by simp; omega) hj
 have:∀l:List W,(∀w∈l,∃c:Nat,w=.str ⟨#[c]⟩/\97<=c/\c<=122)->∃cs:List Nat,l=(cs.map λ c=>W.str ⟨#[c]⟩)/\∀c∈cs,97<=c/\c<=122:=λ l=>by
  induction l with
  | nil=>intro _; exact ⟨[],rfl,by simp⟩
  | cons x r ih=>
   intro h;obtain ⟨c,rfl,hc⟩:=h x mem_cons_self;obtain ⟨cs,rfl,hcs⟩:=ih λ w hw=>h w (mem_cons_of_mem _ hw);exact ⟨c::cs,rfl,λ y hy=>by
    rcases List.mem_cons.mp hy with rfl | hy
    ·exact hc
    ·exact hcs y hy⟩
 obtain ⟨cs,rfl,hcs⟩:=this ws hall;exact ⟨cs,m',e,s,by simpa using hl,hcs⟩
theorem word (hp:kC m p) (hm:Cm m) (hpq:p≠q) (hq:m[q]?=some (.lst (tk.map .str))) (hw:∀z∈tk,Wd z) (hl:tk.length<=20) :
  ∃z m1,aH (D.runN pg (n+1+1) 33) [.ref p,.ref q] m=.ok (.str z) (m1.set q (.lst ((tk++[z]).map .str)))/\PS p m m1/\Wd z/\z∉tk:=by
 obtain ⟨d,m1,hd,s1,d1⟩:=draw (n:=n) (many:=8) hp (by decide) (by decide);have c1:=s1.cm hm;have p1:=s1.cW hp;obtain ⟨cs,o5,m2,hS,s2,h1,h8,haz⟩:∃cs o5 m2,bN (Cn pg (n+1)) (match Fj with | .cons _ (.cons _ (.cons s _))=>s | _=>.expr (.cst .non)) [some (.ref p),some (.ref q),some ab,some (.int d),none,none,none,none] m1=.ok (.nx [some (.ref p),some (.ref q),some ab,some (.int d),some (.str (ws cs)),o5,none,none]) m2/\PS p m1 m2/\1<=cs.length/\cs.length<=8/\∀c∈cs,97<=c/\c<=122:=by
  have hT:aT (Cn pg (n+1)) (.cmp .Eq (.var 3) (.cst (.int 7))) [some (.ref p),some (.ref q),some ab,some (.int d),none,none,none,none] m1=.ok (decide (d=7)) m1:=by
   simp only [cg,aq,aJ,aO,aP,aQ,aS,ao,aC,yg];congr 1;exact decide_eq_decide.mpr (by omega)
  by_cases h7:d=7
  ·rw [decide_eq_true h7] at hT;obtain ⟨k,m2,h2,s2,z2⟩:=draw (n:=n) (many:=10) p1 (by decide) (by decide);have hk:k < nv.length:=by show k < 10; omega
   obtain ⟨cs,e,h1,h8,haz⟩:=HW (EU nv[k] (getElem_mem hk));refine ⟨cs,none,m2,?_,s2,h1,h8,haz⟩;show bN _ (.ife (.cmp .Eq (.var 3) (.cst (.int 7))) (.cons (.asg _ _) .nil) _) _ _=_;rw [uL hT,aj (ρ1:=[some (.ref p),some (.ref q),some ab,some (.int d),some (.str (ws cs)),none,none,none]) (m1:=m2) (aI (w:=.str (ws cs)) ?_ rfl),aA];have hix:bh (.fz (nv.map .str)) (.int k) m2=.ok (.str nv[k]) m2:=by
    have:=eG (m:=m2) (w:=.fz (nv.map .str)) (xs:=nv.map .str) (i:=k) rfl (by simpa using hk);rw [getElem_map] at this;exact this
   rw [cU,AW c1];simp only [bI,aO,aP,aQ,aS,h2,hix,e]
  ·rw [decide_eq_false h7] at hT;obtain ⟨k,m2,h2,s2,z2⟩:=draw (n:=n) (many:=8) p1 (by decide) (by decide);have IK:1+d%2*k<=8:=by
    rcases (by omega:d%2=0\/d%2=1) with h | h<;>rw [h]<;>omega
   obtain ⟨cs,m3,e,s3,hlen,haz⟩:=AX (n:=n) (p:=p) (k:=1+d%2*k) (q:=.ref q) (d:=.int d) (s2.cW p1) (s2.cm c1) (by omega);refine ⟨cs,some (.int (1+d%2*k:Nat)),m3,?_,s2.trans s3,by omega,by omega,haz⟩;show bN _ (.ife (.cmp .Eq (.var 3) (.cst (.int 7))) _ (.cons (.asg _ _) (.cons (.asg _ _) .nil))) _ _=_;have hmod:∀M,binop .Mod (.int d) (.int 2) M=.ok (.int ((d:Int)%2)) M:=λ M=>rfl;have hmul:binop .Mult (.int ((d:Int)%2)) (.int k) m2=.ok (.int ((d:Int)%2*k)) m2:=by
    have:gD ((d:Int)%2) k=true:=by simp [gD]; omega
    simp only [binop];rw [if_pos this]
   rw [dF hT,aj (ρ1:=[some (.ref p),some (.ref q),some ab,some (.int d),none,some (.int (1+d%2*k:Nat)),none,none]) (m1:=m2) (aI (w:=.int (1+d%2*k:Nat)) ?_ rfl),aj (ρ1:=[some (.ref p),some (.ref q),some ab,some (.int d),some (.str (ws cs)),some (.int (1+d%2*k:Nat)),none,none]) (m1:=m3) (aI (w:=.str (ws cs)) ?_ rfl),aA]
   ·have hk:kdOf m2 (.str "")=iI "join":=rfl;rw [dH,aJ];simp only [ao];rw [if_pos hk,au,e];simp only [ao,ay];exact HV (by omega)
   ·simp only [bI,aO,aP,aQ,aS,hmod,h2,hmul,kg];simp
 have s12:=s1.trans s2;have hq2:m2[q]?=some (.lst (tk.map .str)):=(s12.ne hpq).trans hq;have ET:=Ca (cs:=cs) h1 h8 haz;have hT:aT (Cn pg (n+1)) (.cmp .In (.var 4) (.var 1)) [some (.ref p),some (.ref q),some ab,some (.int d),some (.str (ws cs)),o5,none,none] m2=.ok (decide (ws cs∈tk)) m2:=by
  have:=j7 (m:=m2) ET.small λ z hz=>(hw z hz).small;simp only [bI,sG,K9,aO,aP,aQ,aS,aC,oi,hq2,this]
 have fin:∀(z:Str),Wd z->z∉tk->bN (Cn pg (n+1)) (match Fj with | .cons _ (.cons _ (.cons _ (.cons s _)))=>s | _=>.expr (.cst .non)) [some (.ref p),some (.ref q),some ab,some (.int d),some (.str (ws cs)),o5,none,none] m2=.ok (.nx [some (.ref p),some (.ref q),some ab,some (.int d),some (.str z),o5,none,none]) m2->
   ∃z m1,aH (D.runN pg (n+1+1) 33) [.ref p,.ref q] m=.ok (.str z) (m1.set q (.lst ((tk++[z]).map .str)))/\PS p m m1/\Wd z/\z∉tk:=λ z hz hnz hS2=>by
  refine ⟨z,m2,?_,s12,hz,hnz⟩;rw [bx rfl];refine bw (d:=⟨2,8,Fj⟩) rfl rfl ?_;show aK _ Fj [some (.ref p),some (.ref q),none,none,none,none,none,none] m=_;have hap:br (.ref q) "append" [.str z] m2=.ok .non (m2.set q (.lst ((tk++[z]).map .str))):=by
   have hlt:(tk.map W.str).length < lim:=by simp [lim]; omega
   simp only [br,hq2,dJ,gY];simp only [hlt,if_true,map_append,map_cons,map_nil]
  have hk:kdOf m2 (.ref q)=iI "append":=by simp only [kdOf,hq2]; rfl
  rw [Fj,aj (ρ1:=[some (.ref p),some (.ref q),some ab,none,none,none,none,none]) (aI (w:=ab) (m1:=m) (by simp only [bI]) rfl),aj (ρ1:=[some (.ref p),some (.ref q),some ab,some (.int d),none,none,none,none]) (aI (w:=.int d) (m1:=m1) (by simp only [bI,aO,aP,aQ,aS,hd]) rfl)];refine (aj hS).trans ((aj hS2).trans ?_);rw [aj (bX (w:=.non) (m1:=m2.set q (.lst ((tk++[z]).map .str))) (by simp only [bI,aO,aP,aQ,aS,hk,if_true,hap])),aY (bq (w:=.str z) (m1:=m2.set q (.lst ((tk++[z]).map .str))) (by simp only [bI,aO,aP,aQ,aS]))]
 by_cases hin:ws cs∈tk
 ·rw [decide_eq_true hin] at hT;obtain ⟨z,he,hz,hnz⟩:=uV (n:=n+1) (p:=p) (o3:=some (.int d)) (o5:=o5) (o6:=none) (s12.cm hm) hq2 hw hl h1 h8 haz;refine fin z hz hnz ?_;show bN _ (.ife (.cmp .In (.var 4) (.var 1)) (.cons (.asg _ _) .nil) .nil) _ _=_;rw [uL hT,aj (aI he rfl),aA];rfl
 ·rw [decide_eq_false hin] at hT;refine fin (ws cs) ET hin ?_;show bN _ (.ife (.cmp .In (.var 4) (.var 1)) (.cons (.asg _ _) .nil) .nil) _ _=_;rw [dF hT,aA]
structure yX (p q L:Nat) (Z M:Mem) (tk:List Str):Prop where
 fr:∀i,i≠p->i≠q->M[i]?=Z[i]?
 cW:kC M p
 cm:Cm M
 len:M.length=L
 at_:M[q]?=some (.lst (tk.map .str))
 wd:∀z∈tk,Wd z
 nd:tk.Nodup
theorem yX.ps {M2:Mem} (h:yX p q L Z M tk) (hpq:p≠q) (s:PS p M M2):yX p q L Z M2 tk:=
 ⟨λ i h1 h2=>(s.ne h1.symm).trans (h.fr i h1 h2),s.cW h.cW,s.cm h.cm,s.len.trans h.len,(s.ne hpq).trans h.at_,h.wd,h.nd⟩
theorem yX.step (h:yX p q L Z M tk) (hpq:p≠q) (hl:tk.length<=20):∃z M2,aH (D.runN pg (n+1+1) 33) [.ref p,.ref q] M=.ok (.str z) M2/\yX p q L Z M2 (tk++[z]):=by
 obtain ⟨z,m1,e,s,hz,hnz⟩:=word (n:=n) h.cW h.cm hpq h.at_ h.wd hl;have HR:q < m1.length:=by rw [s.len]; exact (List.getElem?_eq_some_iff.mp h.at_).1
 refine ⟨z,_,e,λ i h1 h2=>?_,?_,(s.cm h.cm).set (bA _ (aX _)),by rw [length_set,s.len,h.len],getElem?_set_self HR,λ y hy=>?_,?_⟩
 ·rw [getElem?_set_ne h2.symm,s.ne h1.symm]; exact h.fr i h1 h2
 ·obtain ⟨A,B,hA⟩:=s.cW h.cW;exact ⟨A,B,by rw [getElem?_set_ne hpq.symm]; exact hA⟩
 ·rcases List.mem_append.mp hy with hy | hy
  ·exact h.wd y hy
  ·rw [mem_singleton] at hy; subst hy; exact hz
 ·refine List.nodup_append.mpr ⟨h.nd,by simp,λ a ha b hb=>?_⟩;rw [mem_singleton] at hb;subst hb;rintro rfl;exact hnz ha
theorem words {K:Nat} {o1 o3 o4 o5 o6 o7:Option W} (h:yX p q L Z M tk) (hpq:p≠q) (hl:tk.length+K<=20) (hK:0 < K) :
  ∃(zs:List Str) (M2:Mem),ai (Cn pg (n+1+1)) (.frz (.comp (.gen (.var 9) [9] (.rng (.call 32 (.cons (.var 0) (.cons (.cst (.int K)) .nil)))) .nil (.elt (.call 33 (.cons (.var 0) (.cons (.var 2) .nil))))))) [some (.ref p),o1,some (.ref q),o3,o4,o5,o6,o7,o8,none] M=.ok (bM zs) M2/\yX p q L Z M2 (tk++zs)/\zs.length < K:=by
 obtain ⟨d,m1,hd,s1,d1⟩:=draw (n:=n+1) (many:=K) h.cW (by omega) (by omega);have h1:=h.ps hpq s1;obtain ⟨ws,M2,e,⟨zs,hz,hW⟩,hlen⟩:=yp (C:=Cn pg (n+1+1)) (i:=9) (js:=[9]) (it:=.rng (.call 32 (.cons (.var 0) (.cons (.cst (.int K)) .nil)))) (e:=.call 33 (.cons (.var 0) (.cons (.var 2) .nil))) (ρ:=[some (.ref p),o1,some (.ref q),o3,o4,o5,o6,o7,o8,none]) (m:=m1) (m0:=M) (xs:=(List.range d).map λ t=>W.int (t:Nat))
  (λ j M' acc=>∃zs:List Str,acc=zs.map .str/\yX p q L Z M' (tk++zs)) (uM (by simp only [bI,aO,aP,aQ,aS,hd]) (by omega)) (λ M j _=>jB d M j) (by simp [Src.len]) (by simp [lim]; omega) ⟨[],rfl,by rw [append_nil]; exact h1⟩ (λ j hj M' acc ⟨zs,ha,hW⟩ hac=>by
   have hj:j < d:=by simpa using hj
   have HP:zs.length=j:=by rw [<-hac,ha,length_map]
   obtain ⟨z,M2,e,hW2⟩:=hW.step (n:=n) hpq (by rw [length_append]; omega);exact ⟨.str z,M2,by simp only [bY,bI,aO,aP,aQ,aS,e],rfl,zs++[z],by simp [ha],by rw [<-append_assoc]; exact hW2⟩) (λ M' acc ⟨zs,_,hW⟩=>⟨by rw [hW.len,h.len],hW.cm⟩)
 subst hz;exact ⟨zs,M2,e,hW,by simp at hlen; omega⟩
theorem sS (w:Str) (pc:Pc) (ps:List Pc) (d:Nat):(jr w (ps.take d++[pc]++ps.drop d)).Perm ((if pc.1=w then pc.2.1 else [])++jr w ps):=by
 have h1:(ps.take d++[pc]++ps.drop d).Perm (pc::ps):=by
  refine (List.Perm.append_right _ perm_append_comm).trans ?_;rw [append_assoc,take_append_drop];exact List.Perm.refl _
 have h2:=(h1.filter λ p=>decide (p.1=w)).flatMap_right (·.2.1);refine h2.trans ?_;unfold jr
 by_cases h:pc.1=w
 ·rw [filter_cons,if_pos (decide_eq_true h),if_pos h]; exact List.Perm.refl _
 ·rw [filter_cons,if_neg (by simpa using h),if_neg h]; exact List.Perm.refl _
structure EV (p q L:Nat) (Z M:Mem) (sw rl lm:List Str) (af:Nat) (ps:List Pc):Prop where
 fr:∀i,i≠p->i≠q->M[i]?=Z[i]?
 cW:kC M p
 cm:Cm M
 len:M.length=L
 at_:M[q]?=some (.lst (ps.map bP))
 ok:∀pc∈ps,j9 sw rl lm af pc
theorem EV.step {ps:List Pc} (h:EV p q L Z M sw rl lm af ps) (hpq:p≠q) (hl:ps.length<=100) (n2:2<=af) (n1:af<=100) (w z:Str) (hw:(w="coil"/\z∈rl)\/(w="lamp"/\z∈lm)) (h0:ρ[0]?=some (some (.ref p))) (h6:ρ[6]?=some (some (.int af))) (h7:ρ[7]?=some (some (.ref q))) (h8:ρ[8]?=some (some (.str z))) :
  ∃pc d M2,bN (Cn pg (n+1+1)) (.expr (.meth (.var 7) "insert" (.cons (.call 32 (.cons (.var 0) (.cons (.bin .Add (.blt .len (.cons (.var 7) .nil)) (.cst (.int 1))) .nil))) (.cons (.bin .Add (.tup (.cons (.cst (.str w)) (.cons (.var 8) .nil))) (.frz (.call 34 (.cons (.var 0) (.cons (.var 6) (.cons (.cst (.int 2)) .nil)))))) .nil)))) ρ M=.ok (.nx ρ) M2/\EV p q L Z M2 sw rl lm af (ps.take d++[pc]++ps.drop d)/\pc.1=w/\pc.2.1=[z]:=by
 obtain ⟨d,m1,hd,s1,d1⟩:=draw (n:=n+1) (many:=((ps.map bP).length:Int)+1) h.cW (by omega) (by simp; omega);have c1:=s1.cm h.cm;have p1:=s1.cW h.cW;obtain ⟨ns,m2,e,s2,l2,nd,rg⟩:=unlike (n:=n) (m:=m1) (af:=af) (many:=2) (ρ:=ρ) (es:=.cons (.var 0) (.cons (.var 6) (.cons (.cst (.int 2)) .nil))) p1 c1 n2 n1 (by simp only [au,ay,aq,aJ,h0,h6,ao]; rfl);have s12:=s1.trans s2;have hq2:m2[q]?=some (.lst (ps.map bP)):=(s12.ne hpq).trans h.at_;have HR:q < m2.length:=(List.getElem?_eq_some_iff.mp hq2).1;have hk:kdOf M (.ref q)=iI "insert":=by simp only [kdOf,h.at_]; rfl
 have hdl:d<=ps.length:=by rw [length_map] at d1; omega
 have Lg:br (.ref q) "insert" [.int d,bP (w,[z],ns)] m2=.ok .non (m2.set q (.lst ((ps.take d++[(w,[z],ns)]++ps.drop d).map bP))):=by
  have hop:gZ q (ps.map bP) [.int d,bP (w,[z],ns)] m2=.ok .non (m2.set q (.lst ((ps.take d++[(w,[z],ns)]++ps.drop d).map bP))):=by
   simp only [gZ];rw [if_pos ⟨by omega,by rw [length_map]; omega,by rw [length_map]; simp only [lim]; omega⟩];simp
  simp only [br,hq2,dJ];rw [if_neg (by decide),if_neg (by decide),if_neg (by decide),if_neg (by decide),if_neg (by decide),if_pos trivial];exact hop
 have hkd:Kd w 2:=by rcases hw with ⟨rfl,_⟩ | ⟨rfl,_⟩<;>constructor
 obtain ⟨A,B,hA⟩:=s12.cW h.cW;refine ⟨(w,[z],ns),d,m2.set q (.lst ((ps.take d++[(w,[z],ns)]++ps.drop d).map bP)),bX (w:=.non) ?_,⟨λ i h1 h2=>by rw [getElem?_set_ne h2.symm,s12.ne h1.symm]; exact h.fr i h1 h2,⟨A,B,by rw [getElem?_set_ne hpq.symm]; exact hA⟩,(s12.cm h.cm).set (bA _ (bR _)),by rw [length_set,s12.len,h.len],getElem?_set_self HR,λ pc jA=>?_⟩,rfl,rfl⟩
 ·rw [dH,aq];simp only [h7,ao];rw [if_pos hk];simp only [bI,h0,h7,h8,bu,cu,getL,h.at_,kg,hd];rw [if_pos (by simp [lim])];simp only [ao];rw [e];simp only [ao];rw [AU (by simp [lim]; omega)];simp only [ao];exact Lg
 ·rcases List.mem_append.mp jA with jA | jA
  ·rcases List.mem_append.mp jA with jA | jA
   ·exact h.ok pc (mem_of_mem_take jA)
   ·rw [mem_singleton] at jA;subst jA;refine ⟨.inr ⟨z,2,rfl,hkd,l2,?_⟩,nd,rg⟩;rcases hw with ⟨rfl,hz⟩ | ⟨rfl,hz⟩
    ·rw [if_pos rfl]; exact hz
    ·rw [if_neg (by decide +kernel:¬("lamp":Str)="coil"),if_pos rfl]; exact hz
  ·exact h.ok pc (mem_of_mem_drop jA)
def Sg (z:Str):Prop:=∀c∈z.cps.toList,c < 0x110000
theorem Sg.all (h:Sg z):z.cps.all (· < 0x110000)=true:=by
 rw [Array.all_eq_true];intro i hi;have:=h z.cps[i] (by simp);simpa using this
theorem Sg.of (h:z.cps.all (· < 0x110000)=true):Sg z:=λ c hc=>by
 rw [Array.all_eq_true] at h;obtain ⟨i,hi,rfl⟩:=List.mem_iff_getElem.mp hc;have:=h i (by simpa using hi);simpa using this
theorem Sg.app {a b:Str} (ha:Sg a) (hb:Sg b):Sg (a++b):=λ c hc=>by
 have:c∈(a.cps++b.cps).toList:=hc;rw [Array.toList_append] at this;rcases List.mem_append.mp this with h | h
 ·exact ha c h
 ·exact hb c h
theorem EW:∀{ts:List Str} {k:Nat} {a:Str},Sg a->(∀t∈ts,Sg t)->Sg (textFrom k a ts):=by
 intro ts
 induction ts with
 | nil=>intro k a ha _; rw [textFrom.eq_1]; exact ha
 | cons t r ih=>
  intro k a ha h;rw [textFrom.eq_2];refine ih ((ha.app ?_).app (h t mem_cons_self)) λ x hx=>h x (mem_cons_of_mem _ hx);split
  ·exact .of (by decide +kernel)
  ·exact .of (by decide +kernel)
theorem EX (hs:Sg s):∀{ts:List Str},(∀t∈ts,Sg t)->Sg (s.join ts):=by
 intro ts
 induction ts with
 | nil=>intro _; rw [Str.join.eq_1]; exact .of (by decide +kernel)
 | cons t r ih=>
  intro h;cases r with
  | nil=>rw [Str.join.eq_2]; exact h t mem_cons_self
  | cons u r=>
   rw [Str.join.eq_3 _ _ _ (by simp)];exact ((h t mem_cons_self).app hs).app (ih λ x hx=>h x (mem_cons_of_mem _ hx))
structure iU (c d:Nat) (x:PyData):Prop where
 lay:x.canLay0=true
 dp:x.depth<=d
 wt:x.weight<=c
 is:x.intsShort 13=true
 sh:x.showable=true
 nd:x.hasDict=false
 sg:Sg x.shown
theorem iU.mono {c' d':Nat} {x:PyData} (h:iU c d x) (hc:c<=c') (hd:d<=d'):iU c' d' x:=⟨h.lay,by have:=h.dp; omega,by have:=h.wt; omega,h.is,h.sh,h.nd,h.sg⟩
theorem Cd:∀{xs:List PyData},(∀x∈xs,iU c d x)->PyData.canLayAll0 xs=true/\PyData.depthAll xs<=d/\PyData.weightAll xs<=xs.length*(c+1)/\PyData.intsShortAll 13 xs=true/\PyData.showableAll xs=true/\PyData.hasDictAll xs=false/\∀t∈PyData.shownAll xs,Sg t:=by
 intro xs
 induction xs with
 | nil=>
  intro _;exact ⟨rfl,Nat.zero_le _,by simp [PyData.weightAll],rfl,rfl,rfl,by simp [PyData.shownAll]⟩
 | cons x r ih=>
  intro h;obtain ⟨h1,h2,h3,h4,h5,h6,h7⟩:=ih λ y hy=>h y (mem_cons_of_mem _ hy);have hx:=h x mem_cons_self;refine ⟨?_,?_,?_,?_,?_,?_,?_⟩
  ·rw [PyData.canLayAll0,hx.lay,h1]; rfl
  ·rw [PyData.depthAll]; exact Nat.max_le.mpr ⟨hx.dp,h2⟩
  ·rw [PyData.weightAll,length_cons,Nat.succ_mul]; have:=hx.wt; omega
  ·rw [PyData.intsShortAll,hx.is,h4]; rfl
  ·rw [PyData.showableAll,hx.sh,h5]; rfl
  ·rw [PyData.hasDictAll,hx.nd,h6]; rfl
  ·intro t ht;rw [PyData.shownAll] at ht;rcases List.mem_cons.mp ht with rfl | ht
   ·exact hx.sg
   ·exact h7 t ht
theorem iU.list {xs:List PyData} (h:∀x∈xs,iU c d x) (hn:xs.length<=n):iU (n*(c+1)) (d+1) (.list xs):=by
 obtain ⟨h1,h2,h3,h4,h5,h6,h7⟩:=Cd h;refine ⟨by rw [PyData.canLay0]; exact h1,by rw [PyData.depth]; omega,?_,by rw [PyData.intsShort]; exact h4,by rw [PyData.showable]; exact h5,by rw [PyData.hasDict]; exact h6,?_⟩
 ·rw [PyData.weight]; exact Nat.le_trans h3 (Nat.mul_le_mul_right _ hn)
 ·rw [PyData.shown,listText];exact (EW (.of (by decide +kernel)) h7).app (.of (by decide +kernel))
theorem iU.tuple {xs:List PyData} (h:∀x∈xs,iU c d x) (hn:xs.length<=n):iU (n*(c+1)) (d+1) (.tuple xs):=by
 obtain ⟨h1,h2,h3,h4,h5,h6,h7⟩:=Cd h;refine ⟨by rw [PyData.canLay0]; exact h1,by rw [PyData.depth]; omega,?_,by rw [PyData.intsShort]; exact h4,by rw [PyData.showable]; exact h5,by rw [PyData.hasDict]; exact h6,?_⟩
 ·rw [PyData.weight]; exact Nat.le_trans h3 (Nat.mul_le_mul_right _ hn)
 ·rw [PyData.shown,tupleText];refine ((Sg.of (by decide +kernel)).app (EX (.of (by decide +kernel)) h7)).app ?_;split
  ·exact .of (by decide +kernel)
  ·exact .of (by decide +kernel)
theorem yt {i:Int} (h0:0<=i) (h1:i<=640):iU 20 0 (.int i):=by
 have hn:i.natAbs<=640:=by omega
 refine ⟨rfl,Nat.zero_le _,?_,?_,?_,rfl,?_⟩
 ·rw [PyData.weight];split
  ·omega
  ·have:i.natAbs.log2 < 12:=(Nat.log2_lt (by rename_i h; intro e; apply h; simp; omega)).mpr (by omega);omega
 ·rw [PyData.intsShort];exact decide_eq_true (PyData.shown_int_le (by omega))
 ·rw [PyData.showable]
  by_cases h:i.natAbs=0
  ·rw [h]; decide +kernel
  ·exact decide_eq_true ((Nat.log2_lt h).mpr (Nat.lt_of_lt_of_le (by omega:i.natAbs < 2^12) (Nat.pow_le_pow_right (by decide) (by decide))))
 ·have:((List.range 641).all λ k=>(PyData.int (k:Nat)).shown.cps.all (· < 0x110000))=true:=by decide +kernel
  have:=List.all_eq_true.mp this i.natAbs (List.mem_range.mpr (by omega));rw [show ((i.natAbs:Nat):Int)=i by omega] at this;exact .of this
theorem yu (h:Wd z):iU 20 0 (.str z):=by
 refine ⟨?_,Nat.zero_le _,?_,rfl,rfl,rfl,?_⟩
 ·rw [PyData.canLay0]; exact h.ok
 ·rw [PyData.weight]; have:=h.hi; omega
 ·rw [PyData.shown,reprText];have hq:reprQuote z < 0x110000:=by unfold reprQuote; split<;>decide
  have hc:∀c∈z.cps.toList,∀e∈Builtin.Str.reprChar (reprQuote z) c,e < 0x110000:=λ c hc=>by
   have hc:=h.az c hc;have hq2:reprQuote z=34\/reprQuote z=39:=by unfold reprQuote; split<;>simp
   have ha:([34,39].all λ q=>(List.range 123).all λ c=>(Builtin.Str.reprChar q c).all (· < 0x110000))=true:=by decide +kernel
   intro e he;have:=List.all_eq_true.mp (List.all_eq_true.mp (List.all_eq_true.mp ha (reprQuote z) (by rcases hq2 with h | h<;>rw [h]<;>simp)) c (List.mem_range.mpr (by omega))) e he;simpa using this
  intro c qS;simp only [Array.toList_push] at qS;rcases List.mem_append.mp qS with qS | qS
  ·have g:∀(l:List Nat) (a:Array Nat),(∀x∈a.toList,x < 0x110000)->(∀c∈l,∀e∈Builtin.Str.reprChar (reprQuote z) c,e < 0x110000)->∀x∈(l.foldl (λ out c=>out++(Builtin.Str.reprChar (reprQuote z) c).toArray) a).toList,x < 0x110000:=by
    intro l
    induction l with
    | nil=>intro a ha _; exact ha
    | cons y r ih=>
     intro a ha hl;refine ih _ (λ x hx=>?_) λ c hc=>hl c (mem_cons_of_mem _ hc);rw [Array.toList_append] at hx;rcases List.mem_append.mp hx with hx | hx
     ·exact ha x hx
     ·exact hl y mem_cons_self x (by simpa using hx)
   rw [<-Array.foldl_toList] at qS;exact g _ _ (by simpa using hq) hc c qS
  ·rw [mem_singleton] at qS;omega
theorem iU.Ff {xs:List PyData} (h:iU c d (.list xs)) (hc:c<=2^20) (hd:d<=60):Ff (.list xs)=true:=by
 have h1:=h.dp;have h2:=h.wt;unfold D.Ff;rw [PyData.layable0,h.lay,h.is,h.sh,h.nd,decide_eq_true (by omega:(PyData.list xs).depth<=64),decide_eq_true (by omega:(PyData.list xs).depth<=60),decide_eq_true (by omega:(PyData.list xs).weight<=2^20)];rfl
theorem lO {l:List Str} (h:l.Nodup) (hz:z∈l):l.count z=1:=by
 induction l with
 | nil=>cases hz
 | cons x r ih=>
  rw [nodup_cons] at h;rcases List.mem_cons.mp hz with rfl | hz
  ·rw [count_cons_self,List.count_eq_zero.mpr h.1]
  ·rw [count_cons_of_ne (λ e=>h.1 (by rw [e]; exact hz)),ih h.2 hz]
theorem sU {w:Str} {ps:List Pc} (h:∀pc∈ps,pc.1≠w):jr w ps=[]:=by
 unfold jr;rw [List.filter_eq_nil_iff.mpr λ pc jA=>by simpa using h pc jA];rfl
abbrev JA (ks rl lm:List Str) (af:Nat) (r:W) (ts:List (List Int)):List W:=[bM ks,bM rl,bM lm,.int af,r,.fz (ts.map tupI)]
section
variable {n p q L:Nat} {Z M:Mem} {sw rl lm:List Str} {af:Nat} {ps:List Pc} {ks:List Str} {o2 o9:Option W}
abbrev u9 (p:Nat) (o2:Option W) (ks rl lm:List Str) (af q:Nat) (o8 o9:Option W):D.Loc:=[some (.ref p),some (.int 18),o2,some (bM ks),some (bM rl),some (bM lm),some (.int af),some (.ref q),o8,o9]
theorem pG (h:EV p q L Z M sw rl lm af ps) (hpq:p≠q) (hl:ps.length<=50) (n2:2<=af) (n1:af<=100) {w w':Str} (Jz:w≠w') (hw:(w="coil"/\zs=rl)\/(w="lamp"/\zs=lm)) (HP:zs.length<=10) {b:Ss}
  (hb:b=.cons (.expr (.meth (.var 7) "insert" (.cons (.call 32 (.cons (.var 0) (.cons (.bin .Add (.blt .len (.cons (.var 7) .nil)) (.cst (.int 1))) .nil))) (.cons (.bin .Add (.tup (.cons (.cst (.str w)) (.cons (.var 8) .nil))) (.frz (.call 34 (.cons (.var 0) (.cons (.var 6) (.cons (.cst (.int 2)) .nil)))))) .nil)))) .nil)
  (hI:cz (Cn pg (n+1+1)) it (u9 p o2 ks rl lm af q o8 o9) M=.ok (.tup (zs.map .str)) M) (hf:jr w ps=[]) :
  ∃ps2 M2 o8',bN (Cn pg (n+1+1)) (.for_ (.var 8) it b) (u9 p o2 ks rl lm af q o8 o9) M=.ok (.nx (u9 p o2 ks rl lm af q o8' o9)) M2/\EV p q L Z M2 sw rl lm af ps2/\ps2.length<=ps.length+10/\(jr w ps2).Perm zs/\(jr w' ps2).Perm (jr w' ps):=by
 obtain ⟨ρ',M2,hf,o8',ps2,rfl,hP,hl2,hw2,hw2'⟩:=cJ (C:=Cn pg (n+1+1)) (t:=.var 8) (b:=b) hI (n:=zs.length) (by simp [Src.len])
  (λ i ρ M'=>∃o8' ps2,ρ=u9 p o2 ks rl lm af q o8' o9/\EV p q L Z M' sw rl lm af ps2/\ps2.length<=ps.length+i/\(jr w ps2).Perm (zs.take i)/\(jr w' ps2).Perm (jr w' ps)) ⟨o8,ps,rfl,h,Nat.le_refl _,by rw [hf]; exact List.Perm.refl _,List.Perm.refl _⟩ (λ i ρ M' hi=>by
   rintro ⟨o8',ps2,rfl,hP,hl2,hw2,hw2'⟩;have hin:(w="coil"/\zs[i]∈rl)\/(w="lamp"/\zs[i]∈lm):=by
    rcases hw with ⟨e,e2⟩ | ⟨e,e2⟩
    ·subst e2; exact .inl ⟨e,getElem_mem hi⟩
    ·subst e2; exact .inr ⟨e,getElem_mem hi⟩
   obtain ⟨pc,d,M2,e,hP2,h1,h2⟩:=hP.step (n:=n) hpq (by omega) n2 n1 w zs[i] hin (ρ:=u9 p o2 ks rl lm af q (some (.str zs[i])) o9) rfl rfl rfl rfl;refine ⟨.str zs[i],u9 p o2 ks rl lm af q (some (.str zs[i])) o9,u9 p o2 ks rl lm af q (some (.str zs[i])) o9,M2,?_,rfl,.inl ?_,_,_,rfl,hP2,?_,?_,?_⟩
   ·rw [bf (by simpa using hi),getElem_map]
   ·rw [hb,aj e,aA]
   ·simp only [length_append,length_take,length_drop,length_singleton]; omega
   ·refine (sS w pc ps2 d).trans ?_;rw [if_pos h1,h2,take_add_one,getElem?_eq_getElem hi];exact (perm_append_comm).trans (List.Perm.append_right _ hw2)
   ·refine (sS w' pc ps2 d).trans ?_;rw [if_neg (by rw [h1]; exact Jz)];exact hw2') (fun ρ M' _=>aM (by simp))
 rw [take_length] at hw2;exact ⟨ps2,M2,o8',hf,hP,by omega,hw2,hw2'⟩
theorem ML (hp:kC m p) (hm:Cm m) (hl:rl.length<=100):∃(ts:List (List Int)) (m':Mem),ai (Cn pg (n+1+1)) (.frz (.comp (.gen (.var 8) [8] (.var 4) .nil (.elt (.call 36 (.cons (.var 0) .nil)))))) (u9 p o2 ks rl lm af q o8 o9) m=.ok (.fz (ts.map tupI)) m'/\PS p m m'/\ts.length=rl.length/\∀t∈ts,gz t=true:=by
 obtain ⟨ws,m',e,s,hl,hr⟩:=sR (C:=Cn pg (n+1+1)) (i:=8) (js:=[8]) (it:=.var 4) (s:=.tup (rl.map .str)) (e:=.call 36 (.cons (.var 0) .nil)) (ρ:=u9 p o2 ks rl lm af q o8 o9) (xs:=rl.map .str) (Rr:=λ _ w=>∃t,w=tupI t/\gz t=true) hp hm (by rw [eY]; simp only [aq,aO,aP,aQ,aS,ao]; rfl) (λ M j=>rfl) rfl (by simp [lim]; omega) (λ x _ m1 s1=>by
   obtain ⟨t,m2,h1,s2,ht⟩:=times (n:=n) (s1.cW hp);refine ⟨tupI t,m2,?_,s2,by simp [aD,dS],t,rfl,ht⟩;simp only [bY,bI,aO,aP,aQ,aS,h1])
 have hl:ws.length=rl.length:=by simpa using hl
 have hall:∀w∈ws,∃t,w=tupI t/\gz t=true:=λ w hw=>by
  obtain ⟨j,hj,rfl⟩:=List.mem_iff_getElem.mp hw;exact hr j (by simp; omega) hj
 have:∀l:List W,(∀w∈l,∃t,w=tupI t/\gz t=true)->∃ts:List (List Int),l=ts.map tupI/\∀t∈ts,gz t=true:=λ l=>by
  induction l with
  | nil=>intro _; exact ⟨[],rfl,by simp⟩
  | cons x r ih=>
   intro h;obtain ⟨c,rfl,hc⟩:=h x mem_cons_self;obtain ⟨cs,rfl,hcs⟩:=ih λ w hw=>h w (mem_cons_of_mem _ hw);exact ⟨c::cs,rfl,λ y hy=>by
    rcases List.mem_cons.mp hy with rfl | hy
    ·exact hc
    ·exact hcs y hy⟩
 obtain ⟨ts,rfl,hts⟩:=this ws hall;exact ⟨ts,m',e,s,by simpa using hl,hts⟩
end
theorem Lh (hp:kC m p) (hm:Cm m):∃(ks rl lm:List Str) (af:Nat) (ps:List Pc) (ts:List (List Int)) (m':Mem),aH (D.runN pg (n+1+1+1+1) 37) [.ref p,.int 18] m=.ok (.ref (m.length+2)) (m'++[.lst ((ks++rl++lm).map .str),.lst (ps.map bP),.lst (JA ks rl lm af (.ref (m.length+1)) ts)])/\PS p m m'/\bH ks rl lm af ps ts:=by
 have hpl:=hp.lt;have hpq:p≠m.length:=by omega
 have HX:p≠m.length+1:=by omega
 have w0:yX p m.length (m.length+1) (m++[.lst []]) (m++[.lst []]) []:=⟨λ _ _ _=>rfl,hp.app,hm.push rfl,by simp,by simp,by simp,by simp⟩;obtain ⟨ks,M1,e1,w1,k1⟩:=words (n:=n+1) (K:=3) (o1:=some (.int 18)) (o3:=none) (o4:=none) (o5:=none) (o6:=none) (o7:=none) (o8:=none) w0 hpq (by simp) (by decide);rw [nil_append] at w1;obtain ⟨rl,M2,e2,w2,k2⟩:=words (n:=n+1) (K:=5) (o1:=some (.int 18)) (o3:=some (bM ks)) (o4:=none) (o5:=none) (o6:=none) (o7:=none) (o8:=none) w1 hpq (by omega) (by decide);obtain ⟨lm,M3,e3,w3,k3⟩:=words (n:=n+1) (K:=3) (o1:=some (.int 18)) (o3:=some (bM ks)) (o4:=some (bM rl)) (o5:=none) (o6:=none) (o7:=none) (o8:=none) w2 hpq (by rw [length_append]; omega) (by decide);obtain ⟨d,M4,h4,s4,z4⟩:=draw (n:=n+1+1) (many:=11) w3.cW (by decide) (by decide);have w4:=w3.ps hpq s4;obtain ⟨k,M5,h5,s5,z5⟩:=draw (n:=n+1+1) (many:=19) w4.cW (by decide) (by decide);have w5:=w4.ps hpq s5;have MM:∀z∈ks++rl,Wd z:=λ z hz=>w3.wd z (mem_append_left _ hz);obtain ⟨acc,M6,e6,⟨ps,ha,s6,hps⟩,hac,LS⟩:=yq (C:=Cn pg (n+1+1+1)) (i:=9) (js:=[9]) (it:=.rng (.call 32 (.cons (.var 0) (.cons (.bin .Add (.var 1) (.cst (.int 1))) .nil)))) (e:=.call 35 (.cons (.var 0) (.cons (.frz (.bin .Add (.var 3) (.var 4))) (.cons (.var 6) .nil)))) (ρ:=[some (.ref p),some (.int 18),some (.ref m.length),some (bM ks),some (bM rl),some (bM lm),some (.int (2+d:Nat)),none,none,none]) (m:=M5) (m0:=M4) (xs:=(List.range k).map λ t=>W.int (t:Nat))
  (λ j M' acc=>∃ps:List Pc,acc=ps.map bP/\PS p M5 M'/\∀pc∈ps,j9 (ks++rl) rl lm (2+d) pc/\pc.1≠"coil"/\pc.1≠"lamp") (uM (by simp only [bI,aO,aP,aQ,aS,kg]; exact h5) (by omega)) (λ M j _=>jB k M j) (by simp [Src.len]) (by simp [lim]; omega) ⟨[],rfl,w5.cW.refl,by simp⟩ (λ j hj M' acc ⟨ps,ha,s,hps⟩ hac=>by
   obtain ⟨pc,M2,e,s2,ok,n1,n2⟩:=piece (n:=n) (zs:=ks++rl) (af:=2+d) (s.cW w5.cW) (s.cm w5.cm) MM (by rw [length_append]; omega) (by omega) (by omega) rl lm;have ny:=uR (C:=Cn pg (n+1+1+1)) (a:=.var 3) (b:=.var 4) (ρ:=[some (.ref p),some (.int 18),some (.ref m.length),some (bM ks),some (bM rl),some (bM lm),some (.int (2+d:Nat)),none,none,some ((List.range k).map λ t=>W.int (t:Nat))[j]]) (m:=M') (x:=bM ks) (y:=bM rl) (xs:=ks.map .str) (ys:=rl.map .str) (s.cm w5.cm) (by simp only [bI,aO,aP,aQ,aS]) (by simp only [bI,aO,aP,aQ,aS]) rfl rfl (by simp [lim]; omega) (by rw [<-map_append]; exact aX _);rw [<-map_append] at ny;refine ⟨bP pc,M2,?_,ym pc,ps++[pc],by simp [ha],s.trans s2,λ x hx=>?_⟩
   ·simp only [bY,cV,au,ay,aq,aO,aP,aQ,aS,ao];rw [ny];simp only [ao];exact e
   ·rcases List.mem_append.mp hx with hx | hx
    ·exact hps x hx
    ·rw [mem_singleton] at hx; subst hx; exact ⟨ok,n1,n2⟩)
 subst ha;have l6:M6.length=m.length+1:=s6.len.trans w5.len;rw [l6] at e6;have hk:ps.length<=18:=by rw [length_map,length_map,length_range] at hac; omega
 have P0:EV p (m.length+1) (m.length+2) (M6++[.lst (ps.map bP)]) (M6++[.lst (ps.map bP)]) (ks++rl) rl lm (2+d) ps:=⟨λ _ _ _=>rfl,(s6.cW w5.cW).app,(s6.cm w5.cm).push (bA _ (bR _)),by simp [l6],by rw [<-l6]; simp,λ pc jA=>(hps pc jA).1⟩;have LU:∀(e:E) (zs:List Str) (o8:Option W) (M:Mem),ai (Cn pg (n+1+1+1)) e (u9 p (some (.ref m.length)) ks rl lm (2+d) (m.length+1) o8 none) M=.ok (bM zs) M->(∃i,e=.var i)->cz (Cn pg (n+1+1+1)) e (u9 p (some (.ref m.length)) ks rl lm (2+d) (m.length+1) o8 none) M=.ok (.tup (zs.map .str)) M:=λ e zs o8 M h ⟨i,hi⟩=>by
  subst hi;rw [eY,h]; rfl
 obtain ⟨ps7,M7,o7,e7,P7,l7,f7,g7⟩:=pG (n:=n+1) (ks:=ks) (o2:=some (.ref m.length)) (o9:=none) (o8:=none) (w:="coil") (w':="lamp") (zs:=rl) (it:=.var 4) (b:=B7) P0 HX (by omega) (by omega) (by omega) (by decide +kernel) (.inl ⟨rfl,rfl⟩) (by omega) rfl (LU _ _ _ _ (by simp only [aq,aO,aP,aQ,aS]) ⟨4,rfl⟩) (sU λ pc jA=>(hps pc jA).2.1);rw [sU λ pc jA=>(hps pc jA).2.2] at g7;obtain ⟨ps8,M8,o8,e8,P8,l8,f8,g8⟩:=pG (n:=n+1) (ks:=ks) (o2:=some (.ref m.length)) (o9:=none) (o8:=o7) (w:="lamp") (w':="coil") (zs:=lm) (it:=.var 5) (b:=B8) P7 HX (by omega) (by omega) (by omega) (by decide +kernel) (.inr ⟨rfl,rfl⟩) (by omega) rfl (LU _ _ _ _ (by simp only [aq,aO,aP,aQ,aS]) ⟨5,rfl⟩) (List.perm_nil.mp g7);obtain ⟨ts,M9,e9,s9,tl,tok⟩:=ML (n:=n+1) (ks:=ks) (rl:=rl) (lm:=lm) (af:=2+d) (q:=m.length+1) (o2:=some (.ref m.length)) (o9:=none) (o8:=o8) P8.cW P8.cm (by omega);obtain ⟨A,B,hA⟩:=s9.cW P8.cW;have MW:M9.length=m.length+2:=s9.len.trans P8.len;have low:∀i,i < m.length+1->i≠p->M9[i]?=M3[i]?:=λ i hi h=>by
  rw [s9.ne h.symm,P8.fr i h (by omega),getElem?_append_left (by omega),s6.ne h.symm,s5.ne h.symm,s4.ne h.symm]
 have MN:M9=m.set p (cW A B)++[.lst ((ks++rl++lm).map .str),.lst (ps8.map bP)]:=by
  apply ext_getElem?;intro i
  by_cases hi:i < m.length
  ·rw [getElem?_append_left (by rw [length_set]; exact hi)]
   by_cases hip:i=p
   ·subst hip;rw [getElem?_set_self hi]; exact hA
   ·rw [getElem?_set_ne (λ z=>hip z.symm),low i (by omega) hip,w3.fr i hip (by omega),getElem?_append_left hi]
  ·rw [getElem?_append_right (by rw [length_set]; omega),length_set];rcases (by omega:i=m.length\/i=m.length+1\/m.length+2<=i) with rfl | rfl | h
   ·rw [low _ (by omega) (by omega),w3.at_,Nat.sub_self]; rfl
   ·rw [s9.ne HX,P8.at_,show m.length+1 - m.length=1 by omega]; rfl
   ·rw [getElem?_eq_none (by omega),getElem?_eq_none (by simp; omega)]
 have HY:rl.Nodup/\lm.Nodup:=by
  have:=List.nodup_append.mp w3.nd;exact ⟨(List.nodup_append.mp this.1).2.1,this.2.1⟩
 refine ⟨ks,rl,lm,2+d,ps8,ts,m.set p (cW A B),?_,⟨A,B,rfl⟩,⟨w3.wd,w3.nd,by omega,by omega,by omega,by omega,by omega,by omega,P8.ok,λ z hz=>?_,λ z hz=>?_,tl,tok⟩⟩
 ·rw [bx rfl];refine bw (d:=⟨2,10,Jo⟩) rfl rfl ?_;show aK _ Jo [some (.ref p),some (.int 18),none,none,none,none,none,none,none,none] m=_;rw [Jo,aj (ρ1:=[some (.ref p),some (.int 18),some (.ref m.length),none,none,none,none,none,none,none]) (m1:=m++[.lst []]) (aI (w:=.ref m.length) (by simp only [dU,ay,ao]; rw [if_pos (by simp [lim])]; rfl) rfl)];refine (aj (ρ1:=[some (.ref p),some (.int 18),some (.ref m.length),some (bM ks),none,none,none,none,none,none]) (aI e1 rfl)).trans ?_;refine (aj (ρ1:=[some (.ref p),some (.int 18),some (.ref m.length),some (bM ks),some (bM rl),none,none,none,none,none]) (aI e2 rfl)).trans ?_;refine (aj (ρ1:=[some (.ref p),some (.int 18),some (.ref m.length),some (bM ks),some (bM rl),some (bM lm),none,none,none,none]) (aI e3 rfl)).trans ?_;refine (aj (ρ1:=[some (.ref p),some (.int 18),some (.ref m.length),some (bM ks),some (bM rl),some (bM lm),some (.int (2+d:Nat)),none,none,none]) (m1:=M4) (aI (w:=.int (2+d:Nat)) (by simp only [bI,aO,aP,aQ,aS,h4,kg]; simp) rfl)).trans ?_;refine (aj (ρ1:=u9 p (some (.ref m.length)) ks rl lm (2+d) (m.length+1) none none) (aI e6 rfl)).trans ?_;refine (aj e7).trans ?_;refine (aj e8).trans ?_;refine aY (bq ?_);simp only [dU,au,ay,aq,aO,aP,aQ,aS,ao];rw [e9];simp only [ao];rw [if_pos (by simp [lim])];rw [MN];simp [new]
 ·rw [(g8.trans f7).count_eq,lO HY.1 hz]
 ·rw [f8.count_eq,lO HY.2 hz]
theorem AY (k:Nat):aD w=true->sD k w=w:=
 @W.rec (λ w=>aD w=true->sD k w=w) (λ ws=>ak ws=true->jq k ws=ws) (λ _=>rfl) (λ _ _=>rfl) (λ _ _=>rfl) (λ _ _=>rfl)
  (λ xs ih h=>by rw [sD,ih (by simpa only [aD] using h)]) (λ xs ih h=>by rw [sD,ih (by simpa only [aD] using h)]) (λ c ks vs ih h=>by rw [sD,ih (by simpa only [aD] using h)]) (λ n h=>by cases h) (λ _=>rfl) (λ x r ih1 ih2 h=>by
   simp only [ak,Bool.and_eq_true] at h;rw [jq,ih1 h.1,ih2 h.2]) w
theorem dW (k:Nat):∀{ws:List W},ak ws=true->jq k ws=ws:=by
 intro ws
 induction ws with
 | nil=>intro _; rfl
 | cons x r ih=>
  intro h;simp only [ak,Bool.and_eq_true] at h;rw [jq,AY k h.1,ih h.2]
abbrev nA (b af:Nat):List W:=[.ref b,.ref (b+1),.ref (b+2),.int af,.ref (b+3),.ref (b+4)]
abbrev cj (b:Nat) (ks rl lm:List Str) (af:Nat) (ps:List Pc) (ts:List (List Int)):Mem:=[.lst (ks.map .str),.lst (rl.map .str),.lst (lm.map .str),.lst (ps.map bP),.lst (ts.map tupI),.lst (nA b af)]
section
variable {n:Nat} {m:Mem} {ks rl lm:List Str} {af:Nat} {ps:List Pc} {ts:List (List Int)}
theorem yv (k:Nat):(cj 0 ks rl lm af ps ts).map (AG k)=cj k ks rl lm af ps ts:=by
 simp only [map_cons,map_nil,AG,dW k (aX _),dW k (bR _),dW k (dm _),jq,sD,Nat.add_zero,Nat.zero_add]
abbrev jc (ks rl lm:List Str) (af:Nat) (ps:List Pc) (ts:List (List Int)):W:=.fz (JA ks rl lm af (.fz (ps.map bP)) ts)
theorem sV:aD (jc ks rl lm af ps ts)=true:=by simp [aD,ak,aX,bR,dm]
theorem iA:aD (bJ ks rl lm af ps ts)=true:=by simp [aD,ak,aX,bR,dm]
theorem eZ (he:ai C e ρ m=.ok w m) (h:getL m w=some xs):ai C (.blt .list (.cons e .nil)) ρ m=.ok (.ref m.length) (m++[.lst xs]):=by
 rw [cF,au,he];simp only [ao,ay,bu,m8 h,new]
theorem copy:aH (D.runN pg (n+1) 38) [jc ks rl lm af ps ts] m=.ok (.ref (m.length+5)) (m++cj m.length ks rl lm af ps ts):=by
 rw [eW (w:=.ref 5) (m1:=cj 0 ks rl lm af ps ts) (by simp only [ak,sV]; rfl) ?_ rfl,yv]
 ·rfl
 refine bw (d:=⟨1,7,Jp⟩) rfl rfl ?_;show aK _ Jp [some (jc ks rl lm af ps ts),none,none,none,none,none,none] []=_;rw [Jp,aj (ρ1:=[some (jc ks rl lm af ps ts),some (bM ks),some (bM rl),some (bM lm),some (.int af),some (.fz (ps.map bP)),some (.fz (ts.map tupI))]) (m1:=[]) (by simp only [bN,bI,aO,aP,aQ,aS]; rfl),aY (bq ?_)];simp only [dU,au];rw [eZ (w:=bM ks) (xs:=ks.map .str) (by simp only [bI,aO,aP,aQ,aS]) rfl];simp only [ao];rw [eZ (w:=bM rl) (xs:=rl.map .str) (by simp only [bI,aO,aP,aQ,aS]) rfl];simp only [ao];rw [eZ (w:=bM lm) (xs:=lm.map .str) (by simp only [bI,aO,aP,aQ,aS]) rfl];simp only [ao,aq,aO,aP,aQ,aS];rw [eZ (w:=.fz (ps.map bP)) (xs:=ps.map bP) (by simp only [bI,aO,aP,aQ,aS]) rfl];simp only [ao];rw [eZ (w:=.fz (ts.map tupI)) (xs:=ts.map tupI) (by simp only [bI,aO,aP,aQ,aS]) rfl];simp only [ao,ay];rw [if_pos (by simp [lim])];rfl
theorem dw {b:Ss} {f:Nat} {x:Str} (hd:pg.fns[f]?=some ⟨1,1,b⟩) (hb:b=.cons (.ret (.blt .list (.cons (.fld (.var 0) x) .nil))) .nil) (hx:lG pg.cs (bJ ks rl lm af ps ts) x []=.ok (.fz xs) []) (hp:ak xs=true):aH (D.runN pg (n+1) f) [bJ ks rl lm af ps ts] m=.ok (.ref m.length) (m++[.lst xs]):=by
 rw [eW (w:=.ref 0) (m1:=[.lst xs]) (by simp only [ak,iA]; rfl) ?_ rfl]
 ·simp only [sD,Nat.add_zero,map_cons,map_nil,AG,dW _ hp]
 refine bw (d:=⟨1,1,b⟩) hd rfl ?_;show aK _ b [some (bJ ks rl lm af ps ts)] []=_;rw [hb,aY (bq (eZ (w:=.fz xs) (xs:=xs) ?_ rfl))]
 ·rfl
 ·rw [nh,aq];simp only [aO,aP,aQ,aS,ao,hx]
theorem told:aH (D.runN pg (n+1+1) 40) [bJ ks rl lm af ps ts] m=.ok (.ref (m.length+5)) (m++cj m.length ks rl lm af ps ts):=by
 rw [eW (w:=.ref 5) (m1:=cj 0 ks rl lm af ps ts) (by simp only [ak,iA]; rfl) ?_ rfl,yv]
 ·rfl
 refine bw (d:=⟨1,1,Jr⟩) rfl rfl ?_;show aK _ Jr [some (bJ ks rl lm af ps ts)] []=_;have q:∀{M:Mem} {f:Str} {k:Nat} {r:D.R W},g6 pg.cs (bJ ks rl lm af ps ts) f M=some k->aH (D.runN pg (n+1) k) [bJ ks rl lm af ps ts] M=r->ai (Cn pg (n+1)) (.mth (.var 0) f .nil) [some (bJ ks rl lm af ps ts)] M=r:=λ h1 h2=>by
  rw [ng,aq];simp only [aO,aP,aQ,aS,ao,h1,ay,h2]
 rw [Jr,aY (bq ?_)];simp only [dU,au];rw [q (k:=1) rfl (dw (n:=n) (xs:=ks.map .str) rfl rfl rfl (aX _))];simp only [ao];rw [q (k:=2) rfl (dw (n:=n) (xs:=rl.map .str) rfl rfl rfl (aX _))];simp only [ao];rw [q (k:=3) rfl (dw (n:=n) (xs:=lm.map .str) rfl rfl rfl (aX _))];simp only [ao];rw [q (k:=4) (r:=.ok (.int af) _) rfl (aU (m1:=[]) (by simp only [ak,iA]; rfl) (bw (d:=⟨1,1,b4⟩) rfl rfl (by
  show aK _ b4 [some (bJ ks rl lm af ps ts)] []=_;rw [b4,aY (bq (w:=.int af) (m1:=[]) (by rw [nh,aq]; rfl))])) rfl)]
 simp only [ao];rw [q (k:=5) rfl (dw (n:=n) (xs:=ps.map bP) rfl rfl rfl (bR _))];simp only [ao];rw [q (k:=6) rfl (dw (n:=n) (xs:=ts.map tupI) rfl rfl rfl (dm _))];simp only [ao,ay];rw [if_pos (by simp [lim])];rfl
end
abbrev HZ (p:Pc):PyData:=.tuple (.str p.1::(p.2.1.map .str++p.2.2.map .int))
abbrev JB (t:List Int):PyData:=.tuple (t.map .int)
abbrev AZ (ks rl lm:List Str) (af:Nat) (ps:List Pc) (ts:List (List Int)):PyData:=.list [.list (ks.map .str),.list (rl.map .str),.list (lm.map .str),.int af,.list (ps.map HZ),.list (ts.map JB)]
theorem Wd.of (h:(decide (1<=z.cps.size)&&decide (z.cps.size<=8)&&z.cps.toList.all λ c=>decide (97<=c)&&decide (c<=122))=true):Wd z:=by
 simp only [Bool.and_eq_true,decide_eq_true_eq] at h;refine ⟨h.1.1,h.1.2,λ c hc=>?_⟩;have:=List.all_eq_true.mp h.2 c hc;simpa using this
theorem H8 {w:Str} {k:Nat} (h:Kd w k):Wd w:=by cases h<;>exact .of (by decide +kernel)
theorem j9.wd {p:Pc} (h:j9 sw rl lm af p) (h1:∀z∈sw,Wd z) (h2:∀z∈rl,Wd z) (h3:∀z∈lm,Wd z):Wd p.1/\(p.2.1=[]\/∃z,p.2.1=[z]/\Wd z):=by
 rcases h.kind with ⟨e1,e2,_⟩ | ⟨z,k,e,hk,_,hz⟩
 ·exact ⟨by rw [e1]; exact .of (by decide +kernel),.inl e2⟩
 ·refine ⟨H8 hk,.inr ⟨z,e,?_⟩⟩;split at hz
  ·exact h2 z hz
  ·split at hz
   ·exact h3 z hz
   ·exact h1 z hz
section
variable {n:Nat} {m:Mem} {ks rl lm:List Str} {af:Nat} {ps:List Pc} {ts:List (List Int)}
theorem bH.words (h:bH ks rl lm af ps ts):(∀z∈ks,Wd z)/\(∀z∈rl,Wd z)/\∀z∈lm,Wd z:=
 ⟨λ z hz=>h.wd z (mem_append_left _ (mem_append_left _ hz)),λ z hz=>h.wd z (mem_append_left _ (mem_append_right _ hz)),λ z hz=>h.wd z (mem_append_right _ hz)⟩
theorem bH.EY (h:bH ks rl lm af ps ts):∀p∈ps,Wd p.1/\(p.2.1=[]\/∃z,p.2.1=[z]/\Wd z):=λ p hp=>
 (h.pc p hp).wd (λ z hz=>h.wd z (mem_append_left _ hz)) h.words.2.1 h.words.2.2
theorem iB {k:Nat} (hg:getL m w=some (zs.map .str)) (h:∀z∈zs,Wd z):toD (k+1+1) m w=some (.list (zs.map .str)):=by
 rw [iw hg,gn λ z hz=>(h z hz).ok]; rfl
theorem EZ {k:Nat} {p:Pc} (h:Wd p.1/\(p.2.1=[]\/∃z,p.2.1=[z]/\Wd z)):toD (k+1+1) m (bP p)=some (HZ p):=by
 obtain ⟨w,zs,ns⟩:=p;obtain ⟨h1,h2⟩:=h;dsimp only at h1 h2;rw [sL];rcases h2 with rfl | ⟨z,rfl,hz⟩
 ·simp only [map_nil,nil_append,dG,iu h1.ok,gp]; rfl
 ·simp only [map_cons,map_nil,cons_append,nil_append,dG,iu h1.ok,iu hz.ok,gp]; rfl
theorem A1 {k:Nat} (hg:getL m w=some (ps.map bP)) (h:∀p∈ps,Wd p.1/\(p.2.1=[]\/∃z,p.2.1=[z]/\Wd z)):toD (k+1+1+1) m w=some (.list (ps.map HZ)):=by
 rw [iw hg,j8 (h:=HZ) λ p hp=>EZ (h p hp)]; rfl
theorem A3 {k:Nat} (hg:getL m w=some (ts.map tupI)):toD (k+1+1+1) m w=some (.list (ts.map JB)):=by
 rw [iw hg,j8 (h:=JB) λ t _=>by rw [sL,gp]; rfl]; rfl
theorem sX {k:Nat} {a b c d e:W} (o:bH ks rl lm af ps ts) (hw:getL m w=some [a,b,c,.int af,d,e]) (ha:getL m a=some (ks.map .str)) (hb:getL m b=some (rl.map .str)) (hc:getL m c=some (lm.map .str)) (hd:getL m d=some (ps.map bP)) (he:getL m e=some (ts.map tupI)) :
  toD (k+1+1+1+1) m w=some (AZ ks rl lm af ps ts):=by
 obtain ⟨w1,w2,w3⟩:=o.words;rw [iw hw];have hi:toD (k+1+1+1) m (.int af)=some (.int af):=rfl;simp only [dG,iB ha w1,iB hb w2,iB hc w3,hi,A1 hd o.EY,A3 he];rfl
theorem E1 {k:Nat} (o:bH ks rl lm af ps ts):toD (k+1+1+1+1) m (jc ks rl lm af ps ts)=some (AZ ks rl lm af ps ts):=sX o rfl rfl rfl rfl rfl rfl
theorem yw {l r:Mem} (hb:l.length=b) (M:Mem) (hM:M=l++(cj b ks rl lm af ps ts++r)):M[b]?=some (.lst (ks.map .str))/\M[b+1]?=some (.lst (rl.map .str))/\M[b+2]?=some (.lst (lm.map .str))/\M[b+3]?=some (.lst (ps.map bP))/\M[b+4]?=some (.lst (ts.map tupI))/\M[b+5]?=some (.lst (nA b af)):=by
 subst hM hb;refine ⟨?_,?_,?_,?_,?_,?_⟩<;>rw [getElem?_append_right (by omega)]<;>simp
theorem A4 {k:Nat} {l r:Mem} (o:bH ks rl lm af ps ts) (hb:l.length=b) (hM:m=l++(cj b ks rl lm af ps ts++r)):toD (k+1+1+1+1) m (.ref (b+5))=some (AZ ks rl lm af ps ts):=by
 obtain ⟨h0,h1,h2,h3,h4,h5⟩:=yw hb m hM;have gL:∀{i:Nat} {xs:List W},m[i]?=some (.lst xs)->getL m (.ref i)=some xs:=λ q=>by simp only [getL,q]
 exact sX o (gL h5) (gL h0) (gL h1) (gL h2) (gL h3) (gL h4)
theorem iU.Lh (o:bH ks rl lm af ps ts):iU 508806 3 (AZ ks rl lm af ps ts):=by
 obtain ⟨w1,w2,w3⟩:=o.words;have hk:=o.k2;have hr:=o.r4;have hl:=o.l2;have hn:=o.n6;have hs:∀zs:List Str,(∀z∈zs,Wd z)->zs.length<=8->iU 84800 2 (.list (zs.map .str)):=λ zs h hl=>by
  refine (iU.list (c:=20) (d:=0) (n:=8) (λ x hx=>?_) (by simpa using hl)).mono (by decide) (by decide);obtain ⟨z,hz,rfl⟩:=List.mem_map.mp hx;exact yu (h z hz)
 have hps:iU 84800 2 (.list (ps.map HZ)):=by
  refine (iU.list (c:=105) (d:=1) (n:=800) (λ x hx=>?_) (by simpa using o.p8)).mono (by decide) (by decide);obtain ⟨p,hp,rfl⟩:=List.mem_map.mp hx;have LV:=o.pc p hp;have hpl:=LV.len;obtain ⟨hw,hz⟩:=o.EY p hp;refine iU.tuple (c:=20) (d:=0) (n:=5) (λ x hx=>?_) ?_
  ·rcases List.mem_cons.mp hx with rfl | hx
   ·exact yu hw
   ·rcases List.mem_append.mp hx with hx | hx
    ·obtain ⟨z,Fq,rfl⟩:=List.mem_map.mp hx;rcases hz with e | ⟨y,e,hy⟩
     ·rw [e] at Fq; cases Fq
     ·rw [e,mem_singleton] at Fq; subst Fq; exact yu hy
    ·obtain ⟨i,hi,rfl⟩:=List.mem_map.mp hx;have:=LV.rg i hi;exact yt this.1 (by omega)
  ·simp only [length_cons,length_append,length_map];rcases hz with e | ⟨y,e,_⟩<;>rw [e]<;>simp<;>omega
 have hts:iU 84800 2 (.list (ts.map JB)):=by
  refine (iU.list (c:=84) (d:=1) (n:=4) (λ x hx=>?_) (by rw [length_map,o.tl]; exact hr)).mono (by decide) (by decide);obtain ⟨t,ht,rfl⟩:=List.mem_map.mp hx;have h:=o.tm t ht;obtain ⟨x0,x1,x2,x3,rfl⟩:∃x0 x1 x2 x3,t=[x0,x1,x2,x3]:=by
   unfold gz at h;split at h
   ·exact ⟨_,_,_,_,rfl⟩
   ·cases h
  simp only [gz,Bool.and_eq_true,decide_eq_true_eq] at h;refine iU.tuple (c:=20) (d:=0) (n:=4) (λ x hx=>?_) (by simp);obtain ⟨i,hi,rfl⟩:=List.mem_map.mp hx;simp only [mem_cons,not_mem_nil,or_false] at hi;rcases hi with rfl | rfl | rfl | rfl<;>exact yt (by omega) (by omega)
 refine iU.list (c:=84800) (d:=2) (n:=6) (λ x hx=>?_) (by simp);simp only [mem_cons,not_mem_nil,or_false] at hx;rcases hx with rfl | rfl | rfl | rfl | rfl | rfl
 ·exact hs ks w1 (by omega)
 ·exact hs rl w2 (by omega)
 ·exact hs lm w3 (by omega)
 ·exact (yt (by omega) (by omega)).mono (by decide) (by decide)
 ·exact hps
 ·exact hts
theorem sY {x:W} {xs:List PyData} (h:toD 60 m x=some (.list xs)) (hs:iU c d (.list xs)) (hc:c<=2^20) (hd:d<=60):bu .repr [x] m=.ok (.str (PyData.list xs).shown) m:=by
 simp only [bu,h,hs.Ff hc hd,if_true]
theorem nB (h:Sg z):aC .NotEq (.str z) (.str z) m=.ok false m:=by
 simp only [aC,Ju h.all h.all];simp;rfl
end
theorem iC {a b:Str} (h:a.cps.toList=b.cps.toList):a=b:=by
 cases a; cases b;congr 1;exact Array.toList_inj.mp h
theorem app_list (a b:Str):(a++b).cps.toList=a.cps.toList++b.cps.toList:=by
 show (a.cps++b.cps).toList=_;rw [Array.toList_append]
theorem gq (a b:Str):(a++b).length=a.length+b.length:=by
 show (a.cps++b.cps).size=_;rw [Array.size_append]; rfl
theorem A5:∀{p q X Y:List Nat},c∉p->c∉q->p++c::X=q++c::Y->p=q/\X=Y:=by
 intro p
 induction p with
 | nil=>
  intro q X Y _ hq h;cases q with
  | nil=>exact ⟨rfl,by simpa using h⟩
  | cons y q=>simp at h; exact absurd (h.1▸mem_cons_self) hq
 | cons x p ih=>
  intro q X Y hp hq h;cases q with
  | nil=>simp at h; exact absurd (h.1▸mem_cons_self) hp
  | cons y q=>
   simp only [cons_append,List.cons.injEq] at h;obtain ⟨rfl,h⟩:=h;obtain ⟨rfl,rfl⟩:=ih (λ z=>hp (mem_cons_of_mem _ z)) (λ z=>hq (mem_cons_of_mem _ z)) h;exact ⟨rfl,rfl⟩
theorem f6 {a b:Str} {r:List Str}:Str.join s (a::b::r)=a++s++Str.join s (b::r):=Str.join.eq_3 _ _ _ (by simp)
theorem yx:∀{ps qs:List Str},ps≠[]->qs≠[]->(∀p∈ps,c∉p.cps.toList)->(∀q∈qs,c∉q.cps.toList)->Str.join ⟨#[c]⟩ ps=Str.join ⟨#[c]⟩ qs->ps=qs:=by
 have two:∀(a b:Str) (r:List Str),(Str.join ⟨#[c]⟩ (a::b::r)).cps.toList=a.cps.toList++c::(Str.join ⟨#[c]⟩ (b::r)).cps.toList:=λ a b r=>by
  rw [f6,app_list,app_list,append_assoc]; rfl
 intro ps
 induction ps with
 | nil=>intro qs h; exact absurd rfl h
 | cons p r ih=>
  intro qs _ hq h1 h2 e;have e:=congrArg (λ z:Str=>z.cps.toList) e;cases qs with
  | nil=>exact absurd rfl hq
  | cons q s=>
   have hcp:=h1 p mem_cons_self;have LW:=h2 q mem_cons_self;cases r with
   | nil=>
    cases s with
    | nil=>rw [Str.join.eq_2,Str.join.eq_2] at e; rw [iC e]
    | cons q2 s=>
     rw [Str.join.eq_2,two] at e;exact absurd (by rw [e]; simp) hcp
   | cons p2 r=>
    cases s with
    | nil=>
     rw [Str.join.eq_2,two] at e;exact absurd (by rw [<-e]; simp) LW
    | cons q2 s=>
     rw [two,two] at e;obtain ⟨e1,e2⟩:=A5 hcp LW e;rw [iC e1,ih (by simp) (by simp) (λ x hx=>h1 x (mem_cons_of_mem _ hx)) (λ x hx=>h2 x (mem_cons_of_mem _ hx)) (iC e2)]
theorem kh {ps:List Str} (h0:ps≠[]) (h:∀p∈ps,c∉p.cps.toList):Txt.split (Str.join ⟨#[c]⟩ ps) ⟨#[c]⟩=ps:=by
 refine yx (c:=c) (λ z=>?_) h0 (λ p hp=>StrLaws.split_free _ _ p hp) h (StrLaws.join_split _ _);have:=PyProof.Rows.split_pos (Str.join ⟨#[c]⟩ ps) ⟨#[c]⟩;rw [z] at this;simp at this
theorem yy (s:Str) (ps:List Str):Txt.join s ps=s.join ps:=StrLaws.glued_eq_join s ps
theorem join_rows:∀{rs:List Str},rs≠[]->Str.join "" (rs.map (·++"\n"))=Str.join "\n" rs++"\n":=by
 intro rs
 induction rs with
 | nil=>intro h; exact absurd rfl h
 | cons r s ih=>
  intro _;cases s with
  | nil=>rw [map_cons,map_nil,Str.join.eq_2,Str.join.eq_2]
  | cons t s=>
   have:=ih (by simp);rw [map_cons] at this;rw [map_cons,map_cons,f6,this,f6];refine iC ?_;simp only [app_list];show _++[]++_=_;simp only [append_nil,append_assoc]
theorem A6 (x:Str):Txt.endswith (x++"\n") "\n"=true:=by
 have h1:("\n":Str).length=1:=by decide +kernel
 have h2:("\n":Str).cps.toList=[10]:=by decide +kernel
 unfold Txt.endswith;rw [StrLaws.subAt_eq,app_list,gq,h1,h2];simp [iy]
theorem yz (x:Str):Txt.slice (x++"\n") none (some (-1))=x:=by
 have h1:("\n":Str).length=1:=by decide +kernel
 show StrLaws.sliceText (x++"\n") none (some (-1))=x;rw [StrLaws.sliceText_to_neg (by decide) (by rw [gq,h1]; omega)];refine iC ?_;rw [app_list,gq,h1];have:((-1:Int)+((x.length+1:Nat):Int) - 0).toNat=x.cps.toList.length:=by simp [iy]; omega
 rw [this];simp
abbrev nS (i:Int):Str:=Str.ofString (toString i)
noncomputable def dig (c:Nat):Bool:=decide (48<=c)&&decide (c<=57)
noncomputable def pH (z:Str):Bool:=z.cps.toList.all dig&&(decide (z="0")||decide (z.cps.toList.head?≠some 48))
theorem A7:((List.range 641).all λ k=>decide (1<=(nS (k:Nat)).cps.size)&&decide ((nS (k:Nat)).cps.size<=3)&&pH (nS (k:Nat))&&decide (intText? (nS (k:Nat))=some (k:Int)))=true:=by decide +kernel
structure Nz (k:Nat):Prop where
 lo:1<=(nS k).cps.size
 hi:(nS k).cps.size<=3
 num:pH (nS k)=true
 val:intText? (nS k)=some (k:Int)
theorem nz {k:Nat} (h:k<=640):Nz k:=by
 have:=List.all_eq_true.mp A7 k (List.mem_range.mpr (by omega));simp only [Bool.and_eq_true,decide_eq_true_eq] at this;exact ⟨this.1.1.1,this.1.1.2,this.1.2,this.2⟩
theorem Nz.dg {k:Nat} (h:Nz k):∀c∈(nS k).cps.toList,48<=c/\c<=57:=λ c hc=>by
 have:=h.num;simp only [pH,Bool.and_eq_true] at this;have:=List.all_eq_true.mp this.1 c hc;simpa [dig] using this
theorem Wd.num (h:Wd z):pH z=false:=by
 have h1:=h.lo;unfold pH;cases e:z.cps.toList with
 | nil=>
  have:z.cps.toList.length=0:=by rw [e]; rfl
  simp at this;simp [this] at h1
 | cons c r=>
  have:=h.az c (by rw [e]; exact mem_cons_self);have:dig c=false:=by simp [dig]; omega
  simp [this]
inductive ki:W->Prop
 | wd {z:Str}:Wd z->ki (.str z)
 | nu {k:Nat}:k<=640->ki (.int k)
noncomputable def sW:W->Str
 | .str z=>z
 | .int i=>nS i
 | _=>""
structure Pz (z:Str):Prop where
 lo:1<=z.cps.size
 hi:z.cps.size<=8
 rg:∀c∈z.cps.toList,48<=c/\c<=122
theorem Wd.pz (h:Wd z):Pz z:=⟨h.lo,h.hi,λ c hc=>by have:=h.az c hc; omega⟩
theorem ki.pz (h:ki w):Pz (sW w):=by
 cases h with
 | wd h=>exact h.pz
 | @nu k h=>exact ⟨(nz h).lo,Nat.le_trans (nz h).hi (by decide),λ c hc=>by have:=(nz h).dg c hc; omega⟩
theorem ki.pure (h:ki w):aD w=true:=by cases h<;>rfl
theorem Pz.no (h:Pz z) (hc:c < 48):c∉z.cps.toList:=λ hm=>by have:=h.rg c hm; omega
theorem Pz.sg (h:Pz z):Sg z:=λ c hc=>by have:=h.rg c hc; omega
theorem Pz.asc (h:Pz z):L2.asc z=true:=by
 unfold L2.asc;rw [Array.all_eq_true];intro i hi;have:=h.rg z.cps[i] (by simp);simp;omega
theorem sZ (h:ki w):bu .str [w] m=.ok (.str (sW w)) m:=by
 cases h with
 | wd h=>rfl
 | @nu k h=>
  have:(k:Int).natAbs.log2 < 1920:=by
   rw [Int.natAbs_natCast]
   by_cases h0:k=0
   ·rw [h0]; decide +kernel
   ·exact (Nat.log2_lt h0).mpr (Nat.lt_of_lt_of_le (by omega:k < 2^12) (Nat.pow_le_pow_right (by decide) (by decide)))
  simp only [bu];rw [if_pos this];rfl
theorem yC {k:Nat} (h:∀z∈zs,z.length<=k):(zs.map (·.length)).sum<=zs.length*k:=by
 induction zs with
 | nil=>simp
 | cons z r ih=>
  have h1:=h z mem_cons_self;have h2:=ih λ x hx=>h x (mem_cons_of_mem _ hx);rw [map_cons,sum_cons,length_cons,Nat.succ_mul];omega
theorem qV (zs:List Str):dI (zs.map .str)=some zs:=by
 induction zs with
 | nil=>rfl
 | cons z r ih=>simp [dI,ih]
theorem kj {k:Nat} (hg:getL m w=some (zs.map .str)) (hs:s.length<=1) (h:∀z∈zs,z.length<=k) (hb:zs.length*k+zs.length<=16777216):br (.str s) "join" [w] m=.ok (.str (Str.join s zs)) m:=by
 have h1:=yC h;have h2:zs.length*s.length<=zs.length*1:=Nat.mul_le_mul_left _ hs;simp only [br,i9,if_true,jQ,hg,qV];rw [if_pos (by omega),yy]
theorem pI {k:Nat} (hs:s.length<=1) (h:∀z∈zs,z.length<=k):(Str.join s zs).length<=zs.length*k+zs.length:=by
 have h1:=yC h;have h2:zs.length*s.length<=zs.length*1:=Nat.mul_le_mul_left _ hs;have:=StrLaws.join_length_le s zs;omega
abbrev yD (zs:List Str):Str:=Str.join " " zs
theorem Li:(" ":Str).length<=1:=by decide +kernel
theorem LX:("":Str).length<=1:=by decide +kernel
theorem tu (h:∀z∈zs,Pz z) (hl:zs.length<=10):(yD zs).length<=90:=by
 have:(yD zs).length<=zs.length*8+zs.length:=pI (zs:=zs) (k:=8) Li λ z hz=>(h z hz).hi;omega
section
variable {n:Nat} {m:Mem}
theorem iV {ws:List W} (h:∀w∈ws,ki w):∀z∈ws.map sW,Pz z:=λ z hz=>by
 obtain ⟨w,hw,rfl⟩:=List.mem_map.mp hz;exact (h w hw).pz
theorem yE (h:z.length<=1000):binop .Add (.str z) (.str "\n") m=.ok (.str (z++"\n")) m:=by
 have h1:("\n":Str).length=1:=by decide +kernel
 simp only [binop];rw [if_pos (by rw [h1]; simp only [lim]; omega)]
theorem nE:kdOf m (.str z)=iI "join":=by simp only [kdOf]; decide
theorem iW {js:List Nat} {ws:List W} {s:Src} (hm:Cm m) (hI:cz C it ρ m=.ok s m) (hg:∀j,s.get m j=Src.get (.tup ws) m j) (hn:s.len m=ws.length) (hi:i < (bY js ρ).length) (h:∀w∈ws,ki w) (hl:ws.length<=1000) :
  ai C (.frz (.comp (.gen (.var i) js it .nil (.elt (.blt .str (.cons (.var i) .nil)))))) ρ m=.ok (.fz ((ws.map sW).map .str)) m:=by
 rw [map_map];refine eK (g:=λ w=>W.str (sW w)) hm hI hg hn (λ x hx=>?_) (λ x hx=>rfl) (by simp only [lim]; omega);have:((bY js ρ).set i (some x))[i]?=some (some x):=getElem?_set_self hi;simp only [cF,au,ay,aq,this,ao,sZ (h x hx)]
theorem yF {ws:List W} (h:∀w∈ws,ki w) (hl:ws.length<=10):aH (D.runN pg (n+1) 22) [.fz ws] m=.ok (.str (yD (ws.map sW)++"\n")) m:=by
 refine aU (m1:=[]) (by simp only [ak,aD,Bool.and_true]; exact bE.mpr λ w hw=>(h w hw).pure) ?_ rfl;refine bw (d:=⟨1,2,Jd⟩) rfl rfl ?_;show aK _ Jd [some (.fz ws),none] []=_;have e1:=iW (C:=Cn pg n) (ρ:=[some (.fz ws),none]) (i:=1) (js:=[1]) (it:=.var 0) (ws:=ws) (s:=.tup ws) Cm.nil (by rw [eY,aq]; rfl) (λ _=>rfl) rfl (by simp [bY]) h (by omega);have e2:=kj (s:=" ") (w:=.fz ((ws.map sW).map .str)) (m:=[]) (k:=8) rfl Li (λ z hz=>(iV h z hz).hi) (by rw [length_map]; omega);have h3:=tu (iV h) (by simpa using hl);rw [Jd,aY (bq ?_)];rw [eX,dH,aJ,ao,if_pos nE,au,e1];simp only [ao,ay,e2,aJ];exact yE (Nat.le_trans h3 (by decide))
theorem E2:((List.range 123).all λ c=>(!(Builtin.Str.occurrences "0123456789" ⟨#[c]⟩ 0 10 1).isEmpty)==dig c)=true:=by decide +kernel
theorem A8 (h:c<=122):aC .In (.str ⟨#[c]⟩) (.str "0123456789") m=.ok (dig c) m:=by
 have:=List.all_eq_true.mp E2 c (List.mem_range.mpr (by omega));have MO:("0123456789":Str).length=10:=by decide +kernel
 simp only [aC,oi,MO];rw [eq_of_beq this]
theorem yG (h:Pz z):bh (.str z) (.int 0) m=.ok (.str ⟨#[z.cps.toList.headD 0]⟩) m:=by
 have h1:=h.lo;have hl:z.length<=lim:=by have:=h.hi; rw [iy]; simp only [lim]; omega
 simp only [bh];rw [if_pos hl,show (0:Int)=((0:Nat):Int) from rfl,nc (i:=0) (by simp; omega)];have:z.cps.toList[0]'(by simp; omega)=z.cps.toList.headD 0:=by
  rw [headD_eq_head?_getD,head?_eq_getElem?,getElem?_eq_getElem (by simp; omega)];rfl
 rw [this]
theorem eqZ {a b:Str} (ha:Sg a) (hb:Sg b):ql m (.str a) (.str b)=.ok (decide (a=b)) m:=Ju ha.all hb.all
theorem lP (h:Pz z):aH (D.runN pg (n+1) 30) [.str z] m=.ok (.bl (pH z)) m:=by
 refine aU (m1:=[]) rfl ?_ rfl;refine bw (d:=⟨1,2,HH⟩) rfl rfl ?_;show aK _ HH [some (.str z),none] []=_;have hI:cz (Cn pg n) (.var 0) [some (.str z),none] []=.ok (.tup (signs z)) []:=by simp [cz,R.bind,fE,qq,h.asc]
 have e1:=eK (C:=Cn pg n) (i:=1) (js:=[1]) (it:=.var 0) (e:=.cmp .In (.var 1) (.cst (.str "0123456789"))) (ρ:=[some (.str z),none]) (m:=[]) (xs:=signs z) (s:=.tup (signs z)) (g:=λ w=>W.bl (match w with | .str y=>y.cps.toList.all dig | _=>false)) Cm.nil hI (λ _=>rfl) rfl (λ x hx=>by
  obtain ⟨c,hc,rfl⟩:=List.mem_map.mp hx;have:=h.rg c hc;simp only [bY,xU,aq,aJ,aO,aP,aQ,aS,ao,A8 (by omega:c<=122)];simp) (λ _ _=>rfl) (by have:=h.hi; simp [signs,lim]; omega)
 have hb:∀l:List Nat,bools ((l.map λ c=>W.str ⟨#[c]⟩).map λ w=>W.bl (match w with | .str y=>y.cps.toList.all dig | _=>false))=some (l.map dig):=λ l=>by
  induction l with
  | nil=>rfl
  | cons c r ih=>
   simp only [map_cons,bools,ih];simp
 have e2:bu .all [.fz ((signs z).map λ w=>W.bl (match w with | .str y=>y.cps.toList.all dig | _=>false))] []=.ok (.bl (z.cps.toList.all dig)) []:=by
  simp only [bu,getL,signs,hb];simp [all_map,Function.comp_def]
 have h1:(1:Int)<=z.length:=by have:=h.lo; rw [iy]; omega
 have h2:(z.length:Int)<=12:=by have:=h.hi; rw [iy]; omega
 have h3:z.length<=lim:=by have:=h.hi; rw [iy]; simp [lim]; omega
 have hT:aT (Cn pg n) (.or (.not (.chain .LtE .LtE (.cst (.int 1)) (.blt .len (.cons (.var 0) .nil)) (.cst (.int 12)))) (.not (.blt .all (.cons (.frz (.comp (.gen (.var 1) [1] (.var 0) .nil (.elt (.cmp .In (.var 1) (.cst (.str "0123456789"))))))) .nil)))) [some (.str z),none] []=.ok (!z.cps.toList.all dig) []:=by
  have a1:aT (Cn pg n) (.chain .LtE .LtE (.cst (.int 1)) (.blt .len (.cons (.var 0) .nil)) (.cst (.int 12))) [some (.str z),none] []=.ok true []:=by
   simp [bI,m5,bu,h3,aC,h1,h2]
  rw [j5,fF,a1];simp only [ao,Bool.not_true,Bool.false_eq_true,if_false];rw [fF,xV,cF,au,e1];simp only [ao,ay,e2,D.truthy]
 unfold pH;cases hd:z.cps.toList.all dig with
 | false=>
  rw [hd] at hT;rw [HH,aY (by rw [uL hT]; exact aY (bq (w:=.bl false) (m1:=[]) (by simp only [bI])))];rfl
 | true=>
  rw [hd] at hT;rw [HH,aj (by rw [dF hT,aA]),aY (bq ?_)];have hz0:Sg "0":=.of (by decide +kernel);have hc0:Sg ⟨#[z.cps.toList.headD 0]⟩:=λ c hc=>by
   simp at hc; subst hc;cases e:z.cps.toList with
   | nil=>simp
   | cons x r=>have:=h.rg x (by rw [e]; exact mem_cons_self); simp; omega
  simp only [Hy,xU,aq,aJ,cU,aO,aP,aQ,aS,ao,yG h,aC,eqZ h.sg hz0,eqZ hc0 hz0,Bool.true_and]
  by_cases hz:z="0"
  ·simp [hz]
  ·have:(⟨#[z.cps.toList.headD 0]⟩:Str)="0"↔z.cps.toList.head?=some 48:=by
    have h1:=h.lo;have e0:("0":Str)=⟨#[48]⟩:=by decide +kernel
    rw [e0];cases e:z.cps.toList with
    | nil=>simp at e; rw [e] at h1; simp at h1
    | cons x r=>simp
   rw [headD_eq_head?_getD] at this;simp [hz,this]
theorem pJ {k:Nat} (h:k<=640):aH (D.runN pg (n+1) 30) [.str (nS k)] m=.ok (.bl true) m:=by
 have:=lP (n:=n) (m:=m) (ki.nu h).pz;rw [show sW (.int k)=nS k from rfl,(nz h).num] at this;exact this
theorem uW (h:Wd z):aH (D.runN pg (n+1) 30) [.str z] m=.ok (.bl false) m:=by
 rw [lP h.pz,h.num]
theorem tw {k:Nat} (h:k<=640):bu .int [.str (nS k)] m=.ok (.int k) m:=by
 have h1:=(nz h).hi;simp only [bu,(nz h).val];rw [if_pos (by rw [iy]; omega)]
theorem jd {k:Nat} (h:k<=640):aH (D.runN pg (n+1+1) 29) [.str (nS k)] m=.ok (.int k) m:=by
 refine aU (m1:=[]) rfl ?_ rfl;refine bw (d:=⟨1,1,Jk⟩) rfl rfl ?_;show aK _ Jk [some (.str (nS k))] []=_;have hT:aT (Cn pg (n+1)) (.not (.call 30 (.cons (.var 0) .nil))) [some (.str (nS k))] []=.ok false []:=by
  rw [fF,d9 (b:=true) (m1:=[]) (iR _ _) (by simp only [bI,aO,aP,aQ,aS,pJ h])]; rfl
 rw [Jk,aj (by rw [dF hT,aA]),aY (bq (w:=.int k) (m1:=[]) (by simp only [bI,aO,aP,aQ,aS,tw h]))]
theorem yH (h:ki w) (h1:ρ[1]?=some (some (.str (sW w)))):ai (Cn pg (n+1)) (.ife (.call 30 (.cons (.var 1) .nil)) (.blt .int (.cons (.var 1) .nil)) (.var 1)) ρ m=.ok w m:=by
 cases h with
 | wd h=>
  have h1:ρ[1]?=some (some (.str _)):=h1;rw [sH,d9 (b:=false) (m1:=m) (iR _ _) (by simp only [bI,h1,sW,uW h])];simp only [ao,Bool.false_eq_true,if_false,aq,h1];rfl
 | @nu k h=>
  have h1:ρ[1]?=some (some (.str (nS k))):=h1;rw [sH,d9 (b:=true) (m1:=m) (iR _ _) (by simp only [bI,h1,pJ h])];simp only [ao,if_true,bI,h1,tw h]
noncomputable def uX (w:W):W:=match w with
 | .str z=>if pH z then (match intText? z with | some k=>.int k | none=>.non) else .str z
 | w=>w
theorem je (h:ki w):uX (.str (sW w))=w:=by
 cases h with
 | wd h=>simp only [uX,sW,h.num]; rfl
 | @nu k h=>simp only [uX,sW,(nz h).num,(nz h).val,if_true]
theorem qW {ws:List W} (h:∀w∈ws,ki w) (hl:ws.length<=1000):aH (D.runN pg (n+1+1) 28) [.fz ((ws.map sW).map .str)] m=.ok (.tup ws) m:=by
 refine aU (m1:=[]) (by simp only [ak,aD,Bool.and_true]; exact aX _) ?_ (by simp only [aD]; exact bE.mpr λ w hw=>(h w hw).pure);refine bw (d:=⟨1,2,Jj⟩) rfl rfl ?_;show aK _ Jj [some (.fz ((ws.map sW).map .str)),none] []=_;have e1:=eK (C:=Cn pg (n+1)) (i:=1) (js:=[1]) (it:=.var 0) (e:=.ife (.call 30 (.cons (.var 1) .nil)) (.blt .int (.cons (.var 1) .nil)) (.var 1)) (ρ:=[some (.fz ((ws.map sW).map .str)),none]) (m:=[]) (xs:=(ws.map sW).map .str) (s:=.tup ((ws.map sW).map .str)) (g:=uX) Cm.nil (by rw [eY,aq]; rfl) (λ _=>rfl) rfl (λ x hx=>by
  rw [map_map] at hx;obtain ⟨w,hw,rfl⟩:=List.mem_map.mp hx;rw [Function.comp,je (h w hw)];exact yH (h w hw) (by simp [bY])) (λ x hx=>by
  rw [map_map] at hx;obtain ⟨w,hw,rfl⟩:=List.mem_map.mp hx;rw [Function.comp,je (h w hw)];exact (h w hw).pure) (by simp [lim]; omega)
 have e2:((ws.map sW).map W.str).map uX=ws:=by
  rw [map_map,map_map]
  conv=>rhs; rw [<-map_id ws]
  exact map_congr_left λ w hw=>je (h w hw)
 rw [e2] at e1;rw [Jj,aY (bq ?_)];rw [cF,au,e1];simp only [ao,ay,bu,cu,getL]
end
abbrev nJ (p:Pc):List W:=.str p.1::(p.2.1.map .str++p.2.2.map .int)
abbrev f9 (p:Str×List Int):List W:=.str "relay"::.str p.1::p.2.map .int
noncomputable def ck (ks rl lm:List Str) (af:Nat) (ps:List Pc) (ts:List (List Int)):List (List W):=
 (.str "keys"::ks.map .str)::((rl.zip ts).map f9++((.str "lamps"::lm.map .str)::[.str "nodes",.int af]::ps.map nJ))
noncomputable def bG (r:List W):Str:=yD (r.map sW)
noncomputable def dX (rs:List (List W)):Str:=Str.join "" (rs.map λ r=>bG r++"\n")
theorem ki.int {i:Int} (h:0<=i) (h1:i<=640):ki (.int i):=by
 have:ki (.int (i.toNat:Nat)):=.nu (by omega);rw [show ((i.toNat:Nat):Int)=i by omega] at this;exact this
structure jC (r:List W):Prop where
 ok:∀w∈r,ki w
 len:r.length<=10
theorem jC.pure (h:jC r):ak r=true:=bE.mpr λ w hw=>(h.ok w hw).pure
theorem jC.cons (h:ki w) (hr:∀w∈r,ki w) (hl:r.length<=9):jC (w::r):=⟨λ x hx=>by
 rcases List.mem_cons.mp hx with rfl | hx
 ·exact h
 ·exact hr x hx,by simp; omega⟩
theorem E3 (h:∀z∈zs,Wd z):∀w∈zs.map W.str,ki w:=λ w hw=>by
 obtain ⟨z,hz,rfl⟩:=List.mem_map.mp hw;exact .wd (h z hz)
theorem E4 {is:List Int} (h:∀i∈is,0<=i/\i<=640):∀w∈is.map W.int,ki w:=λ w hw=>by
 obtain ⟨i,hi,rfl⟩:=List.mem_map.mp hw;exact .int (h i hi).1 (h i hi).2
theorem tB (h:gz t=true):t.length=4/\∀i∈t,0<=i/\i<=640:=by
 unfold gz at h;split at h
 ·simp only [Bool.and_eq_true,decide_eq_true_eq] at h;refine ⟨rfl,λ i hi=>?_⟩;simp only [mem_cons,not_mem_nil,or_false] at hi;rcases hi with rfl | rfl | rfl | rfl<;>omega
 ·cases h
section
variable {n:Nat} {m:Mem} {ks rl lm:List Str} {af:Nat} {ps:List Pc} {ts:List (List Int)}
theorem wk:Wd "keys":=.of (by decide +kernel)
theorem wr:Wd "relay":=.of (by decide +kernel)
theorem wl:Wd "lamps":=.of (by decide +kernel)
theorem wn:Wd "nodes":=.of (by decide +kernel)
theorem rk (o:bH ks rl lm af ps ts):jC (.str "keys"::ks.map .str):=.cons (.wd wk) (E3 o.words.1) (by have:=o.k2; simp; omega)
theorem Ft (o:bH ks rl lm af ps ts):jC (.str "lamps"::lm.map .str):=.cons (.wd wl) (E3 o.words.2.2) (by have:=o.l2; simp; omega)
theorem rn (o:bH ks rl lm af ps ts):jC [.str "nodes",.int af]:=.cons (.wd wn) (λ w hw=>by rw [mem_singleton] at hw; subst hw; exact .nu o.n6) (by simp)
theorem rr (o:bH ks rl lm af ps ts) {p:Str×List Int} (hp:p∈rl.zip ts):jC (f9 p):=by
 obtain ⟨h1,h2⟩:=of_mem_zip hp;obtain ⟨h3,h4⟩:=tB (o.tm _ h2);refine .cons (.wd wr) (λ w hw=>?_) (by simp; omega);rcases List.mem_cons.mp hw with rfl | hw
 ·exact .wd (o.words.2.1 _ h1)
 ·exact E4 h4 w hw
theorem rp (o:bH ks rl lm af ps ts) {p:Pc} (hp:p∈ps):jC (nJ p):=by
 obtain ⟨hw,hz⟩:=o.EY p hp;have h1:=(o.pc p hp).len;have h2:=(o.pc p hp).rg;have h6:=o.n6;refine .cons (.wd hw) (λ w hw=>?_) ?_
 ·rcases List.mem_append.mp hw with hw | hw
  ·refine E3 (λ z hzz=>?_) w hw;rcases hz with e | ⟨y,e,hy⟩
   ·rw [e] at hzz; cases hzz
   ·rw [e,mem_singleton] at hzz; subst hzz; exact hy
  ·exact E4 (λ i hi=>by have:=h2 i hi; omega) w hw
 ·rcases hz with e | ⟨y,e,_⟩<;>rw [e]<;>simp<;>omega
theorem gr (o:bH ks rl lm af ps ts):∀r∈ck ks rl lm af ps ts,jC r:=λ r hr=>by
 unfold ck at hr;rcases List.mem_cons.mp hr with rfl | hr
 ·exact rk o
 rcases List.mem_append.mp hr with hr | hr
 ·obtain ⟨p,hp,rfl⟩:=List.mem_map.mp hr;exact rr o hp
 rcases List.mem_cons.mp hr with rfl | hr
 ·exact Ft o
 rcases List.mem_cons.mp hr with rfl | hr
 ·exact rn o
 ·obtain ⟨p,hp,rfl⟩:=List.mem_map.mp hr;exact rp o hp
theorem ko (o:bH ks rl lm af ps ts):(ck ks rl lm af ps ts).length<=810:=by
 have h1:=o.r4;have h2:=o.p8;simp only [ck,length_cons,length_append,length_map,length_zip];omega
theorem iD (h:jC r):(bG r).length<=90:=tu (iV h.ok) (by simpa using h.len)
theorem uY {a b:E} (hm:Cm m) (ha:ai C a ρ m=.ok (.ref m.length) (m++[.lst xs])) (hb:ai C b ρ (m++[.lst xs])=.ok y (m++[.lst xs])) (hy:getL (m++[.lst xs]) y=some ys) (hl:xs.length+ys.length<=1000) (hp:ak (xs++ys)=true) :
  ai C (.frz (.bin .Add a b)) ρ m=.ok (.fz (xs++ys)) m:=by
 refine sF (m0:=m) (l:=[.lst xs,.lst (xs++ys)]) (j:=m.length+1) ?_ rfl hm (by omega) (by simp) hp;rw [eX,ha];simp only [ao,hb];rw [sP (xs:=xs) (ys:=ys) (by simp [getL]) hy (by simp only [lim]; omega)];simp
theorem fD (hi:ρ[i]?=some (some (.ref q))) (hq:m[q]?=some (.lst xs)) (he:ai C e ρ m=.ok w m) (hl:xs.length<=1000):bN C (.expr (.meth (.var i) "append" (.cons e .nil))) ρ m=.ok (.nx ρ) (m.set q (.lst (xs++[w]))):=by
 have hk:kdOf m (.ref q)=iI "append":=by simp only [kdOf,hq]; decide
 refine bX (w:=.non) ?_;rw [dH,aq,hi];simp only [ao,au,he,ay];rw [if_pos hk];simp only [br,hq,dJ,if_true,gY];rw [if_pos (by simp only [lim]; omega)]
theorem yI {f:Str} {k:Nat} (hm:Cm m) (h0:ρ[0]?=some (some (bJ ks rl lm af ps ts))) (h1:∀M,g6 pg.cs (bJ ks rl lm af ps ts) f M=some k) (h2:∀M,aH (D.runN pg (n+1) k) [bJ ks rl lm af ps ts] M=.ok (.ref M.length) (M++[.lst xs])) (hp:ak xs=true) :
  ai (Cn pg (n+1)) (.frz (.mth (.var 0) f .nil)) ρ m=.ok (.fz xs) m:=by
 refine bL (m0:=m) ?_ rfl hm hp;rw [ng,aq,h0];simp only [ao,h1,ay,h2]
theorem A9:ai C (.lst (.cons (.cst w) .nil)) ρ m=.ok (.ref m.length) (m++[.lst [w]]):=by
 simp only [dU,au,ay,aJ,ao];rw [if_pos (by simp [lim])];rfl
theorem jf (hm:Cm m) (h:ak xs=true):Cm (m++[.lst xs]):=hm.push (bA _ h)
theorem jt (h:ak xs=true):Cm [O.lst xs]:=jf Cm.nil h
theorem dY (h:∀r∈rs,jC r):ak (rs.map W.fz)=true:=bE.mpr λ w hw=>by
 obtain ⟨r,hr,rfl⟩:=List.mem_map.mp hw;exact (h r hr).pure
theorem E5 (h1:i < xs.length) (h2:i < ys.length):Src.get (.zip [.tup xs,.tup ys]) m i=.it (.tup [xs[i],ys[i]]):=by
 simp only [Src.get,Src.jm,getElem?_eq_getElem h1,getElem?_eq_getElem h2]
theorem Ba (h1:¬i < xs.length) (h2:¬i < ys.length):Src.get (.zip [.tup xs,.tup ys]) m i=.fin:=by
 simp only [Src.get,Src.jm,getElem?_eq_none (Nat.le_of_not_lt h1),getElem?_eq_none (Nat.le_of_not_lt h2)]
theorem pK (hr:∀r∈rs,jC r) (hl:rs.length<=900) (he:ai C e ρ m=.ok (.fz (rs.map λ r=>.str (bG r++"\n"))) m):ai C (.meth (.cst (.str "")) "join" (.cons e .nil)) ρ m=.ok (.str (dX rs)) m:=by
 have h1:("\n":Str).length=1:=by decide +kernel
 have e2:=kj (s:="") (w:=.fz (rs.map λ r=>.str (bG r++"\n"))) (zs:=rs.map λ r=>bG r++"\n") (m:=m) (k:=91) (by simp only [getL,map_map]; rfl) LX (λ z hz=>by
  obtain ⟨r,hrr,rfl⟩:=List.mem_map.mp hz;have:=iD (hr r hrr);rw [gq,h1]; omega) (by rw [length_map]; omega)
 rw [dH,aJ,ao,if_pos nE,au,he];simp only [ao,ay,e2];rfl
end
section
variable {n:Nat} {m:Mem} {ks rl lm:List Str} {af:Nat} {ps:List Pc} {ts:List (List Int)}
abbrev tD (N:W) (a2 a3 a4:Option W):D.Loc:=[some N,some (.ref 0),a2,a3,a4,none]
theorem pL {β:Type} {xs:List α} {ys:List β} (h1:i < xs.length) (h2:i < ys.length):(xs.zip ys).take (i+1)=(xs.zip ys).take i++[(xs[i],ys[i])]:=by
 rw [take_add_one,getElem?_eq_getElem (by simp; omega),getElem_zip];rfl
theorem gJ {x y:O}:[x].set 0 y=[y]:=rfl
theorem jg {l:List α} {x:α} (h:x∈l.take i):x∈l:=mem_of_mem_take h
theorem pM (o:bH ks rl lm af ps ts):aH (D.runN pg (n+1+1) 21) [bJ ks rl lm af ps ts] m=.ok (.str (dX (ck ks rl lm af ps ts))) m:=by
 have hk2:=o.k2;have Fo:=o.r4;have hl2:=o.l2;have LY:=o.p8;have Fp:=o.tl;have K1:∀{M:Mem} {ρ:D.Loc},Cm M->ρ[0]?=some (some (bJ ks rl lm af ps ts))->ai (Cn pg (n+1)) (.frz (.mth (.var 0) "key_words" .nil)) ρ M=.ok (bM ks) M:=λ hm h=>yI (k:=1) hm h (λ _=>rfl) (λ _=>dw rfl rfl rfl (aX _)) (aX _);have K2:∀{M:Mem} {ρ:D.Loc},Cm M->ρ[0]?=some (some (bJ ks rl lm af ps ts))->ai (Cn pg (n+1)) (.frz (.mth (.var 0) "relays" .nil)) ρ M=.ok (bM rl) M:=λ hm h=>yI (k:=2) hm h (λ _=>rfl) (λ _=>dw rfl rfl rfl (aX _)) (aX _);have K3:∀{M:Mem} {ρ:D.Loc},Cm M->ρ[0]?=some (some (bJ ks rl lm af ps ts))->ai (Cn pg (n+1)) (.frz (.mth (.var 0) "lamps" .nil)) ρ M=.ok (bM lm) M:=λ hm h=>yI (k:=3) hm h (λ _=>rfl) (λ _=>dw rfl rfl rfl (aX _)) (aX _);have K4:∀{M:Mem} {ρ:D.Loc},Cm M->ρ[0]?=some (some (bJ ks rl lm af ps ts))->ai (Cn pg (n+1)) (.frz (.mth (.var 0) "pieces" .nil)) ρ M=.ok (.fz (ps.map bP)) M:=λ hm h=>yI (k:=5) hm h (λ _=>rfl) (λ _=>dw rfl rfl rfl (bR _)) (bR _);have K5:∀{M:Mem} {ρ:D.Loc},Cm M->ρ[0]?=some (some (bJ ks rl lm af ps ts))->ai (Cn pg (n+1)) (.frz (.mth (.var 0) "times" .nil)) ρ M=.ok (.fz (ts.map tupI)) M:=λ hm h=>yI (k:=6) hm h (λ _=>rfl) (λ _=>dw rfl rfl rfl (dm _)) (dm _);have K6:∀{M:Mem} {ρ:D.Loc},Cm M->ρ[0]?=some (some (bJ ks rl lm af ps ts))->ai (Cn pg (n+1)) (.frz (.mth (.var 0) "nodes" .nil)) ρ M=.ok (.int af) M:=λ {M ρ} hm h=>by
  refine AJ (m0:=M) ?_ rfl hm rfl;rw [ng,aq,h];have e:g6 pg.cs (bJ ks rl lm af ps ts) "nodes" M=some 4:=rfl;simp only [ao,e,ay];exact aU (m1:=[]) (by simp only [ak,iA]; rfl) (bw (d:=⟨1,1,b4⟩) rfl rfl (by
   show aK _ b4 [some (bJ ks rl lm af ps ts)] []=_;rw [b4,aY (bq (w:=.int af) (m1:=[]) (by rw [nh,aq]; rfl))])) rfl
 generalize hN:bJ ks rl lm af ps ts=N at K1 K2 K3 K4 K5 K6 ⊢;have LS:aD N=true:=by rw [<-hN]; exact iA
 refine aU (m1:=[.lst ((ck ks rl lm af ps ts).map .fz)]) (by simp only [ak,LS]; rfl) ?_ rfl;refine bw (d:=⟨1,6,Jc⟩) rfl rfl ?_;show aK _ Jc [some N,none,none,none,none,none] []=_;have s1:=uY (C:=Cn pg (n+1)) (a:=.lst (.cons (.cst (.str "keys")) .nil)) (b:=.frz (.mth (.var 0) "key_words" .nil)) (ρ:=[some N,none,none,none,none,none]) (m:=[]) (xs:=[.str "keys"]) (y:=bM ks) (ys:=ks.map .str) Cm.nil A9 (K1 (jt rfl) rfl) rfl (by simp; omega) (rk o).pure;rw [Jc,aj (ρ1:=tD N none none none) (m1:=[.lst [.fz (.str "keys"::ks.map .str)]]) (aI (w:=.ref 0) (by
  simp only [dU,au];rw [s1];simp only [ao,ay];rw [if_pos (by simp [lim])];rfl) rfl)]
 have LZ:Cm [O.lst [.fz (.str "keys"::ks.map .str)]]:=jt (dY (rs:=[_]) λ r hr=>by rw [mem_singleton] at hr; subst hr; exact rk o);have hI:cz (Cn pg (n+1)) (.zip (.cons (.frz (.mth (.var 0) "relays" .nil)) (.cons (.frz (.mth (.var 0) "times" .nil)) .nil))) (tD N none none none) [.lst [.fz (.str "keys"::ks.map .str)]]=.ok (.zip [.tup (rl.map .str),.tup (ts.map tupI)]) [.lst [.fz (.str "keys"::ks.map .str)]]:=by
  simp only [cz,au,ay];rw [K2 LZ rfl];simp only [ao];rw [K5 LZ rfl];rfl
 obtain ⟨ρ1,m1,f1,a2,a3,rfl,rfl⟩:=cJ (C:=Cn pg (n+1)) (t:=.tup (.cons (.var 2) (.cons (.var 3) .nil))) (b:=yd) hI (n:=rl.length) (by simp [Src.len,Src.lens,Fp])
  (λ i ρ M=>∃a2 a3,ρ=tD N a2 a3 none/\M=[.lst (((.str "keys"::ks.map .str)::((rl.zip ts).take i).map f9).map .fz)]) ⟨none,none,rfl,rfl⟩ (λ i ρ M hi=>by
   rintro ⟨a2,a3,rfl,rfl⟩;have hi2:i < ts.length:=by omega
   have Lj:jC (f9 (rl[i],ts[i])):=rr o (by rw [mem_iff_getElem]; exact ⟨i,by simp; omega,by simp⟩);have yJ:Cm [O.lst (((.str "keys"::ks.map .str)::((rl.zip ts).take i).map f9).map .fz)]:=jt (dY λ r hr=>by
    rcases List.mem_cons.mp hr with rfl | hr
    ·exact rk o
    ·obtain ⟨p,hp,rfl⟩:=List.mem_map.mp hr;exact rr o (jg hp))
   refine ⟨.tup [.str rl[i],tupI ts[i]],tD N (some (.str rl[i])) (some (tupI ts[i])) none,tD N (some (.str rl[i])) (some (tupI ts[i])) none,_,?_,rfl,.inl ?_,_,_,rfl,rfl⟩
   ·rw [E5 (by simpa using hi) (by simpa using hi2),getElem_map,getElem_map]
   ·have ny:=uY (C:=Cn pg (n+1)) (a:=.lst (.cons (.cst (.str "relay")) (.cons (.var 2) .nil))) (b:=.frz (.blt .list (.cons (.var 3) .nil))) (ρ:=tD N (some (.str rl[i])) (some (tupI ts[i])) none) (m:=[.lst (((.str "keys"::ks.map .str)::((rl.zip ts).take i).map f9).map .fz)]) (xs:=[.str "relay",.str rl[i]]) (y:=.fz (ts[i].map .int)) (ys:=ts[i].map .int) yJ (by
     simp only [dU,au,ay,aJ,aq,aO,aP,aQ,aS,ao];rw [if_pos (by simp [lim])];rfl) (by
     refine bL (m0:=_++_) ?_ rfl (jf yJ rfl) (dS _);simp only [cF,au,ay,aq,aO,aP,aQ,aS,ao];rfl) rfl (by have:=(tB (o.tm _ (getElem_mem hi2))).1; simp; omega) Lj.pure
    rw [yd,aj (fD (q:=0) rfl rfl ny (by simp; omega)),aA,pL hi hi2,gJ];simp only [map_append,map_cons,map_nil,cons_append]
    try rfl)
  (fun ρ M _=>Ba (by simp) (by simp; omega))
 have ht:(rl.zip ts).take rl.length=rl.zip ts:=take_of_length_le (by rw [length_zip]; omega);rw [aj f1,ht];have JC:∀r∈(W.str "keys"::ks.map .str)::(rl.zip ts).map f9,jC r:=λ r hr=>gr o r (by
  unfold ck;rcases List.mem_cons.mp hr with rfl | hr
  ·exact mem_cons_self
  ·exact mem_cons_of_mem _ (mem_append_left _ hr))
 have G8:((W.str "keys"::ks.map W.str)::(rl.zip ts).map f9).length<=10:=by simp; omega
 have tE:ck ks rl lm af ps ts=((W.str "keys"::ks.map .str)::(rl.zip ts).map f9)++((.str "lamps"::lm.map .str)::[.str "nodes",.int af]::ps.map nJ):=rfl;generalize hG:(W.str "keys"::ks.map W.str)::(rl.zip ts).map f9=R1 at JC G8 tE ⊢;have yJ:Cm [O.lst (R1.map .fz)]:=jt (dY JC);have s2:=uY (C:=Cn pg (n+1)) (a:=.lst (.cons (.cst (.str "lamps")) .nil)) (b:=.frz (.mth (.var 0) "lamps" .nil)) (ρ:=tD N a2 a3 none) (m:=[.lst (R1.map .fz)]) (xs:=[.str "lamps"]) (y:=bM lm) (ys:=lm.map .str) yJ A9 (K3 (jf yJ rfl) rfl) rfl (by simp; omega) (Ft o).pure;rw [aj (fD (q:=0) rfl rfl s2 (by simp; omega)),gJ];have MP:∀r∈R1++[W.str "lamps"::lm.map .str],jC r:=λ r hr=>by
  rcases List.mem_append.mp hr with hr | hr
  ·exact JC r hr
  ·rw [mem_singleton] at hr; subst hr; exact Ft o
 have e2:(R1.map W.fz++[.fz (.str "lamps"::lm.map .str)])=(R1++[W.str "lamps"::lm.map .str]).map .fz:=by simp
 show aK _ _ _ [O.lst (R1.map W.fz++[.fz (.str "lamps"::lm.map .str)])]=_;rw [e2];have L0:Cm [O.lst ((R1++[W.str "lamps"::lm.map .str]).map .fz)]:=jt (dY MP);have s3:ai (Cn pg (n+1)) (.frz (.lst (.cons (.cst (.str "nodes")) (.cons (.frz (.mth (.var 0) "nodes" .nil)) .nil)))) (tD N a2 a3 none) [.lst ((R1++[W.str "lamps"::lm.map .str]).map .fz)]=.ok (.fz [.str "nodes",.int af]) [.lst ((R1++[W.str "lamps"::lm.map .str]).map .fz)]:=by
  refine bL ?_ rfl L0 rfl;simp only [dU,au,ay,aJ,ao];rw [K6 L0 rfl];simp only [ao];rw [if_pos (by simp [lim])];rfl
 rw [aj (fD (q:=0) rfl rfl s3 (by simp; omega)),gJ];have e3:((R1++[W.str "lamps"::lm.map .str]).map W.fz++[.fz [.str "nodes",.int af]])=(R1++[W.str "lamps"::lm.map .str,[.str "nodes",.int af]]).map .fz:=by simp
 rw [e3];have Lk:∀r∈R1++[W.str "lamps"::lm.map .str,[.str "nodes",.int af]],jC r:=λ r hr=>by
  rcases List.mem_append.mp hr with hr | hr
  ·exact JC r hr
  ·simp only [mem_cons,not_mem_nil,or_false] at hr;rcases hr with rfl | rfl
   ·exact Ft o
   ·exact rn o
 have Ll:(R1++[W.str "lamps"::lm.map .str,[.str "nodes",.int af]]).length<=12:=by simp; omega
 have yK:ck ks rl lm af ps ts=(R1++[W.str "lamps"::lm.map .str,[.str "nodes",.int af]])++ps.map nJ:=by rw [tE]; simp
 generalize R1++[W.str "lamps"::lm.map W.str,[.str "nodes",.int af]]=R3 at Lk Ll yK ⊢;have Fv:Cm [O.lst (R3.map .fz)]:=jt (dY Lk);have MQ:cz (Cn pg (n+1)) (.frz (.mth (.var 0) "pieces" .nil)) (tD N a2 a3 none) [.lst (R3.map .fz)]=.ok (.tup (ps.map bP)) [.lst (R3.map .fz)]:=by
  rw [j6,K4 Fv rfl]; rfl
 obtain ⟨ρ2,m2,f2,a4,rfl,rfl⟩:=cJ (C:=Cn pg (n+1)) (t:=.var 4) (b:=ye) MQ (n:=ps.length) (by simp [Src.len])
  (λ i ρ M=>∃a4,ρ=tD N a2 a3 a4/\M=[.lst ((R3++(ps.take i).map nJ).map .fz)]) ⟨none,rfl,by simp⟩ (λ i ρ M hi=>by
   rintro ⟨a4,rfl,rfl⟩;have Lm:Cm [O.lst ((R3++(ps.take i).map nJ).map .fz)]:=jt (dY λ r hr=>by
    rcases List.mem_append.mp hr with hr | hr
    ·exact Lk r hr
    ·obtain ⟨p,hp,rfl⟩:=List.mem_map.mp hr;exact rp o (jg hp))
   refine ⟨bP ps[i],tD N a2 a3 (some (bP ps[i])),tD N a2 a3 (some (bP ps[i])),_,?_,rfl,.inl ?_,_,rfl,rfl⟩
   ·rw [bf (by simpa using hi),getElem_map]
   ·have hl:ai (Cn pg (n+1)) (.frz (.blt .list (.cons (.var 4) .nil))) (tD N a2 a3 (some (bP ps[i]))) [.lst ((R3++(ps.take i).map nJ).map .fz)]=.ok (.fz (nJ ps[i])) [.lst ((R3++(ps.take i).map nJ).map .fz)]:=by
     refine bL ?_ rfl Lm (rp o (getElem_mem hi)).pure;simp only [cF,au,ay,aq,aO,aP,aQ,aS,ao];rfl
    rw [ye,aj (fD (q:=0) rfl rfl hl (by simp; omega)),aA,gJ,take_add_one,getElem?_eq_getElem hi];simp only [Option.toList,map_append,map_cons,map_nil,append_assoc]
    try rfl)
  (fun ρ M _=>aM (by simp))
 rw [take_length,<-yK] at f2;rw [aj f2];have qX:=gr o;have Ce:=ko o;generalize ck ks rl lm af ps ts=RR at qX Ce ⊢;have Lm:Cm [O.lst (RR.map .fz)]:=jt (dY qX);have qO:=eK (C:=Cn pg (n+1)) (i:=5) (js:=[5]) (it:=.var 1) (e:=.call 22 (.cons (.var 5) .nil)) (ρ:=tD N a2 a3 a4) (m:=[.lst (RR.map .fz)]) (xs:=RR.map .fz) (s:=.lst 0) (g:=λ w=>match w with | .fz r=>W.str (bG r++"\n") | w=>w) Lm (by rw [eY,aq]; rfl) (λ j=>cR rfl j) rfl (λ x hx=>by
  obtain ⟨r,hr,rfl⟩:=List.mem_map.mp hx;simp only [bY,bI,aO,aP,aQ,aS,yF (qX r hr).ok (qX r hr).len];rfl) (λ x hx=>by
  obtain ⟨r,hr,rfl⟩:=List.mem_map.mp hx;rfl) (by simp [lim]; omega)
 rw [map_map] at qO;exact aY (bq (pK qX (by omega) qO))
end
section
variable {n:Nat} {m:Mem} {ks rl lm:List Str} {af:Nat} {ps:List Pc} {ts:List (List Int)}
theorem Bb (zs:List Str):(zs.map W.str).map sW=zs:=by
 rw [map_map];exact map_id' zs
theorem Bc (hr:jC r) (he:ai C e ρ m=.ok (.fz ((r.map sW).map .str)) m):ai C (.meth (.cst (.str " ")) "join" (.cons e .nil)) ρ m=.ok (.str (bG r)) m:=by
 have e2:=kj (s:=" ") (w:=.fz ((r.map sW).map .str)) (zs:=r.map sW) (m:=m) (k:=8) rfl Li (λ z hz=>(iV hr.ok z hz).hi) (by have:=hr.len; rw [length_map]; omega);rw [dH,aJ,ao,if_pos nE,au,he];simp only [ao,ay,e2];rfl
abbrev pQ (ks rl lm:List Str) (af:Nat) (ps:List Pc) (ts:List (List Int)) (a7 a8:Option W):D.Loc:=[some (jc ks rl lm af ps ts),some (bM ks),some (bM rl),some (bM lm),some (.int af),some (.fz (ps.map bP)),some (.fz (ts.map tupI)),a7,a8,none,none,none,none]
theorem gu:ak (rs.map λ r=>W.str (bG r))=true:=ig (λ _=>rfl) rs
theorem uZ {k:Nat}:("nodes ":Str)++nS k=bG [.str "nodes",.int k]:=by
 show _=Str.join " " ["nodes",nS k];rw [f6,Str.join.eq_2];congr 1
theorem yL (o:bH ks rl lm af ps ts):aH (D.runN pg (n+1) 41) [jc ks rl lm af ps ts] m=.ok (.str (dX (ck ks rl lm af ps ts))) m:=by
 have hk2:=o.k2;have Fo:=o.r4;have hl2:=o.l2;have LY:=o.p8;have Fp:=o.tl;refine aU (m1:=[.lst (((((W.str "keys"::ks.map .str)::(rl.zip ts).map f9)++[W.str "lamps"::lm.map .str,[.str "nodes",.int af]])).map λ r=>.str (bG r))]) (by simp only [ak,sV]; rfl) ?_ rfl;refine bw (d:=⟨1,13,Js⟩) rfl rfl ?_;show aK _ Js [some (jc ks rl lm af ps ts),none,none,none,none,none,none,none,none,none,none,none,none] []=_;rw [Js,aj (ρ1:=pQ ks rl lm af ps ts none none) (m1:=[]) (by simp only [bN,bI,aO,aP,aQ,aS]; rfl)];have s1:=Bc (C:=Cn pg n) (m:=[]) (ρ:=pQ ks rl lm af ps ts none none) (rk o) (uY (C:=Cn pg n) (a:=.lst (.cons (.cst (.str "keys")) .nil)) (b:=.var 1) (ρ:=pQ ks rl lm af ps ts none none) (m:=[]) (xs:=[.str "keys"]) (y:=bM ks) (ys:=ks.map .str) Cm.nil A9 (by simp only [aq,aO,aP,aQ,aS]) rfl (by simp; omega) (rk o).pure |>.trans (by rw [map_cons,Bb]; rfl));rw [aj (ρ1:=pQ ks rl lm af ps ts (some (.ref 0)) none) (m1:=[.lst [.str (bG (.str "keys"::ks.map .str))]]) (aI (w:=.ref 0) (by
  simp only [dU,au];rw [s1];simp only [ao,ay];rw [if_pos (by simp [lim])];rfl) rfl)]
 have hI:cz (Cn pg n) (.rng (.blt .len (.cons (.var 2) .nil))) (pQ ks rl lm af ps ts (some (.ref 0)) none) [.lst [.str (bG (.str "keys"::ks.map .str))]]=.ok (.rng 0 rl.length) [.lst [.str (bG (.str "keys"::ks.map .str))]]:=uM (by
  have:=fX (m:=[O.lst [.str (bG (.str "keys"::ks.map .str))]]) (w:=bM rl) (xs:=rl.map .str) rfl;rw [length_map] at this;simp only [bI,aO,aP,aQ,aS,this]) (by omega)
 obtain ⟨ρ1,m1,f1,a8,rfl,rfl⟩:=cJ (C:=Cn pg n) (t:=.var 8) (b:=yf) hI (n:=rl.length) rfl
  (λ i ρ M=>∃a8,ρ=pQ ks rl lm af ps ts (some (.ref 0)) a8/\M=[.lst (((W.str "keys"::ks.map .str)::((rl.zip ts).take i).map f9).map λ r=>.str (bG r))]) ⟨none,rfl,rfl⟩ (λ i ρ M hi=>by
   rintro ⟨a8,rfl,rfl⟩;have hi2:i < ts.length:=by omega
   have Lj:jC (f9 (rl[i],ts[i])):=rr o (by rw [mem_iff_getElem]; exact ⟨i,by simp; omega,by simp⟩);have MR:=tB (o.tm _ (getElem_mem hi2));have yJ:Cm [O.lst (((W.str "keys"::ks.map .str)::((rl.zip ts).take i).map f9).map λ r=>.str (bG r))]:=jt gu;refine ⟨.int (0+i),pQ ks rl lm af ps ts (some (.ref 0)) (some (.int i)),pQ ks rl lm af ps ts (some (.ref 0)) (some (.int i)),_,fu hi,by simp [aV],.inl ?_,_,rfl,rfl⟩;generalize hM:[O.lst (((W.str "keys"::ks.map W.str)::((rl.zip ts).take i).map f9).map λ r=>.str (bG r))]=M at yJ;have i1:∀M:Mem,bh (bM rl) (.int i) M=.ok (.str rl[i]) M:=λ M=>by
    have:=eG (m:=M) (w:=bM rl) (xs:=rl.map .str) (i:=i) rfl (by simpa using hi);rw [this,getElem_map]
   have i2:∀M:Mem,bh (.fz (ts.map tupI)) (.int i) M=.ok (tupI ts[i]) M:=λ M=>by
    have:=eG (m:=M) (w:=.fz (ts.map tupI)) (xs:=ts.map tupI) (i:=i) rfl (by simpa using hi2);rw [this,getElem_map]
   have ny:=uY (C:=Cn pg n) (a:=.lst (.cons (.cst (.str "relay")) (.cons (.idx (.var 2) (.var 8)) .nil))) (b:=.frz (.comp (.gen (.var 9) [9] (.idx (.var 6) (.var 8)) .nil (.elt (.blt .str (.cons (.var 9) .nil)))))) (ρ:=pQ ks rl lm af ps ts (some (.ref 0)) (some (.int i))) (m:=M) (xs:=[.str "relay",.str rl[i]]) (y:=.fz (((ts[i].map .int).map sW).map .str)) (ys:=((ts[i].map .int).map sW).map .str) yJ (by
     simp only [dU,au,ay,aJ,cU,aq,aO,aP,aQ,aS,ao,i1];rw [if_pos (by simp [lim])];rfl) (iW (s:=.tup (ts[i].map .int)) (jf yJ rfl) (by rw [Hz]; simp only [cU,aq,aO,aP,aQ,aS,ao,i2]; rfl) (λ _=>rfl) rfl (by simp [bY]) (E4 MR.2) (by simp; omega)) rfl (by simp; omega) (by rw [sE,aX]; rfl)
   have:=Bc (C:=Cn pg n) (m:=M) (ρ:=pQ ks rl lm af ps ts (some (.ref 0)) (some (.int i))) Lj (ny.trans (by simp only [map_cons]; rfl));subst hM;rw [yf,aj (fD (q:=0) rfl rfl this (by simp; omega)),aA,pL hi hi2,gJ];simp only [map_append,map_cons,map_nil,cons_append])
  (fun ρ M _=>d7 (by omega))
 have ht:(rl.zip ts).take rl.length=rl.zip ts:=take_of_length_le (by rw [length_zip]; omega);rw [aj f1,ht];have G8:((W.str "keys"::ks.map W.str)::(rl.zip ts).map f9).length<=10:=by simp; omega
 have tE:ck ks rl lm af ps ts=(((W.str "keys"::ks.map .str)::(rl.zip ts).map f9)++[W.str "lamps"::lm.map .str,[.str "nodes",.int af]])++ps.map nJ:=by simp [ck]
 have qX:=gr o;have Ce:=ko o;rw [tE] at qX Ce ⊢;generalize (W.str "keys"::ks.map W.str)::(rl.zip ts).map f9=R1 at G8 qX Ce ⊢;have yJ:Cm [O.lst (R1.map λ r=>.str (bG r))]:=jt gu;have s2:=Bc (C:=Cn pg n) (m:=[.lst (R1.map λ r=>.str (bG r))]) (ρ:=pQ ks rl lm af ps ts (some (.ref 0)) a8) (Ft o) (uY (C:=Cn pg n) (a:=.lst (.cons (.cst (.str "lamps")) .nil)) (b:=.var 3) (ρ:=pQ ks rl lm af ps ts (some (.ref 0)) a8) (m:=[.lst (R1.map λ r=>.str (bG r))]) (xs:=[.str "lamps"]) (y:=bM lm) (ys:=lm.map .str) yJ A9 (by simp only [aq,aO,aP,aQ,aS]) rfl (by simp; omega) (Ft o).pure |>.trans (by rw [map_cons,Bb]; rfl));rw [aj (fD (q:=0) rfl rfl s2 (by simp; omega)),gJ];have s3:∀M:Mem,ai (Cn pg n) (.bin .Add (.cst (.str "nodes ")) (.blt .str (.cons (.var 4) .nil))) (pQ ks rl lm af ps ts (some (.ref 0)) a8) M=.ok (.str (bG [.str "nodes",.int af])) M:=λ M=>by
  have h6:("nodes ":Str).length=6:=by decide +kernel
  have hz:=(nz o.n6).hi;simp only [bI,aO,aP,aQ,aS,sZ (ki.nu o.n6),sW,binop];rw [if_pos (by rw [h6,iy]; simp only [lim]; omega),uZ]
 rw [aj (fD (q:=0) rfl rfl (s3 _) (by simp; omega)),gJ];have e3:(R1.map (λ r=>W.str (bG r))++[.str (bG (.str "lamps"::lm.map .str))])++[.str (bG [.str "nodes",.int af])]=(R1++[W.str "lamps"::lm.map .str,[.str "nodes",.int af]]).map λ r=>.str (bG r):=by simp
 rw [e3];have Ll:(R1++[W.str "lamps"::lm.map .str,[.str "nodes",.int af]]).length<=12:=by simp; omega
 generalize R1++[W.str "lamps"::lm.map W.str,[.str "nodes",.int af]]=R3 at Ll qX Ce ⊢;have Fv:Cm [O.lst (R3.map λ r=>.str (bG r))]:=jt gu;have jA:=eK (C:=Cn pg n) (i:=10) (js:=[10]) (it:=.var 5) (e:=.meth (.cst (.str " ")) "join" (.cons (.frz (.comp (.gen (.var 11) [11] (.var 10) .nil (.elt (.blt .str (.cons (.var 11) .nil)))))) .nil)) (ρ:=pQ ks rl lm af ps ts (some (.ref 0)) a8) (m:=[.lst (R3.map λ r=>.str (bG r))]) (xs:=ps.map bP) (s:=.tup (ps.map bP)) (g:=λ w=>match w with | .tup r=>W.str (bG r) | w=>w) Fv (by rw [eY,aq]; rfl) (λ _=>rfl) rfl (λ x hx=>by
  obtain ⟨p,hp,rfl⟩:=List.mem_map.mp hx;refine Bc (rp o hp) (iW (s:=.tup (nJ p)) Fv (by rw [eY,aq]; simp only [bY,aO,aP,aQ,aS]; rfl) (λ _=>rfl) rfl (by simp [bY]) (rp o hp).ok (Nat.le_trans (rp o hp).len (by decide)))) (λ x hx=>by
  obtain ⟨p,hp,rfl⟩:=List.mem_map.mp hx;rfl) (by simp [lim]; omega)
 rw [map_map] at jA;have ny:=uR (C:=Cn pg n) (a:=.var 7) (ρ:=pQ ks rl lm af ps ts (some (.ref 0)) a8) (m:=[.lst (R3.map λ r=>.str (bG r))]) (x:=.ref 0) (xs:=R3.map λ r=>.str (bG r)) Fv (by simp only [aq,aO,aP,aQ,aS]) jA rfl rfl (by simp [lim]; omega) (by rw [sE,gu]; exact ig (λ _=>rfl) ps);have e4:(R3.map (λ r=>W.str (bG r))++ps.map ((λ w=>match w with | .tup r=>W.str (bG r) | w=>w)∘bP))=(R3++ps.map nJ).map λ r=>.str (bG r):=by
  rw [map_append,map_map];rfl
 rw [e4] at ny;rw [aj (aI ny rfl)];generalize R3++ps.map nJ=RR at qX Ce ⊢;have qO:=eK (C:=Cn pg n) (i:=12) (js:=[12]) (it:=.var 7) (e:=.bin .Add (.var 12) (.cst (.str "\n"))) (ρ:=pQ ks rl lm af ps ts (some (.fz (RR.map λ r=>.str (bG r)))) a8) (m:=[.lst (R3.map λ r=>.str (bG r))]) (xs:=RR.map λ r=>.str (bG r)) (s:=.tup (RR.map λ r=>.str (bG r))) (g:=λ w=>match w with | .str z=>W.str (z++"\n") | w=>w) Fv (by rw [eY,aq]; rfl) (λ _=>rfl) rfl (λ x hx=>by
  obtain ⟨r,hr,rfl⟩:=List.mem_map.mp hx;have:=iD (qX r hr);simp only [bY,bI,aO,aP,aQ,aS];exact yE (by omega)) (λ x hx=>by
  obtain ⟨r,hr,rfl⟩:=List.mem_map.mp hx;rfl) (by simp [lim]; omega)
 rw [map_map] at qO;exact aY (bq (pK qX (by omega) qO))
end
theorem tF:∀{ts:List Str},c∈(Str.join s ts).cps.toList->c∈s.cps.toList\/∃t∈ts,c∈t.cps.toList:=by
 intro ts
 induction ts with
 | nil=>intro h; rw [Str.join.eq_1] at h; exact absurd h (by show c∉([]:List Nat); simp)
 | cons t r ih=>
  intro h;cases r with
  | nil=>rw [Str.join.eq_2] at h; exact .inr ⟨t,mem_cons_self,h⟩
  | cons u r=>
   rw [f6,app_list,app_list,mem_append,mem_append] at h;rcases h with (h | h) | h
   ·exact .inr ⟨t,mem_cons_self,h⟩
   ·exact .inl h
   ·rcases ih h with h | ⟨v,hv,h⟩
    ·exact .inl h
    ·exact .inr ⟨v,mem_cons_of_mem _ hv,h⟩
theorem Ln:(" ":Str)=⟨#[32]⟩:=by decide +kernel
theorem JD:("\n":Str)=⟨#[10]⟩:=by decide +kernel
theorem tG (h:jC r) (hc:c∈(bG r).cps.toList):c=32\/48<=c/\c<=122:=by
 rcases tF hc with h1 | ⟨t,ht,h1⟩
 ·rw [Ln] at h1; simp at h1; exact .inl h1
 ·exact .inr ((iV h.ok t ht).rg c h1)
theorem qY (h:rs≠[]):dX rs=Str.join "\n" (rs.map bG)++"\n":=by
 rw [<-join_rows (by simpa using h),map_map];rfl
theorem Bd (hr:∀r∈rs,jC r) (hl:rs.length<=900):(dX rs).length<=100000:=by
 have h1:("\n":Str).length=1:=by decide +kernel
 have:(dX rs).length<=(rs.map λ r=>bG r++"\n").length*91+(rs.map λ r=>bG r++"\n").length:=pI LX λ z hz=>by
  obtain ⟨r,hrr,rfl⟩:=List.mem_map.mp hz;have:=iD (hr r hrr);rw [gq,h1]; omega
 rw [length_map] at this;omega
theorem yM (hr:∀r∈rs,jC r):Sg (dX rs):=λ c hc=>by
 rcases tF hc with h1 | ⟨t,ht,h1⟩
 ·exact absurd h1 (by show c∉([]:List Nat); simp)
 ·obtain ⟨r,hrr,rfl⟩:=List.mem_map.mp ht;rw [app_list,mem_append] at h1;rcases h1 with h1 | h1
  ·have:=tG (hr r hrr) h1; omega
  ·rw [JD] at h1; simp at h1; omega
section
variable {n:Nat} {m:Mem} {C:D.Cx} {ρ:D.Loc}
theorem yN {t:T} {js:List Nat} {s:Src} {B:W->D.Loc} {g:W->W} (hI:cz C it ρ m=.ok s m) (hg:∀j,s.get m j=Src.get (.tup xs) m j) (hn:s.len m=xs.length) (h0:∀x∈xs,aV t x (bY js ρ)=some (B x)) (h1:∀x∈xs,∀y∈xs,aV t y (B x)=some (B y))
  (he:∀x∈xs,ai C e (B x) m=.ok (g x) m) (hl:xs.length<=1000):ai C (.comp (.gen t js it .nil (.elt e))) ρ m=.ok (.ref m.length) (m++[.lst (xs.map g)]):=by
 obtain ⟨ρ',hc⟩:=gm (C:=C) (get:=s.get) (t:=t) (ifs:=.nil) (e:=e) (ρ:=bY js ρ) (m:=m) (xs:=xs) (B:=B) (p:=λ _=>true) (g:=g) (λ j hj=>by rw [hg,bf hj]) (by rw [hg]; exact aM (by omega)) h0 h1 (λ x _=>by simp only [bz]) (λ x hx _=>he x hx) (by simp only [lim]; omega);rw [ir] at hc;exact dZ (js:=js) (ifs:=.nil) (g:=.elt e) hI (by rw [hn]; exact hc)
theorem lQ (hs:s=⟨#[c]⟩) (hz:z.length<=100000) (hm:Cm m) (he:ai C e ρ m=.ok (.str z) m):ai C (.frz (.meth e "split" (.cons (.cst (.str s)) .nil))) ρ m=.ok (.fz ((Txt.split z s).map .str)) m:=by
 refine bL (m0:=m) ?_ rfl hm (aX _);have hk:kdOf m (.str z)=iI "split":=by simp only [kdOf]; decide
 have h1:s.length=1:=by rw [hs]; rfl
 rw [dH,he];simp only [ao,au,ay,aJ];rw [if_pos hk];simp only [br,i9,String.reduceEq,if_false,if_true,jy];rw [if_pos ⟨h1,by simp only [lim]; omega⟩];rfl
abbrev aF (r:List W):W:=bM (r.map sW)
theorem qZ (h0:rs≠[]) (hr:∀r∈rs,jC r) (hr0:∀r∈rs,r≠[]) (hl:rs.length<=900):aH (D.runN pg (n+1) 24) [.str (dX rs)] m=.ok (.fz (rs.map aF)) m:=by
 refine aU (m1:=[]) rfl ?_ (by simp only [aD]; exact ig (λ r=>by simp only [aD]; exact aX _) rs);refine bw (d:=⟨1,2,Jf⟩) rfl rfl ?_;show aK _ Jf [some (.str (dX rs)),none] []=_;have hlen:=Bd hr hl;have hk:∀M:Mem,kdOf M (.str (dX rs))=iI "endswith":=λ M=>by simp only [kdOf]; decide
 have hT:aT (Cn pg n) (.not (.meth (.var 0) "endswith" (.cons (.cst (.str "\n")) .nil))) [some (.str (dX rs)),none] []=.ok false []:=by
  rw [fF,xW,dH,aq];simp only [aO,aP,aQ,aS,ao,au,ay,aJ];rw [if_pos (hk _)];simp only [br,i9,String.reduceEq,if_false,if_true,mG];rw [qY h0,A6];rfl
 have e1:ai (Cn pg n) (.slc (.var 0) .none (.some (.neg (.cst (.int 1))))) [some (.str (dX rs)),none] []=.ok (.str (Str.join "\n" (rs.map bG))) []:=by
  simp only [jb,aq,aO,aP,aQ,aS,ao,fC,dj,BY,aJ,cK];rw [if_pos (by simp only [lim]; omega),qY h0,yz]
 have MS:(Str.join "\n" (rs.map bG)).length<=100000:=by
  have:=qY h0;have h2:=gq (Str.join "\n" (rs.map bG)) "\n";rw [<-this] at h2;omega
 have e2:=lQ (C:=Cn pg n) JD MS Cm.nil e1;rw [JD,kh (by simpa using h0) (λ p hp=>by
  obtain ⟨r,hrr,rfl⟩:=List.mem_map.mp hp;intro hc;have:=tG (hr r hrr) hc;omega),<-JD] at e2
 have e3:=eK (C:=Cn pg n) (i:=1) (js:=[1]) (it:=.frz (.meth (.slc (.var 0) .none (.some (.neg (.cst (.int 1))))) "split" (.cons (.cst (.str "\n")) .nil))) (e:=.frz (.meth (.var 1) "split" (.cons (.cst (.str " ")) .nil))) (ρ:=[some (.str (dX rs)),none]) (m:=[]) (xs:=(rs.map bG).map .str) (s:=.tup ((rs.map bG).map .str)) (g:=λ w=>match w with | .str z=>bM (Txt.split z " ") | w=>w) Cm.nil (by rw [j6,e2]; rfl) (λ _=>rfl) rfl (λ x hx=>by
  rw [map_map] at hx;obtain ⟨r,hrr,rfl⟩:=List.mem_map.mp hx;exact lQ (C:=Cn pg n) (z:=bG r) Ln (by have:=iD (hr r hrr); omega) Cm.nil (by simp only [bY,aq,aO,aP,aQ,aS]; rfl)) (λ x hx=>by
  rw [map_map] at hx;obtain ⟨r,hrr,rfl⟩:=List.mem_map.mp hx;exact aX _) (by simp [lim]; omega)
 have e4:((rs.map bG).map W.str).map (λ w=>match w with | .str z=>bM (Txt.split z " ") | w=>w)=rs.map aF:=by
  rw [map_map,map_map];refine map_congr_left λ r hrr=>?_;show bM (Txt.split (bG r) " ")=bM (r.map sW);rw [bG,yD,Ln,kh (by simpa using hr0 r hrr) λ p hp=>(iV (hr r hrr).ok p hp).no (by decide)]
 rw [e4] at e3;rw [Jf,aj (by rw [dF hT,aA]),aY (bq e3)]
theorem nF (h:j < rs.length):bh (.fz (rs.map aF)) (.int j) m=.ok (aF rs[j]) m:=by
 have:=eG (m:=m) (w:=.fz (rs.map aF)) (xs:=rs.map aF) (i:=j) rfl (by simpa using h);rw [this,getElem_map]
theorem tH:bh (aF (w::r)) (.int 0) m=.ok (.str (sW w)) m:=by
 have:=eG (m:=m) (w:=aF (w::r)) (xs:=((w::r).map sW).map .str) (i:=0) rfl (by simp);exact this
abbrev H9:E:=.and (.cmp .Lt (.bin .Add (.var 1) (.cst (.int 1))) (.blt .len (.cons (.var 0) .nil))) (.cmp .Eq (.idx (.idx (.var 0) (.bin .Add (.var 1) (.cst (.int 1)))) (.cst (.int 0))) (.cst (.str "relay")))
theorem pN (h:rs[j+1]?=some (.str z::r)) (hz:Sg z):aT C H9 [some (.fz (rs.map aF)),some (.int j)] m=.ok (decide (z="relay")) m:=by
 obtain ⟨hlt,he⟩:=List.getElem?_eq_some_iff.mp h;have e1:bu .len [.fz (rs.map aF)] m=.ok (.int rs.length) m:=by
  have:=fX (m:=m) (w:=.fz (rs.map aF)) (xs:=rs.map aF) rfl;rw [length_map] at this;exact this
 have e2:bh (.fz (rs.map aF)) (.int ((j:Int)+1)) m=.ok (aF (.str z::r)) m:=by
  have:=nF (m:=m) hlt;rw [he] at this;exact this
 have e3:decide ((j:Int)+1 < rs.length)=true:=by simp; omega
 have hrl:Sg "relay":=wr.pz.sg;simp only [oW,cg,eX,aq,aJ,cF,cU,au,ay,aO,aP,aQ,aS,ao,kg,e1,e2,tH,aC,e3,if_true,sW,eqZ hz hrl]
theorem yO {R:Nat} (h:∀j,j < R->∃r,rs[j+1]?=some (.str "relay"::r)) (h1:∃z r,rs[R+1]?=some (.str z::r)/\Sg z/\z≠"relay"):∀k j f,j+k=R->k < f->eB (fun ρ m=>aT C H9 ρ m) (fun ρ m=>aK C sN ρ m) f [some (.fz (rs.map aF)),some (.int j)] m=.ok (.nx [some (.fz (rs.map aF)),some (.int R)]) m:=by
 intro k
 induction k with
 | zero=>
  intro j f hj hf;obtain ⟨f,rfl⟩:∃g,f=g+1:=⟨f - 1,by omega⟩;obtain rfl:j=R:=by omega
  obtain ⟨z,r,e,hz,hne⟩:=h1;rw [eB,pN e hz];simp only [ao,hne,decide_false,Bool.false_eq_true,if_false]
 | succ k ih=>
  intro j f hj hf;obtain ⟨f,rfl⟩:∃g,f=g+1:=⟨f - 1,by omega⟩;obtain ⟨r,e⟩:=h j (by omega);have e2:aK C sN [some (.fz (rs.map aF)),some (.int j)] m=.ok (.nx [some (.fz (rs.map aF)),some (.int (j+1:Nat))]) m:=by
   rw [sN,aj (ρ1:=[some (.fz (rs.map aF)),some (.int (j+1:Nat))]) (m1:=m) (by simp only [bN,aJ,ao,binop,aO,aP,aQ,aS]; rfl),aA]
  rw [eB,pN e wr.pz.sg];simp only [ao,decide_true,if_true,e2];exact ih (j+1) f (by omega) (by omega)
theorem q8 {R:Nat} (hR:R<=500) (hp:ak (rs.map aF)=true) (h:∀j,j < R->∃r,rs[j+1]?=some (.str "relay"::r)) (h1:∃z r,rs[R+1]?=some (.str z::r)/\Sg z/\z≠"relay"):aH (D.runN pg (n+1) 25) [.fz (rs.map aF)] m=.ok (.int R) m:=by
 refine aU (m1:=[]) (by simp only [ak,aD,hp]; rfl) ?_ rfl;refine bw (d:=⟨1,2,Jg⟩) rfl rfl ?_;show aK _ Jg [some (.fz (rs.map aF)),none] []=_;have e:=yO (C:=Cn pg n) (m:=[]) h h1 R 0 1000 (by omega) (by omega);rw [Jg,aj (ρ1:=[some (.fz (rs.map aF)),some (.int (0:Nat))]) (m1:=[]) (aI (w:=.int 0) (by simp only [aJ]) rfl),aj (s:=.while_ _ _) (ρ1:=[some (.fz (rs.map aF)),some (.int R)]) (m1:=[]) (by simp only [bN]; exact e),aY (bq (w:=.int R) (m1:=[]) (by simp only [aq,aO,aP,aQ,aS]))]
theorem q9 (hz:Wd z) (ht:t.length=4) (hi:∀i∈t,0<=i/\i<=640):aH (D.runN pg (n+1+1+1) 26) [aF (f9 (z,t))] m=.ok (.tup [.str z,tupI t]) m:=by
 refine aU (m1:=[]) (by simp only [ak,aD,Bool.and_true]; exact aX _) ?_ (by simp [aD,ak,dS]);refine bw (d:=⟨1,2,Jh⟩) rfl rfl ?_;show aK _ Jh [some (aF (f9 (z,t))),none] []=_;have hl:bu .len [aF (f9 (z,t))] []=.ok (.int 6) []:=by
  have:=fX (m:=[]) (w:=aF (f9 (z,t))) (xs:=((f9 (z,t)).map sW).map .str) rfl;rw [this];simp [ht]
 have hT:aT (Cn pg (n+1+1)) (.cmp .NotEq (.blt .len (.cons (.var 0) .nil)) (.cst (.int 6))) [some (aF (f9 (z,t))),none] []=.ok false []:=by
  simp only [cg,cF,aq,aJ,au,ay,aO,aP,aQ,aS,ao,hl,aC,yg];rfl
 have e1:ai (Cn pg (n+1+1)) (.frz (.slc (.var 0) (.some (.cst (.int 2))) .none)) [some (aF (f9 (z,t))),none] []=.ok (.fz (((t.map .int).map sW).map .str)) []:=by
  refine bL (m0:=[]) ?_ rfl Cm.nil (aX _);simp only [jb,aq,aJ,dj,fC,aO,aP,aQ,aS,ao,cK,getL,map_cons,HN,new]
 have e2:=eK (C:=Cn pg (n+1+1)) (i:=1) (js:=[1]) (it:=.frz (.slc (.var 0) (.some (.cst (.int 2))) .none)) (e:=.call 29 (.cons (.var 1) .nil)) (ρ:=[some (aF (f9 (z,t))),none]) (m:=[]) (xs:=((t.map .int).map sW).map .str) (s:=.tup (((t.map .int).map sW).map .str)) (g:=uX) Cm.nil (by rw [j6,e1]; rfl) (λ _=>rfl) rfl (λ x hx=>by
  simp only [map_map] at hx;obtain ⟨i,hii,rfl⟩:=List.mem_map.mp hx;have h0:=hi i hii;have hk:((i.toNat:Nat):Int)=i:=by omega
  have:=jd (n:=n) (m:=[]) (k:=i.toNat) (by omega);rw [hk] at this;show ai _ _ ([some _,none].set 1 (some (.str (nS i)))) []=.ok (uX (.str (sW (.int i)))) [];rw [je (.int h0.1 h0.2)];simp only [bI,aO,aP,aQ,aS,this]) (λ x hx=>by
  simp only [map_map] at hx;obtain ⟨i,hii,rfl⟩:=List.mem_map.mp hx;have h0:=hi i hii;show aD (uX (.str (sW (.int i))))=true;rw [je (.int h0.1 h0.2)];rfl) (by simp [lim]; omega)
 have e3:(((t.map W.int).map sW).map W.str).map uX=t.map .int:=by
  rw [map_map,map_map];refine (map_congr_left λ w hw=>?_).trans (map_id _);obtain ⟨i,hii,rfl⟩:=List.mem_map.mp hw;exact je (.int (hi i hii).1 (hi i hii).2)
 rw [e3] at e2;rw [Jh,aj (by rw [dF hT,aA]),aY (bq ?_)];have ix:bh (aF (f9 (z,t))) (.int 1) []=.ok (.str z) []:=by
  have:=eG (m:=[]) (w:=aF (f9 (z,t))) (xs:=((f9 (z,t)).map sW).map .str) (i:=1) rfl (by simp);exact this
 simp only [lM,au,ay,cU,aq,aJ,cF,aO,aP,aQ,aS,ao,ix];rw [e2];simp only [ao,bu,cu,getL];rw [if_pos (by simp [lim])]
theorem rj {k:Nat} (h:k<=640):aH (D.runN pg (n+1+1+1) 27) [aF [.str "nodes",.int k]] m=.ok (.int k) m:=by
 refine aU (m1:=[]) rfl ?_ rfl;refine bw (d:=⟨1,1,Ji⟩) rfl rfl ?_;show aK _ Ji [some (aF [.str "nodes",.int k])] []=_;have hl:bu .len [aF [.str "nodes",.int k]] []=.ok (.int 2) []:=rfl;have ix:bh (aF [.str "nodes",.int k]) (.int 1) []=.ok (.str (nS k)) []:=rfl;have hT:aT (Cn pg (n+1+1)) (.cmp .NotEq (.blt .len (.cons (.var 0) .nil)) (.cst (.int 2))) [some (aF [.str "nodes",.int k])] []=.ok false []:=by
  simp only [cg,cF,aq,aJ,au,ay,aO,aP,aQ,aS,ao,hl,aC,yg];rfl
 rw [Ji,aj (by rw [dF hT,aA]),aY (bq (w:=.int k) (m1:=[]) (by simp only [bI,aO,aP,aQ,aS,ix,jd h]))]
end
theorem E6 (h:b<=xs.length):cN xs none (some (b:Int))=xs.take b:=by
 have:HT.bT xs.length xs.length (some (b:Int))=b:=by rw [HT.jw]; omega
 rw [cN,this];simp [HT.bT]
theorem yP {a:Nat} (ha:a<=b) (h:b<=xs.length):cN xs (some (a:Int)) (some (b:Int))=(xs.drop a).take (b - a):=by
 have h1:HT.bT xs.length 0 (some (a:Int))=a:=by rw [HT.jw]; omega
 have h2:HT.bT xs.length xs.length (some (b:Int))=b:=by rw [HT.jw]; omega
 rw [cN,h1,h2]
theorem yQ {a:Nat} (h:a<=xs.length):cN xs (some (a:Int)) none=xs.drop a:=by
 have h1:HT.bT xs.length 0 (some (a:Int))=a:=by rw [HT.jw]; omega
 rw [cN,h1];exact take_of_length_le (by simp [HT.bT])
section
variable {n:Nat} {m:Mem} {ks rl lm:List Str} {af:Nat} {ps:List Pc} {ts:List (List Int)} {a b c d e:Nat}
theorem E7 (hm:Cm m) (h:Hd m a b c d e ks rl lm ps ts) (o:bH ks rl lm af ps ts) :
  ∃l,fR (Cn pg (n+1+1+1+1+1+1)) "Net" [.ref a,.ref b,.ref c,.int af,.ref d,.ref e] m=.ok (.ref m.length) (m++.ins "Net" (eH ks rl lm af ps ts)::l)/\Cm (m++.ins "Net" (eH ks rl lm af ps ts)::l):=by
 have hp:(m++[O.ins "Net" []])[m.length]?=some (.ins "Net" []):=by simp
 obtain ⟨l,h1,c1⟩:=pF (n:=n) (hm.push (o:=.ins "Net" []) rfl) hp h.app o;have h2:((m++[O.ins "Net" []])++l).set m.length (.ins "Net" (eH ks rl lm af ps ts))=m++.ins "Net" (eH ks rl lm af ps ts)::l:=by
  rw [append_assoc,set_append_right _ _ (Nat.le_refl _),Nat.sub_self];rfl
 rw [h2] at h1 c1;refine ⟨l,?_,c1⟩;have hi:cs.ini.lookup ("Net":Str)=some 0:=rfl;simp only [fR,Cn,pg,hi];have:aH (D.runN pg (n+1+1+1+1+1+1) 0) [.ref m.length,.ref a,.ref b,.ref c,.int af,.ref d,.ref e] (m++[O.ins "Net" []])=.ok .non (m++.ins "Net" (eH ks rl lm af ps ts)::l):=by rw [bx rfl,h1]
 simp only [pg] at this;rw [this];rfl
theorem Be {x:E} {lo hi:Oe} {l u:Option Int} (hm:Cm m) (hx:ai C x ρ m=.ok (.fz xs) m) (hl:kN C lo ρ m=.ok l m) (hu:kN C hi ρ m=.ok u m) (hp:ak (cN xs l u)=true):ai C (.frz (.slc x lo hi)) ρ m=.ok (.fz (cN xs l u)) m:=by
 refine bL (m0:=m) ?_ rfl hm hp;rw [jb,hx];simp only [ao,hl,hu,cK,getL,new]
theorem Ia {x:E} (hx:ai C x ρ m=.ok (.fz (w::r)) m):ai C (.slc x (.some (.cst (.int 1))) .none) ρ m=.ok (.ref m.length) (m++[.lst r]):=by
 rw [jb,hx];simp only [ao,dj,fC,aJ,cK,getL,HM,new]
noncomputable def Lo (w:W):W:=match w with
 | .fz (_::.str z::r)=>.tup [.str z,.tup (r.map uX)]
 | w=>w
theorem rm (hi:∀i∈t,0<=i/\i<=640):Lo (aF (f9 (z,t)))=.tup [.str z,tupI t]:=by
 show W.tup [.str z,.tup ((((t.map W.int).map sW).map W.str).map uX)]=_;congr 3;rw [map_map,map_map];refine congrArg W.tup ((map_congr_left λ w hw=>?_).trans (map_id _));obtain ⟨i,hii,rfl⟩:=List.mem_map.mp hw;exact je (.int (hi i hii).1 (hi i hii).2)
noncomputable def Lp (w:W):W:=match w with
 | .fz zs=>.tup (zs.map uX)
 | w=>w
theorem yR (h:jC r):Lp (aF r)=.tup r:=by
 show W.tup (((r.map sW).map W.str).map uX)=_;rw [map_map,map_map];exact congrArg W.tup ((map_congr_left λ w hw=>je (h.ok w hw)).trans (map_id _))
abbrev Fw (t:Str) (R:W) (a2 a3 a4 a5 a6 a7 a8 a9 Ib:Option W):D.Loc:=[some (.str t),some R,a2,a3,a4,a5,a6,a7,a8,a9,Ib,none,none,none]
abbrev Ed:W:=bM ["keys","lamps","nodes"]
abbrev gH (p:Str×List Int):W:=.tup [.str p.1,tupI p.2]
abbrev E8 (w:W):W:=match w with
 | .tup (x::_)=>x
 | w=>w
abbrev E9 (w:W):W:=match w with
 | .tup (_::x::_)=>x
 | w=>w
theorem lR {t:Str} {Rw:W} {a2 a3 a5 a6 a7 a8 a9 Ib:Option W} {pr:List (Str×List Int)} {g:W->W} (hl:pr.length<=100) (hg:∀p:Str×List Int,ai C (.var i) (Fw t Rw a2 a3 (some (.fz (pr.map gH))) a5 a6 a7 a8 a9 Ib |>.set 12 (some (.str p.1)) |>.set 13 (some (tupI p.2))) M=.ok (g (gH p)) M) :
  ai C (.comp (.gen (.tup (.cons (.var 12) (.cons (.var 13) .nil))) [12,13] (.var 4) .nil (.elt (.var i)))) (Fw t Rw a2 a3 (some (.fz (pr.map gH))) a5 a6 a7 a8 a9 Ib) M=.ok (.ref M.length) (M++[.lst ((pr.map gH).map g)]):=by
 refine yN (s:=.tup (pr.map gH)) (B:=λ x=>(Fw t Rw a2 a3 (some (.fz (pr.map gH))) a5 a6 a7 a8 a9 Ib |>.set 12 (some (E8 x)) |>.set 13 (some (E9 x)))) (by rw [eY,aq]; rfl) (λ _=>rfl) rfl (λ x hx=>?_) (λ x hx y hy=>?_) (λ x hx=>?_) (by simp; omega)
 ·obtain ⟨p,hp,rfl⟩:=List.mem_map.mp hx;rfl
 ·obtain ⟨p,hp,rfl⟩:=List.mem_map.mp hx;obtain ⟨q,hq,rfl⟩:=List.mem_map.mp hy;rfl
 ·obtain ⟨p,hp,rfl⟩:=List.mem_map.mp hx;exact hg p
theorem yS (o:bH ks rl lm af ps ts):∃l,D.runN pg (n+1+1+1+1+1+1+1) 23 [.str (dX (ck ks rl lm af ps ts))] []=.ok (.ref 5) ([.lst (ks.map .str),.lst (rl.map .str),.lst (ts.map tupI),.lst (lm.map .str),.lst (ps.map bP)]++.ins "Net" (eH ks rl lm af ps ts)::l):=by
 have hk2:=o.k2;have Fo:=o.r4;have hl2:=o.l2;have LY:=o.p8;have Fp:=o.tl;have qX:=gr o;have Ce:=ko o;have Lq:∀p∈rl.zip ts,Wd p.1/\p.2.length=4/\∀i∈p.2,0<=i/\i<=640:=λ p hp=>by
  obtain ⟨h1,h2⟩:=of_mem_zip hp;exact ⟨o.words.2.1 _ h1,tB (o.tm _ h2)⟩
 obtain ⟨RL,hRL,hRl⟩:∃RL:List (List W),RL=(rl.zip ts).map f9/\RL.length=rl.length:=⟨_,rfl,by simp [Fp]⟩;have hrs:ck ks rl lm af ps ts=(.str "keys"::ks.map .str)::(RL++((.str "lamps"::lm.map .str)::[.str "nodes",.int af]::ps.map nJ)):=by rw [hRL]; rfl
 have hne:∀r∈ck ks rl lm af ps ts,r≠[]:=λ r hr=>by
  rw [hrs,hRL] at hr;rcases List.mem_cons.mp hr with rfl | hr
  ·simp
  rcases List.mem_append.mp hr with hr | hr
  ·obtain ⟨p,_,rfl⟩:=List.mem_map.mp hr; simp
  rcases List.mem_cons.mp hr with rfl | hr
  ·simp
  rcases List.mem_cons.mp hr with rfl | hr
  ·simp
  ·obtain ⟨p,_,rfl⟩:=List.mem_map.mp hr; simp
 have hlen:(ck ks rl lm af ps ts).length=rl.length+3+ps.length:=by rw [hrs]; simp [hRl]; omega
 generalize Jx:ck ks rl lm af ps ts=rs at hrs hne hlen qX Ce ⊢;have h0:rs≠[]:=by rw [hrs]; simp
 have e1:=qZ (n:=n+1+1+1+1+1) (m:=[]) h0 qX hne (by omega);have HX:ak (rs.map aF)=true:=ig (λ r=>by simp only [aD]; exact aX _) rs;have aR:∀j (h:j < rl.length),rs[j+1]?=some (RL[j]'(by omega)):=λ j h=>by
  rw [hrs,getElem?_cons_succ,getElem?_append_left (by omega),getElem?_eq_getElem (by omega)]
 have aL:rs[rl.length+1]?=some (.str "lamps"::lm.map .str):=by rw [hrs,getElem?_cons_succ,getElem?_append_right (by omega),hRl,Nat.sub_self]; rfl
 have aN:rs[rl.length+2]?=some [.str "nodes",.int af]:=by rw [hrs,getElem?_cons_succ,getElem?_append_right (by omega),hRl,show rl.length+1 - rl.length=1 by omega]; rfl
 have e2:=q8 (n:=n+1+1+1+1+1) (m:=[]) (rs:=rs) (R:=rl.length) (by omega) HX (λ j hj=>by
  refine ⟨.str rl[j]::(ts[j]'(by omega)).map .int,(aR j hj).trans (congrArg some ?_)⟩;simp only [hRL];rw [getElem_map,getElem_zip]) ⟨"lamps",_,aL,wl.pz.sg,by decide +kernel⟩
 have c1:cN (rs.map aF) none (some 1)=[aF (.str "keys"::ks.map .str)]:=by
  have:=E6 (xs:=rs.map aF) (b:=1) (by rw [length_map]; omega);rw [show ((1:Nat):Int)=1 from rfl] at this;rw [this,hrs];rfl
 have c2:cN (rs.map aF) (some ((rl.length:Int)+1)) (some ((rl.length:Int)+1+2))=[aF (.str "lamps"::lm.map .str),aF [.str "nodes",.int af]]:=by
  have:=yP (xs:=rs.map aF) (a:=rl.length+1) (b:=rl.length+3) (by omega) (by rw [length_map]; omega);rw [show ((rl.length+1:Nat):Int)=(rl.length:Int)+1 by omega,show ((rl.length+3:Nat):Int)=(rl.length:Int)+1+2 by omega] at this;rw [this,hrs,show rl.length+3 - (rl.length+1)=2 by omega,<-hRl];simp
 have c3:cN (rs.map aF) (some 1) (some ((rl.length:Int)+1))=RL.map aF:=by
  have:=yP (xs:=rs.map aF) (a:=1) (b:=rl.length+1) (by omega) (by rw [length_map]; omega);rw [show ((rl.length+1:Nat):Int)=(rl.length:Int)+1 by omega,show ((1:Nat):Int)=1 from rfl] at this;rw [this,hrs,Nat.add_sub_cancel,<-hRl];simp
 have c4:cN (rs.map aF) (some ((rl.length:Int)+1+2)) none=ps.map (λ p=>aF (nJ p)):=by
  have:=yQ (xs:=rs.map aF) (a:=rl.length+3) (by rw [length_map]; omega);rw [show ((rl.length+3:Nat):Int)=(rl.length:Int)+1+2 by omega] at this;rw [this,hrs,<-hRl,map_cons,map_append,drop_succ_cons,drop_append,length_map,drop_eq_nil_of_le (by rw [length_map]; omega),show RL.length+2 - RL.length=2 by omega];simp
 have pR:∀r:List W,aD (aF r)=true:=λ r=>by simp only [aD]; exact aX _
 have MT:∀l:List (List W),ak (l.map aF)=true:=λ l=>ig pR l;have hT:∀{C:D.Cx} {ρ:D.Loc},ρ[3]?=some (some Ed)->aT C (.cmp .NotEq (.var 3) (.frz (.lst (.cons (.cst (.str "keys")) (.cons (.cst (.str "lamps")) (.cons (.cst (.str "nodes")) .nil)))))) ρ []=.ok false []:=λ {C ρ} h=>by
  have f1:ai C (.frz (.lst (.cons (.cst (.str "keys")) (.cons (.cst (.str "lamps")) (.cons (.cst (.str "nodes")) .nil))))) ρ []=.ok Ed []:=by
   refine bL (m0:=[]) ?_ rfl Cm.nil (aX _);simp only [dU,au,ay,aJ,ao];rw [if_pos (by simp [lim])];rfl
  have ht:=iB (m:=[]) (k:=58) (w:=Ed) (zs:=["keys","lamps","nodes"]) rfl (λ z hz=>by
   simp only [mem_cons,not_mem_nil,or_false] at hz;rcases hz with rfl | rfl | rfl
   ·exact wk
   ·exact wl
   ·exact wn)
  rw [cg,aq,h];simp only [ao];rw [f1];simp only [ao,aC,AM ht ht];rfl
 have e4:(RL.map aF).map Lo=(rl.zip ts).map gH:=by
  rw [hRL,map_map,map_map];exact map_congr_left λ p hp=>rm (Lq p hp).2.2
 have z1:((rl.zip ts).map gH).map E8=rl.map .str:=by
  rw [map_map];show (rl.zip ts).map (W.str∘Prod.fst)=_;rw [<-map_map,map_fst_zip (by omega)]
 have z2:((rl.zip ts).map gH).map E9=ts.map tupI:=by
  rw [map_map];show (rl.zip ts).map (tupI∘Prod.snd)=_;rw [<-map_map,map_snd_zip (by omega)]
 have L1:∀M:Mem,bh (.fz (rs.map aF)) (.int 0) M=.ok (aF (.str "keys"::ks.map .str)) M:=λ M=>by
  have:=nF (m:=M) (rs:=rs) (j:=0) (by omega);rw [show rs[0]'(by omega)=(.str "keys"::ks.map .str) by simp [hrs]] at this;exact this
 have L3:∀M:Mem,bh (.fz (rs.map aF)) (.int ((rl.length:Int)+1)) M=.ok (aF (.str "lamps"::lm.map .str)) M:=λ M=>by
  obtain ⟨hlt,he⟩:=List.getElem?_eq_some_iff.mp aL;have:=nF (m:=M) hlt;rw [he] at this;exact this
 have qb:∀M:Mem,bh (.fz (rs.map aF)) (.int ((rl.length:Int)+1+1)) M=.ok (aF [.str "nodes",.int af]) M:=λ M=>by
  obtain ⟨hlt,he⟩:=List.getElem?_eq_some_iff.mp aN;have:=nF (m:=M) hlt;rw [he,show ((rl.length+2:Nat):Int)=(rl.length:Int)+1+1 by omega] at this;exact this
 have sk:aF (.str "keys"::ks.map .str)=.fz (.str "keys"::ks.map .str):=by show W.fz (.str "keys"::((ks.map W.str).map sW).map W.str)=_; rw [Bb]
 have sl:aF (.str "lamps"::lm.map .str)=.fz (.str "lamps"::lm.map .str):=by show W.fz (.str "lamps"::((lm.map W.str).map sW).map W.str)=_; rw [Bb]
 rw [sk] at L1;rw [sl] at L3;have qS:Cm [O.lst (ks.map .str),.lst (rl.map .str),.lst (ts.map tupI),.lst (lm.map .str)]:=jf (m:=[_,_,_]) (jf (m:=[_,_]) (jf (m:=[_]) (jt (aX _)) (aX _)) (dm _)) (aX _);have MU:(ps.map (λ p=>aF (nJ p))).map Lp=ps.map bP:=by
  rw [map_map];exact map_congr_left λ p hp=>yR (rp o hp)
 obtain ⟨l,IK,_⟩:=E7 (n:=n) (m:=[O.lst (ks.map .str),.lst (rl.map .str),.lst (ts.map tupI),.lst (lm.map .str),.lst (ps.map bP)]) (a:=0) (b:=1) (c:=3) (d:=4) (e:=2) (jf (m:=[_,_,_,_]) qS (bR _)) ⟨rfl,rfl,rfl,rfl,rfl⟩ o;refine ⟨l,bw (d:=⟨1,14,Je⟩) rfl rfl ?_⟩;show aK _ Je [some (.str (dX rs)),none,none,none,none,none,none,none,none,none,none,none,none,none] []=_;rw [Je,aj (ρ1:=Fw (dX rs) (.fz (rs.map aF)) none none none none none none none none none) (m1:=[]) (aI (w:=.fz (rs.map aF)) (by simp only [bI,aO,aP,aQ,aS,e1]) rfl)];refine (aj (ρ1:=Fw (dX rs) (.fz (rs.map aF)) (some (.int ((rl.length:Int)+1))) none none none none none none none none) (m1:=[]) (aI (w:=.int ((rl.length:Int)+1)) (by simp only [bI,aO,aP,aQ,aS,e2,kg]) rfl)).trans ?_;refine (aj (aI (w:=Ed) (m1:=[]) (eK (xs:=[aF (.str "keys"::ks.map .str),aF (.str "lamps"::lm.map .str),aF [.str "nodes",.int af]]) (s:=.tup [aF (.str "keys"::ks.map .str),aF (.str "lamps"::lm.map .str),aF [.str "nodes",.int af]]) (g:=λ w=>match w with | .fz (x::_)=>x | w=>w) Cm.nil (by
  rw [j6,uR (xs:=cN (rs.map aF) none (some 1)) (ys:=cN (rs.map aF) (some ((rl.length:Int)+1)) (some ((rl.length:Int)+1+2))) Cm.nil (Be (xs:=rs.map aF) Cm.nil (by simp only [aq,aO,aP,aQ,aS]) fC (by simp only [dj,aJ,ao]) (by rw [c1]; simp only [ak,pR]; rfl)) (Be (xs:=rs.map aF) Cm.nil (by simp only [aq,aO,aP,aQ,aS]) (by simp only [dj,aq,aO,aP,aQ,aS,ao]) (by simp only [dj,eX,aq,aJ,aO,aP,aQ,aS,ao,kg]) (by rw [c2]; simp only [ak,pR]; rfl)) rfl rfl (by rw [c1,c2]; simp [lim]) (by rw [c1,c2]; simp only [cons_append,nil_append,ak,pR]; rfl),c1,c2];rfl) (λ _=>rfl) rfl (λ x hx=>by
  simp only [mem_cons,not_mem_nil,or_false] at hx;rcases hx with rfl | rfl | rfl<;>(simp only [bY,cU,aq,aJ,aO,aP,aQ,aS,ao]; exact tH)) (λ x hx=>by
  simp only [mem_cons,not_mem_nil,or_false] at hx;rcases hx with rfl | rfl | rfl<;>rfl) (by simp [lim])) rfl)).trans ?_
 refine (aj (show bN _ (.ife _ _ .nil) _ _=_ from (dF (hT rfl)).trans aA)).trans ?_;refine (aj (ρ1:=Fw (dX rs) (.fz (rs.map aF)) (some (.int ((rl.length:Int)+1))) (some Ed) (some (.fz ((rl.zip ts).map gH))) none none none none none none) (m1:=[]) (aI ((eK (xs:=RL.map aF) (s:=.tup (RL.map aF)) (g:=Lo) Cm.nil (by
   rw [j6,Be (l:=some 1) (u:=some ((rl.length:Int)+1)) (xs:=rs.map aF) Cm.nil (by simp only [aq,aO,aP,aQ,aS]) (by simp only [dj,aJ,ao]) (by simp only [dj,aq,aO,aP,aQ,aS,ao]) (by rw [c3]; exact MT _),c3];rfl) (λ _=>rfl) rfl (λ x hx=>by
   obtain ⟨r,hr,rfl⟩:=List.mem_map.mp hx;rw [hRL] at hr;obtain ⟨p,hp,rfl⟩:=List.mem_map.mp hr;obtain ⟨q1,q2,q3⟩:=Lq p hp;rw [show aF (f9 p)=aF (f9 (p.1,p.2)) from rfl,rm q3];simp only [bY,bI,aO,aP,aQ,aS];exact q9 (n:=n+1+1+1) q1 q2 q3) (λ x hx=>by
   obtain ⟨r,hr,rfl⟩:=List.mem_map.mp hx;rw [hRL] at hr;obtain ⟨p,hp,rfl⟩:=List.mem_map.mp hr;rw [show aF (f9 p)=aF (f9 (p.1,p.2)) from rfl,rm (Lq p hp).2.2];simp [aD,ak,dS]) (by simp [lim,hRl]; omega)).trans (by rw [e4])) rfl)).trans ?_
 refine (aj (aI (Ia (w:=.str "keys") (r:=ks.map .str) (by simp only [cU,aq,aJ,aO,aP,aQ,aS,ao,L1])) rfl)).trans ?_;refine (aj (aI ((lR (pr:=rl.zip ts) (g:=E8) (by rw [length_zip]; omega) (λ p=>by simp only [aq,aO,aP,aQ,aS])).trans (by rw [z1])) rfl)).trans ?_;refine (aj (aI ((lR (pr:=rl.zip ts) (g:=E9) (by rw [length_zip]; omega) (λ p=>by simp only [aq,aO,aP,aQ,aS])).trans (by rw [z2])) rfl)).trans ?_;refine (aj (aI (Ia (w:=.str "lamps") (r:=lm.map .str) (by simp only [cU,aq,aO,aP,aQ,aS,ao]; exact L3 _)) rfl)).trans ?_;refine (aj (aI (w:=.int af) (m1:=[.lst (ks.map .str),.lst (rl.map .str),.lst (ts.map tupI),.lst (lm.map .str)]) (by
  simp only [cV,au,ay,cU,eX,aq,aJ,aO,aP,aQ,aS,ao,kg];exact (congrArg (λ r=>(R.bind (R.bind r _) _)) (qb _)).trans (by simp only [ao]; exact rj o.n6)) rfl)).trans ?_
 refine (aj (aI ((yN (t:=.var 11) (xs:=ps.map (λ p=>aF (nJ p))) (s:=.tup (ps.map (λ p=>aF (nJ p)))) (g:=Lp) (by
   rw [j6,Be (l:=some ((rl.length:Int)+1+2)) (u:=none) (xs:=rs.map aF) qS (by simp only [aq,aO,aP,aQ,aS]) (by simp only [dj,eX,aq,aJ,aO,aP,aQ,aS,ao,kg]) fC (by rw [c4]; exact ig (λ p=>pR _) ps),c4];rfl) (λ _=>rfl) rfl (λ x _=>rfl) (λ x _ y _=>rfl) (λ x hx=>by
   obtain ⟨p,hp,rfl⟩:=List.mem_map.mp hx;rw [yR (rp o hp)];simp only [bI,aO,aP,aQ,aS];exact qW (n:=n+1+1+1+1) (rp o hp).ok (Nat.le_trans (rp o hp).len (by decide))) (by simp; omega)).trans (by rw [MU])) rfl)).trans ?_
 refine aY ((uL (t:=.cst (.bl true)) rfl).trans (aY (bq ?_)));simp only [qP,au,ay,aq,aO,aP,aQ,aS,ao];exact IK
end
abbrev Ic (b:Nat):List W:=(List.range 5).map λ j=>W.ref (b+j)
section
variable {C:D.Cx} {M:Mem} {b i:Nat}
theorem Bf (hi:ρ[i]?=some (some (.ref q))) (hq:M[q]?=some (.lst (nA b af))) (hm:Cm M) (hb:b+4 < M.length):ai C (.frz (.bin .Add (.slc (.var i) .none (.some (.cst (.int 3)))) (.slc (.var i) (.some (.cst (.int 4))) .none))) ρ M=.ok (.fz (Ic b)) M:=by
 have c1:cN (nA b af) none (some 3)=[.ref b,.ref (b+1),.ref (b+2)]:=rfl;have c2:cN (nA b af) (some 4) none=[.ref (b+3),.ref (b+4)]:=rfl;have s1:cK (.ref q) none (some 3) M=.ok (.ref M.length) (M++[.lst [.ref b,.ref (b+1),.ref (b+2)]]):=by simp only [cK,getL,hq,c1,new]
 have hq1:(M++[O.lst [.ref b,.ref (b+1),.ref (b+2)]])[q]?=some (.lst (nA b af)):=by rw [getElem?_append_left (List.getElem?_eq_some_iff.mp hq).1]; exact hq
 have s2:cK (.ref q) (some 4) none (M++[O.lst [.ref b,.ref (b+1),.ref (b+2)]])=.ok (.ref (M.length+1)) (M++[.lst [.ref b,.ref (b+1),.ref (b+2)],.lst [.ref (b+3),.ref (b+4)]]):=by simp [cK,getL,hq1,c2,new]
 have s3:binop .Add (.ref M.length) (.ref (M.length+1)) (M++[O.lst [.ref b,.ref (b+1),.ref (b+2)],.lst [.ref (b+3),.ref (b+4)]])=.ok (.ref (M.length+2)) (M++[.lst [.ref b,.ref (b+1),.ref (b+2)],.lst [.ref (b+3),.ref (b+4)],.lst [.ref b,.ref (b+1),.ref (b+2),.ref (b+3),.ref (b+4)]]):=by
  rw [sP (xs:=[.ref b,.ref (b+1),.ref (b+2)]) (ys:=[.ref (b+3),.ref (b+4)]) (by simp [getL]) (by simp [getL]) (by simp [lim])];simp
 refine gO (m0:=M) (l:=[.lst [.ref b,.ref (b+1),.ref (b+2)],.lst [.ref (b+3),.ref (b+4)],.lst [.ref b,.ref (b+1),.ref (b+2),.ref (b+3),.ref (b+4)]]) (w:=.ref (M.length+2)) ?_ rfl hm ?_
 ·simp only [eX,jb,aq,hi,fC,dj,aJ,ao,s1,s2,s3]
 ·have g:∀k,k < M.length->∀l n,nH l M.length (n+1) k=some (.ref k):=λ k hk l n=>by simp only [nH]; rw [if_pos hk]
  have e:(M++[O.lst [.ref b,.ref (b+1),.ref (b+2)],.lst [.ref (b+3),.ref (b+4)],.lst [.ref b,.ref (b+1),.ref (b+2),.ref (b+3),.ref (b+4)]])[M.length+2]?=some (.lst [.ref b,.ref (b+1),.ref (b+2),.ref (b+3),.ref (b+4)]):=by simp
  show nH _ M.length (7+1) (M.length+2)=_;rw [nH,if_neg (by omega),e];simp only [ef,jz,g b (by omega),g (b+1) (by omega),g (b+2) (by omega),g (b+3) (by omega),g (b+4) (by omega)];rfl
variable {f:Option W->D.Loc} {it:E} {o:Option W}
theorem rq (hI:cz C it (f o) M=.ok (.tup (Ic b)) M) (hf:∀o w,aV (.var i) w (f o)=some (f (some w))) (hg:∀w,(f (some w))[i]?=some (some w)) (hm:Cm M) (hF:∀j,j < 5->∃xs,M[b+j]?=some (.lst xs)) :
  ∃M' o',bN C (.for_ (.var i) it (.cons (.expr (.meth (.var i) "clear" .nil)) .nil)) (f o) M=.ok (.nx (f o')) M'/\M'.length=M.length/\Cm M'/\∀k,k < b\/b+5<=k->M'[k]?=M[k]?:=by
 obtain ⟨ρ',M',h,o',rfl,hl,hc,hfr,_⟩:=cJ (C:=C) (t:=.var i) (b:=.cons (.expr (.meth (.var i) "clear" .nil)) .nil) hI (n:=5) rfl
  (λ j ρ M'=>∃o',ρ=f o'/\M'.length=M.length/\Cm M'/\(∀k,k < b\/b+5<=k->M'[k]?=M[k]?)/\∀j,j < 5->∃xs,M'[b+j]?=some (.lst xs)) ⟨o,rfl,rfl,hm,λ _ _=>rfl,hF⟩ (λ j ρ M1 hj=>by
   rintro ⟨o',rfl,hl,hc,hfr,hF⟩;obtain ⟨xs,hx⟩:=hF j hj;have hk:kdOf M1 (.ref (b+j))=iI "clear":=by simp only [kdOf,hx]; rfl
   have hop:br (.ref (b+j)) "clear" [] M1=.ok .non (M1.set (b+j) (.lst [])):=by
    simp only [br,hx,dJ];rw [if_neg (by decide),if_pos trivial];rfl
   have hlt:b+j < M1.length:=(List.getElem?_eq_some_iff.mp hx).1;refine ⟨.ref (b+j),f (some (.ref (b+j))),f (some (.ref (b+j))),M1.set (b+j) (.lst []),?_,hf _ _,.inl ?_,_,rfl,by rw [length_set,hl],hc.set rfl,λ k hk=>?_,λ k hk=>?_⟩
   ·rw [bf (by simpa using hj)]; simp
   ·rw [aj (bX (w:=.non) (m1:=M1.set (b+j) (.lst [])) (by simp only [dH,aq,hg,ao,hk,if_true,ay,hop])),aA]
   ·rw [getElem?_set_ne (by omega)]; exact hfr k hk
   ·by_cases hjk:j=k
    ·subst hjk; exact ⟨[],getElem?_set_self hlt⟩
    ·rw [getElem?_set_ne (by omega)]; exact hF k hk) (fun ρ M' _=>aM (by simp))
 exact ⟨M',o',h,hl,hc,hfr⟩
end
section
variable {n:Nat} {m:Mem} {ks rl lm:List Str} {af:Nat} {ps:List Pc} {ts:List (List Int)}
theorem ku {l:Mem} (h:Cm l) (hb:l.length=b):Cm (l++cj b ks rl lm af ps ts):=by
 refine h.app λ o ho=>?_;simp only [mem_cons,not_mem_nil,or_false] at ho;rcases ho with rfl | rfl | rfl | rfl | rfl | rfl
 ·exact bA _ (aX _)
 ·exact bA _ (aX _)
 ·exact bA _ (aX _)
 ·exact bA _ (bR _)
 ·exact bA _ (dm _)
 ·simp [eS,cB,fH]; omega
abbrev Lr (b:Nat) (ks rl lm:List Str) (af:Nat) (ps:List Pc) (ts:List (List Int)):Mem:=[.lst ((ks++rl++lm).map .str),.lst (ps.map bP),.lst (JA ks rl lm af (.ref (b+1)) ts)]
theorem Ie {k:Nat} (h2:M[b+2]?=some (.lst (JA ks rl lm af (.ref (b+1)) ts))) (h1:M[b+1]?=some (.lst (ps.map bP))) (hk:k<=b):nH M k (j+1+1) (b+2)=some (jc ks rl lm af ps ts):=by
 have e1:nH M k (j+1) (b+1)=some (.fz (ps.map bP)):=by
  rw [nH,if_neg (by omega),h1];simp only [bS _ (bR ps)];rfl
 rw [nH,if_neg (by omega),h2];simp only [ef,jz,bS _ (aX _),bS _ (dm _),e1,Option.map_some]
theorem yT {k:Nat} (h:M[b]?=some (.ins "Net" (eH ks rl lm af ps ts))) (hk:k<=b):nH M k (j+1) b=some (bJ ks rl lm af ps ts):=by
 rw [nH,if_neg (by omega),h];simp only [map_cons,map_nil,ef,jz,bS _ (aX _),bS _ (dm _),bS _ (bR _),Option.map_some]
end
section
variable {n:Nat} {m:Mem} {ks rl lm:List Str} {af:Nat} {ps:List Pc} {ts:List (List Int)} {ρ:D.Loc}
theorem again (hm:Cm m) (o:bH ks rl lm af ps ts) (hi:ρ[i]?=some (some (.str (dX (ck ks rl lm af ps ts))))):ai (Cn pg (n+1+1+1+1+1+1+1)) (.frz (.call 23 (.cons (.var i) .nil))) ρ m=.ok (bJ ks rl lm af ps ts) m:=by
 obtain ⟨l,h⟩:=yS (n:=n) o;have hc:=eW (m:=m) rfl h rfl;refine gO (m0:=m) (w:=.ref (m.length+5)) (l:=([O.lst (ks.map .str),.lst (rl.map .str),.lst (ts.map tupI),.lst (lm.map .str),.lst (ps.map bP)]++.ins "Net" (eH ks rl lm af ps ts)::l).map (AG m.length)) ?_ rfl hm ?_
 ·rw [cV,au,aq,hi];simp only [ao,ay];exact hc
 ·have e:uJ m.length (eH ks rl lm af ps ts)=eH ks rl lm af ps ts:=by
   simp only [uJ,sD,dW _ (aX _),dW _ (bR _),dW _ (dm _)]
  exact yT (j:=7) (by
   rw [getElem?_append_right (by omega),Nat.add_sub_cancel_left,map_append];show some (AG m.length (.ins "Net" (eH ks rl lm af ps ts)))=_;rw [AG,e]) (by omega)
theorem things (hm:Cm m) (hi:i < 100) (h0:ρ[0]?=some (some (.fz (ns.map .int)))) (h1:ρ[1]?=some (some (.int i))):∃(ks rl lm:List Str) (af:Nat) (ps:List Pc) (ts:List (List Int)),bH ks rl lm af ps ts/\
  ai (Cn pg (n+1+1+1+1)) (.frz (.call 37 (.cons (.call 31 (.cons (.var 0) (.cons (.var 1) .nil))) (.cons (.cst (.int 18)) .nil)))) ρ m=.ok (jc ks rl lm af ps ts) m:=by
 obtain ⟨A,B,e1⟩:=Lc (n:=n+1+1+1) (m:=m) (ns:=ns) hi;obtain ⟨ks,rl,lm,af,ps,ts,m',e2,⟨A2,B2,rfl⟩,o⟩:=Lh (n:=n) (m:=m++[cW A B]) (p:=m.length) ⟨A,B,by simp⟩ (hm.push rfl);have hs:(m++[cW A B]).set m.length (cW A2 B2)=m++[cW A2 B2]:=by simp
 rw [hs] at e2;refine ⟨ks,rl,lm,af,ps,ts,o,?_⟩;have hl:(m++[cW A B]).length=m.length+1:=by simp
 rw [hl] at e2;refine gO (m0:=m) (w:=.ref (m.length+1+2)) (l:=cW A2 B2::Lr (m.length+1) ks rl lm af ps ts) ?_ rfl hm ?_
 ·simp only [cV,au,ay,aq,aJ,h0,h1,ao,e1];rw [e2,append_assoc];rfl
 ·have at_:∀j,(m++cW A2 B2::Lr (m.length+1) ks rl lm af ps ts)[m.length+1+j]?=(Lr (m.length+1) ks rl lm af ps ts)[j]?:=λ j=>by
   rw [getElem?_append_right (by omega),show m.length+1+j - m.length=j+1 by omega];rfl
  exact Ie (j:=6) (b:=m.length+1) (at_ 2) (at_ 1) (by omega)
theorem Bg (hm:Cm m) (hq:m[q]?=some (.lst (nA i af))) (h:Hd m i (i+1) (i+2) (i+3) (i+4) ks rl lm ps ts) (o:bH ks rl lm af ps ts) (h4:ρ[4]?=some (some (.ref q))):ai (Cn pg (n+1+1+1+1+1+1+1)) (.frz (.call 39 (.cons (.var 4) .nil))) ρ m=.ok (bJ ks rl lm af ps ts) m:=by
 obtain ⟨l1,e1,c1⟩:=made (n:=n) hm hq h o;refine gO (m0:=m) (w:=.ref m.length) (l:=.ins "Net" (eH ks rl lm af ps ts)::l1) ?_ rfl hm (yT (j:=7) (by simp) (Nat.le_refl _));rw [cV,au,aq,h4];simp only [ao,ay];exact e1
theorem clear_list {rs:List Nat} {f:Option W->D.Loc} {o:Option W} (hI:cz C it (f o) m=.ok (.lst q) M) (hq:M[q]?=some (.lst (rs.map .ref))) (hf:∀o w,aV (.var i) w (f o)=some (f (some w))) (hg:∀w,(f (some w))[i]?=some (some w)) (hm:Cm M) (hF:∀r∈rs,r≠q/\∃xs,M[r]?=some (.lst xs)) :
  ∃M' o',bN C (.for_ (.var i) it (.cons (.expr (.meth (.var i) "clear" .nil)) .nil)) (f o) m=.ok (.nx (f o')) M'/\Cm M':=by
 obtain ⟨ρ',M',h,o',rfl,hc,_⟩:=cJ (C:=C) (t:=.var i) (b:=.cons (.expr (.meth (.var i) "clear" .nil)) .nil) hI (n:=rs.length) (by simp [Src.len,getL,hq])
  (λ j ρ M'=>∃o',ρ=f o'/\Cm M'/\M'[q]?=some (.lst (rs.map .ref))/\∀r∈rs,∃xs,M'[r]?=some (.lst xs)) ⟨o,rfl,hm,hq,λ r hr=>(hF r hr).2⟩ (λ j ρ M1 hj=>by
   rintro ⟨o',rfl,hc,hq1,hF1⟩;have hr:=getElem_mem hj;obtain ⟨xs,hx⟩:=hF1 _ hr;have hk:kdOf M1 (.ref rs[j])=iI "clear":=by simp only [kdOf,hx]; rfl
   have hop:br (.ref rs[j]) "clear" [] M1=.ok .non (M1.set rs[j] (.lst [])):=by
    simp only [br,hx,dJ];rw [if_neg (by decide),if_pos trivial];rfl
   have hlt:rs[j] < M1.length:=(List.getElem?_eq_some_iff.mp hx).1;refine ⟨.ref rs[j],f (some (.ref rs[j])),f (some (.ref rs[j])),M1.set rs[j] (.lst []),?_,hf _ _,.inl ?_,_,rfl,hc.set rfl,?_,λ r hrr=>?_⟩
   ·rw [cR hq1,bf (by simpa using hj)]; simp
   ·rw [aj (bX (w:=.non) (m1:=M1.set rs[j] (.lst [])) (by simp only [dH,aq,hg,ao,hk,if_true,ay,hop])),aA]
   ·rw [getElem?_set_ne (hF _ hr).1]; exact hq1
   ·by_cases hjk:rs[j]=r
    ·rw [<-hjk]; exact ⟨[],getElem?_set_self hlt⟩
    ·rw [getElem?_set_ne hjk]; exact hF1 r hrr)
  (fun ρ M'=>by
   rintro ⟨_,_,_,hq1,_⟩;rw [cR hq1];exact aM (by simp))
 exact ⟨M',o',h,hc⟩
theorem pO (hi:ρ[i]?=some (some (bJ ks rl lm af ps ts))):ai (Cn pg (n+1+1)) (.slc (.call 40 (.cons (.var i) .nil)) (.some (.cst (.int 4))) .none) ρ m=.ok (.ref (m.length+6)) (m++(cj m.length ks rl lm af ps ts++[.lst [.ref (m.length+3),.ref (m.length+4)]])):=by
 have hg:getL (m++cj m.length ks rl lm af ps ts) (.ref (m.length+5))=some (nA m.length af):=by
  simp only [getL];rw [getElem?_append_right (by omega),Nat.add_sub_cancel_left];rfl
 have hc:cN (nA m.length af) (some 4) none=[.ref (m.length+3),.ref (m.length+4)]:=rfl;rw [jb,cV,au,aq,hi];simp only [ao,ay,told (n:=n),dj,fC,aJ,cK,hg,hc,new];rw [length_append,append_assoc];rfl
theorem lT {i:Nat} (o:bH ks rl lm af ps ts) (he:ai (Cn pg (n+1+1)) e ρ m=.ok (bJ ks rl lm af ps ts) m) (hj:ρ[j]?=some (some (jc ks rl lm af ps ts))):aT (Cn pg (n+1+1)) (.cmp .NotEq (.blt .repr (.cons (.call 40 (.cons e .nil)) .nil)) (.blt .repr (.cons (.var j) .nil))) ρ m=.ok false (m++cj m.length ks rl lm af ps ts):=by
 have t1:=A4 (k:=56) (l:=m) (r:=[]) (m:=m++cj m.length ks rl lm af ps ts) o rfl (by simp);have t2:=E1 (k:=56) (m:=m++cj m.length ks rl lm af ps ts) o;have hs:=iU.Lh o;rw [cg,cF,au,cV,au,he];simp only [ao,ay,told (n:=n),cF,au,aq,hj];simp only [ao,sY t1 hs (by decide) (by decide),sY t2 hs (by decide) (by decide),nB hs.sg]
theorem nG (o:bH ks rl lm af ps ts) (hi:ρ[i]?=some (some (bJ ks rl lm af ps ts))) (h3:ρ[3]?=some (some (.str (dX (ck ks rl lm af ps ts))))):aT (Cn pg (n+1+1)) (.cmp .NotEq (.call 21 (.cons (.var i) .nil)) (.var 3)) ρ m=.ok false m:=by
 rw [cg,cV,au,aq,hi];simp only [ao,ay,pM (n:=n) (m:=m) o,aq,h3,nB (yM (gr o))]
end
abbrev lw (ns:List Int) (a1 a2 a3 a4 a5 a6 a7 a8:Option W):D.Loc:=[some (.fz (ns.map .int)),a1,a2,a3,a4,a5,a6,a7,a8]
section
variable {n:Nat} {m:Mem} {ns:List Int} {i:Nat} {a2 a3 a4 a5 a6 a7 a8:Option W}
theorem Fb (hi:i < 100) (hm:Cm m):∃b2 b3 b4 b5 b6 b7 b8 M',aK (Cn pg (n+1+1+1+1+1+1+1)) sO (lw ns (some (.int i)) a2 a3 a4 a5 a6 a7 a8) m=.ok (.nx (lw ns (some (.int i)) b2 b3 b4 b5 b6 b7 b8)) M'/\Cm M':=by
 obtain ⟨ks,rl,lm,af,ps,ts,o,e1⟩:=things (n:=n+1+1+1) (m:=m) (i:=i) (ns:=ns) (ρ:=lw ns (some (.int i)) a2 a3 a4 a5 a6 a7 a8) hm hi rfl rfl;have Ab:=yw (l:=m) (r:=[]) (ks:=ks) (rl:=rl) (lm:=lm) (af:=af) (ps:=ps) (ts:=ts) rfl (m++cj m.length ks rl lm af ps ts) (by simp);obtain ⟨g0,g1,g2,g3,g4,g5⟩:=Ab;have c4:Cm (m++cj m.length ks rl lm af ps ts):=ku hm rfl;have Ig:(m++cj m.length ks rl lm af ps ts).length=m.length+6:=by simp
 have e3:=copy (n:=n+1+1+1+1+1+1) (m:=m) (ks:=ks) (rl:=rl) (lm:=lm) (af:=af) (ps:=ps) (ts:=ts);have e2:=yL (n:=n+1+1+1+1+1+1) (m:=m) o;generalize m++cj m.length ks rl lm af ps ts=M at g0 g1 g2 g3 g4 g5 c4 e3 Ig;generalize hT:dX (ck ks rl lm af ps ts)=T at e2;have hsg:Sg T:=by rw [<-hT]; exact yM (gr o)
 have e5:=Bg (n:=n) (ρ:=lw ns (some (.int i)) (some (jc ks rl lm af ps ts)) (some (.str T)) (some (.ref (m.length+5))) a5 a6 a7 a8) c4 g5 ⟨g0,g1,g2,g3,g4⟩ o rfl;have e6:=pM (n:=n+1+1+1+1+1) (m:=M) o;rw [hT] at e6;have e7:=Bf (C:=Cn pg (n+1+1+1+1+1+1+1)) (i:=4) (ρ:=lw ns (some (.int i)) (some (jc ks rl lm af ps ts)) (some (.str T)) (some (.ref (m.length+5))) (some (bJ ks rl lm af ps ts)) (some (.str T)) a7 a8) rfl g5 c4 (by omega);obtain ⟨M5,o5,l1,len5,c5,_⟩:=rq (C:=Cn pg (n+1+1+1+1+1+1+1)) (i:=7) (b:=m.length) (f:=λ o=>lw ns (some (.int i)) (some (jc ks rl lm af ps ts)) (some (.str T)) (some (.ref (m.length+5))) (some (bJ ks rl lm af ps ts)) (some (.str T)) o a8) (it:=.frz (.bin .Add (.slc (.var 4) .none (.some (.cst (.int 3)))) (.slc (.var 4) (.some (.cst (.int 4))) .none))) (o:=a7) (M:=M) (by rw [j6,e7]; rfl) (λ _ _=>rfl) (λ _=>rfl) c4 (λ j hj=>by
  rcases (by omega:j=0\/j=1\/j=2\/j=3\/j=4) with rfl | rfl | rfl | rfl | rfl
  ·exact ⟨_,g0⟩
  ·exact ⟨_,g1⟩
  ·exact ⟨_,g2⟩
  ·exact ⟨_,g3⟩
  ·exact ⟨_,g4⟩)
 have t1:∀{o7:Option W},aT (Cn pg (n+1+1+1+1+1+1+1)) (.or (.not (.isI (.var 6) "str")) (.cmp .NotEq (.var 6) (.var 3))) (lw ns (some (.int i)) (some (jc ks rl lm af ps ts)) (some (.str T)) (some (.ref (m.length+5))) (some (bJ ks rl lm af ps ts)) (some (.str T)) o7 a8) M5=.ok false M5:=λ {o7}=>by
  have:aT (Cn pg (n+1+1+1+1+1+1+1)) (.isI (.var 6) "str") (lw ns (some (.int i)) (some (jc ks rl lm af ps ts)) (some (.str T)) (some (.ref (m.length+5))) (some (bJ ks rl lm af ps ts)) (some (.str T)) o7 a8) M5=.ok true M5:=d9 (B0 _ _) (by simp only [BZ,aq,aO,aP,aQ,aS,ao,gX]; rfl);rw [j5,fF,this];simp only [ao,Bool.not_true,Bool.false_eq_true,if_false,cg,aq,aO,aP,aQ,aS,nB hsg]
 have e8:=again (n:=n) (m:=M5) (i:=6) (ρ:=lw ns (some (.int i)) (some (jc ks rl lm af ps ts)) (some (.str T)) (some (.ref (m.length+5))) (some (bJ ks rl lm af ps ts)) (some (.str T)) o5 a8) c5 o (by rw [hT]; rfl);generalize hρ:lw ns (some (.int i)) (some (jc ks rl lm af ps ts)) (some (.str T)) (some (.ref (m.length+5))) (some (bJ ks rl lm af ps ts)) (some (.str T)) o5 (some (bJ ks rl lm af ps ts))=ρ8;have r2:ρ8[2]?=some (some (jc ks rl lm af ps ts)):=by rw [<-hρ]; rfl
 have r3:ρ8[3]?=some (some (.str (dX (ck ks rl lm af ps ts)))):=by rw [<-hρ,hT]; rfl
 have r5:ρ8[5]?=some (some (bJ ks rl lm af ps ts)):=by rw [<-hρ]; rfl
 have r8:ρ8[8]?=some (some (bJ ks rl lm af ps ts)):=by rw [<-hρ]; rfl
 have t2:aT (Cn pg (n+1+1+1+1+1+1+1)) (.or (.not (.fus (.isc "Net") (.var 8))) (.or (.cmp .NotEq (.blt .repr (.cons (.call 40 (.cons (.var 8) .nil)) .nil)) (.blt .repr (.cons (.var 2) .nil))) (.cmp .NotEq (.call 21 (.cons (.var 8) .nil)) (.var 3)))) ρ8 M5=.ok false (M5++cj M5.length ks rl lm af ps ts):=by
  have q1:aT (Cn pg (n+1+1+1+1+1+1+1)) (.fus (.isc "Net") (.var 8)) ρ8 M5=.ok true M5:=d9 (xX _ _) (by rw [sI,aq,r8]; rfl);rw [j5,fF,q1];simp only [ao,Bool.not_true,Bool.false_eq_true,if_false];rw [j5,lT (n:=n+1+1+1+1+1) (i:=8) o (by rw [aq,r8]) r2];simp only [ao,Bool.false_eq_true,if_false];exact nG (n:=n+1+1+1+1+1) o r8 r3
 have c6:Cm (M5++cj M5.length ks rl lm af ps ts):=ku c5 rfl;generalize M5++cj M5.length ks rl lm af ps ts=M6 at t2 c6;have k1:=pO (n:=n+1+1+1+1+1) (m:=M6) (i:=5) (ρ:=ρ8) r5;have k2:=pO (n:=n+1+1+1+1+1) (m:=M6++(cj M6.length ks rl lm af ps ts++[.lst [.ref (M6.length+3),.ref (M6.length+4)]])) (i:=8) (ρ:=ρ8) r8;have l7:(M6++(cj M6.length ks rl lm af ps ts++[O.lst [.ref (M6.length+3),.ref (M6.length+4)]])).length=M6.length+7:=by simp
 rw [l7] at k2;generalize hM7:M6++(cj M6.length ks rl lm af ps ts++[O.lst [.ref (M6.length+3),.ref (M6.length+4)]])++(cj (M6.length+7) ks rl lm af ps ts++[.lst [.ref (M6.length+7+3),.ref (M6.length+7+4)]])=M7 at k2;have f7:∀j,M7[M6.length+j]?=(cj M6.length ks rl lm af ps ts++[O.lst [.ref (M6.length+3),.ref (M6.length+4)]]++(cj (M6.length+7) ks rl lm af ps ts++[.lst [.ref (M6.length+7+3),.ref (M6.length+7+4)]]))[j]?:=λ j=>by
  rw [<-hM7,append_assoc,getElem?_append_right (by omega),Nat.add_sub_cancel_left]
 have c7:Cm M7:=by
  have h1:Cm (M6++cj M6.length ks rl lm af ps ts):=ku c6 rfl;have h2:Cm (M6++(cj M6.length ks rl lm af ps ts++[O.lst [.ref (M6.length+3),.ref (M6.length+4)]])):=by
   rw [<-append_assoc];exact h1.push (by simp [eS,cB,fH]<;>omega)
  have h3:Cm (M6++(cj M6.length ks rl lm af ps ts++[O.lst [.ref (M6.length+3),.ref (M6.length+4)]])++cj (M6.length+7) ks rl lm af ps ts):=ku h2 l7;rw [<-hM7,<-append_assoc];exact h3.push (by simp [eS,cB,fH]<;>omega)
 have l8:M7.length=M6.length+14:=by rw [<-hM7]; simp
 have hb:binop .Add (.ref (M6.length+6)) (.ref (M6.length+7+6)) M7=.ok (.ref M7.length) (M7++[.lst ([M6.length+3,M6.length+4,M6.length+7+3,M6.length+7+4].map .ref)]):=by
  rw [sP (xs:=[.ref (M6.length+3),.ref (M6.length+4)]) (ys:=[.ref (M6.length+7+3),.ref (M6.length+7+4)]) (by simp only [getL]; rw [f7 6]; rfl) (by simp only [getL]; rw [show M6.length+7+6=M6.length+13 by omega,f7 13]; rfl) (by simp [lim])];rfl
 have hI:cz (Cn pg (n+1+1+1+1+1+1+1)) (.bin .Add (.slc (.call 40 (.cons (.var 5) .nil)) (.some (.cst (.int 4))) .none) (.slc (.call 40 (.cons (.var 8) .nil)) (.some (.cst (.int 4))) .none)) ρ8 M6=.ok (.lst M7.length) (M7++[.lst ([M6.length+3,M6.length+4,M6.length+7+3,M6.length+7+4].map .ref)]):=by
  rw [HA,eX,k1];simp only [ao];rw [k2];simp only [ao,hb,fE,qq,srcOf,getL,getElem?_concat_length]
 obtain ⟨M9,o9,l9,c9⟩:=clear_list (C:=Cn pg (n+1+1+1+1+1+1+1)) (i:=7) (rs:=[M6.length+3,M6.length+4,M6.length+7+3,M6.length+7+4]) (f:=λ o=>lw ns (some (.int i)) (some (jc ks rl lm af ps ts)) (some (.str T)) (some (.ref (m.length+5))) (some (bJ ks rl lm af ps ts)) (some (.str T)) o (some (bJ ks rl lm af ps ts))) (o:=o5) (by rw [hρ]; exact hI) (by simp) (λ _ _=>rfl) (λ _=>rfl) (c7.push (by simp [eS,cB,fH]<;>omega)) (λ r hr=>by
  simp only [mem_cons,not_mem_nil,or_false] at hr;have g:∀j x,(cj M6.length ks rl lm af ps ts++[O.lst [.ref (M6.length+3),.ref (M6.length+4)]]++(cj (M6.length+7) ks rl lm af ps ts++[.lst [.ref (M6.length+7+3),.ref (M6.length+7+4)]]))[j]?=some (.lst x)->j < 14->M6.length+j≠M7.length/\∃xs,(M7++[O.lst ([M6.length+3,M6.length+4,M6.length+7+3,M6.length+7+4].map .ref)])[M6.length+j]?=some (.lst xs):=λ j x hx hj=>⟨by omega,x,by rw [getElem?_append_left (by omega),f7 j]; exact hx⟩;rcases hr with rfl | rfl | rfl | rfl
  ·exact g 3 _ rfl (by omega)
  ·exact g 4 _ rfl (by omega)
  ·exact g 10 _ rfl (by omega)
  ·exact g 11 _ rfl (by omega))
 generalize hρ':lw ns (some (.int i)) (some (jc ks rl lm af ps ts)) (some (.str T)) (some (.ref (m.length+5))) (some (bJ ks rl lm af ps ts)) (some (.str T)) o9 (some (bJ ks rl lm af ps ts))=ρ9;have s2:ρ9[2]?=some (some (jc ks rl lm af ps ts)):=by rw [<-hρ']; rfl
 have s3:ρ9[3]?=some (some (.str (dX (ck ks rl lm af ps ts)))):=by rw [<-hρ',hT]; rfl
 have s5:ρ9[5]?=some (some (bJ ks rl lm af ps ts)):=by rw [<-hρ']; rfl
 have s8:ρ9[8]?=some (some (bJ ks rl lm af ps ts)):=by rw [<-hρ']; rfl
 have t3:aT (Cn pg (n+1+1+1+1+1+1+1)) (.or (.cmp .NotEq (.call 21 (.cons (.var 5) .nil)) (.var 3)) (.or (.cmp .NotEq (.call 21 (.cons (.var 8) .nil)) (.var 3)) (.cmp .NotEq (.blt .repr (.cons (.call 40 (.cons (.frz (.call 23 (.cons (.var 3) .nil))) .nil)) .nil)) (.blt .repr (.cons (.var 2) .nil))))) ρ9 M9=.ok false (M9++cj M9.length ks rl lm af ps ts):=by
  rw [j5,nG (n:=n+1+1+1+1+1) o s5 s3];simp only [ao,Bool.false_eq_true,if_false];rw [j5,nG (n:=n+1+1+1+1+1) o s8 s3];simp only [ao,Bool.false_eq_true,if_false];exact lT (n:=n+1+1+1+1+1) (i:=8) o (again (n:=n) c9 o s3) s2
 refine ⟨some (jc ks rl lm af ps ts),some (.str T),some (.ref (m.length+5)),some (bJ ks rl lm af ps ts),some (.str T),o9,some (bJ ks rl lm af ps ts),M9++cj M9.length ks rl lm af ps ts,?_,ku c9 rfl⟩;rw [hρ',sO];refine (aj (aI e1 rfl)).trans ?_;refine (aj (ρ1:=lw ns (some (.int i)) (some (jc ks rl lm af ps ts)) (some (.str T)) a4 a5 a6 a7 a8) (m1:=m) (aI (w:=.str T) (by simp only [bI,aO,aP,aQ,aS,e2]) rfl)).trans ?_;refine (aj (ρ1:=lw ns (some (.int i)) (some (jc ks rl lm af ps ts)) (some (.str T)) (some (.ref (m.length+5))) a5 a6 a7 a8) (m1:=M) (aI (w:=.ref (m.length+5)) (by simp only [bI,aO,aP,aQ,aS,e3]) rfl)).trans ?_;refine (aj (aI e5 rfl)).trans ?_;refine (aj (ρ1:=lw ns (some (.int i)) (some (jc ks rl lm af ps ts)) (some (.str T)) (some (.ref (m.length+5))) (some (bJ ks rl lm af ps ts)) (some (.str T)) a7 a8) (m1:=M) (aI (w:=.str T) (by simp only [bI,aO,aP,aQ,aS,e6]) rfl)).trans ?_;refine (aj l1).trans ?_;refine (aj (show bN _ (.ife _ _ .nil) _ _=_ from (dF t1).trans aA)).trans ?_;refine (aj (ρ1:=ρ8) (aI (i:=8) e8 (by rw [<-hρ]; rfl))).trans ?_;refine (aj (show bN _ (.ife _ _ .nil) _ _=_ from (dF t2).trans aA)).trans ?_;refine (aj (ρ1:=ρ9) (m1:=M9) (by rw [<-hρ,<-hρ']; exact l9)).trans ?_;refine (aj (show bN _ (.ife _ _ .nil) _ _=_ from (dF t3).trans aA)).trans ?_;exact aA
end
theorem Bh (hn:ns.length<=63):∃m',D.runN pg (n+1+1+1+1+1+1+1+1) 42 [.fz (ns.map .int)] []=.ok (.bl true) m':=by
 obtain ⟨q,hq,hq4⟩:∃q:Nat,(if (if (8:Int) < ns.length then (8:Int) else ns.length)>1 then (if (8:Int) < ns.length then (8:Int) else ns.length) else 1)=q/\q<=8:=by
  refine ⟨(if (if (8:Int) < ns.length then (8:Int) else ns.length)>1 then (if (8:Int) < ns.length then (8:Int) else ns.length) else 1).toNat,?_,?_⟩
  ·split<;>split at *<;>omega
  ·split<;>split at *<;>omega
 have BQ:∀M,bu .len [.fz (ns.map .int)] M=.ok (.int ns.length) M:=λ M=>by
  have:=fX (m:=M) (w:=.fz (ns.map .int)) (xs:=ns.map .int) rfl;rw [length_map] at this;exact this
 have hI:cz (Cn pg (n+1+1+1+1+1+1+1)) (.rng (.blt .max (.cons (.cst (.int 1)) (.cons (.blt .min (.cons (.blt .len (.cons (.var 0) .nil)) (.cons (.cst (.int 8)) .nil))) .nil)))) [some (.fz (ns.map .int)),none,none,none,none,none,none,none,none] []=.ok (.rng 0 q) []:=uM (by simp only [bI,aO,aP,aQ,aS,BQ]; simp only [bu,ao,hq]) (by omega);obtain ⟨ρ',m',hf,a1,a2,a3,a4,a5,a6,a7,a8,rfl,hc⟩:=cJ (C:=Cn pg (n+1+1+1+1+1+1+1)) (t:=.var 1) (b:=sO) hI (n:=q) rfl
  (λ i ρ M=>∃a1 a2 a3 a4 a5 a6 a7 a8,ρ=lw ns a1 a2 a3 a4 a5 a6 a7 a8/\Cm M) ⟨none,none,none,none,none,none,none,none,rfl,Cm.nil⟩ (λ i ρ M hi=>by
   rintro ⟨a1,a2,a3,a4,a5,a6,a7,a8,rfl,hc⟩;obtain ⟨b2,b3,b4,b5,b6,b7,b8,M',e,hc'⟩:=Fb (n:=n) (m:=M) (ns:=ns) (i:=i) (by omega) hc (a2:=a2) (a3:=a3) (a4:=a4) (a5:=a5) (a6:=a6) (a7:=a7) (a8:=a8);exact ⟨.int (0+i),lw ns (some (.int i)) a2 a3 a4 a5 a6 a7 a8,_,_,fu hi,by simp [aV],.inl e,_,_,_,_,_,_,_,_,rfl,hc'⟩)
  (fun ρ M _=>d7 (by omega))
 refine ⟨m',bw (d:=⟨1,9,Jt⟩) rfl rfl ?_⟩;show aK _ Jt [some (.fz (ns.map .int)),none,none,none,none,none,none,none,none] []=_;rw [Jt,aj hf,aY (bq (w:=.bl true) (m1:=m') (by simp only [bI]))]
theorem u0:∀ns:List Int,ns.length<=63->∃m',D.runN pg 40 42 [.fz (ns.map .int)] []=.ok (.bl true) m':=λ ns hn=>Bh (n:=32) hn
end My
end
section
open PySem PySem.W PyProof.Rows My List
theorem PySem.Challenge.cw_relayholds_k13_whole_texts_there_and_bac_holds : PySem.Challenge.rw_relayholds_k13_whole_texts_there_and_bac.Holds := by
 refine PySem.W.holds_law My.L6 λ said=>?_
 refine PySem.W.holds_open (q:=My.qv) (loose:=["MANY_ENDS"]) (Xt:=λ s=>PySem.W.xlAt My.qv [] s&&PySem.W.recOk (PySem.W.RowW.records (PySem.W.OpenRow.toRowW (PySem.W.OpenLaw.row PySem.Challenge.rw_relayholds_k13_whole_texts_there_and_bac))) s) (XP:=PySem.W.XL My.qv []) (Yf:=(PySem.W.kHook kk ka (λ _=>by kernel_rfl)).obs) (Ya:=(PySem.W.kHook kk ka (λ _=>by kernel_rfl)).val) (YP:=(PySem.W.kHook kk ka (λ _=>by kernel_rfl)).says) (N:=4834) My.hdl (PySem.W.kHook kk ka (λ _=>by kernel_rfl)).of (PySem.W.kHook kk ka (λ _=>by kernel_rfl)).keeps (λ s e=>PySem.W.xl_of s (Bool.and_eq_true_iff.mp e).1) PySem.W.XL.keeps (by rfl) (by rfl) (by rfl) (λ s e=>PySem.W.recFacts_of (Bool.and_eq_true_iff.mp e).2) (by rfl) (by first | assumption | decide +kernel) (by decide +kernel) ⟨rfl,rfl,rfl,rfl,rfl,by decide +kernel⟩ ?hw ?hc
 (case hw=>w_witness2)
 k_fill
 refine D.xN (l:=PySem.Challenge.rw_relayholds_k13_whole_texts_there_and_bac) (p:=My.pg) (i:=42) (x:="_law_script") rfl rfl (λ w h Y=>PySem.W.kIn_of Y) ?F My.u0
 case F=>
  intro w mg fa h KX G hmg
  exact D.HG (t:=My.tf 55) KX G hmg My.stat rfl rfl (by kernel_rfl) (by kernel_rfl) (by kernel_rfl) (by kernel_rfl)
end
end
