import PyProof.Rows.All
import Wide.All
import OpenK.AllK
import Wide.FinOn
import Lean
import PyProof.EqAt
import PyProof.EqKinds
import PyProof.TupleCall
import PySem.Challenge.RW_relayholds_k11_whole_nets_told
set_option genSizeOfSpec false
set_option genSizeOf false
set_option Elab.async false
set_option linter.all false
set_option maxRecDepth 1000000
set_option maxHeartbeats 4000000
noncomputable section
namespace My
open PySem
def top (i:Nat):Stmt:=PySem.Challenge.pw_relayholds_k11_whole_nets_told.main.body.getD i (.Pass ⟨0,0,0,0⟩)
abbrev VS (x:Str) (t:Tok):Value:=.str x t
abbrev VI (x:Int) (t:Tok):Value:=.int x t
abbrev VR (x:Addr):Value:=.ref x
abbrev VN:Value:=.none
abbrev VT (x:String):Value:=.type x
abbrev VB (x:String):Value:=.builtin x
abbrev KE (P:Params) (x:Str) (t:Tok) (v:Value):DictEntry:=⟨PyData.keyHash P x,.str x t,v⟩
abbrev hI (i j:Nat):Stmt:=match top i with
 | .ClassDef _ _ _ b _ _ _ _ _ _ _=>b.getD j (top i)
 | s=>s
abbrev hFD (st:Stmt) (q:Str) (g:Addr) (clo:List (Str×Addr)) (de kw doc md:Value) (an:Option Addr) (code ct:Value) (bl:Addr):Data:=match st with
 | .FunctionDef nm ar body _ _ _ sc _ _ _=>.func ⟨nm,q,ar,.stmts body,sc,g,clo,de,kw,doc,md,an,code,ct,bl⟩
 | _=>.plain
abbrev pV0:Value:=VS "relayholds.nets" 232
abbrev pV1:Value:=VS "law_relayholds_k11_whole_nets_told" 479
def kk:Params->PySem.W.Frag:=λ P=>[(2,⟨VN,none,(.dict #[] 0),#[]⟩),
 (3,⟨(VT "dict"),none,(.dict #[KE P "__name__" 165 pV1,KE P "__doc__" 166 VN,KE P "__package__" 167 VN,KE P "__loader__" 168 (VB "__main__.__loader__#opaque"),KE P "__spec__" 169 VN,KE P "__annotations__" 170 (VR 6),KE P "__builtins__" 171 (VR 4),KE P "__file__" 173 (VS "/claim/cut.py" 172),KE P "__cached__" 174 VN,KE P "RelayError" 206 (VR 24),KE P "NoNet" 231 (VR 44),KE P "MOST_SIGNS" 235 (VI 8 234),KE P "MOST_KEYS" 237 (VI 2 236),KE P "MOST_RELAYS" 239 (VI 4 238),KE P "MOST_LAMPS" 241 (VI 2 240),KE P "LEAST_NODES" 243 (VI 2 242),KE P "MOST_NODES" 245 (VI 640 244),KE P "MOST_PIECES" 247 (VI 800 246),KE P "LEAST_TIME" 249 (VI 1 248),KE P "MOST_TIME" 251 (VI 4 250),KE P "MANY_ENDS" 270 (VR 47),KE P "Net" 351 (VR 106),KE P "check_net" 363 (VR 117),KE P "check_words" 373 (VR 124),KE P "first_wrong_word" 383 (VR 131),KE P "is_word" 389 (VR 136),KE P "check_many" 402 (VR 143),KE P "check_sizes" 410 (VR 150),KE P "check_pieces" 425 (VR 157),KE P "is_piece" 436 (VR 164),KE P "ends_of" 443 (VR 171),KE P "are_unlike_nodes" 449 (VR 176),KE P "is_whole" 456 (VR 183),KE P "check_just_one" 462 (VR 188),KE P "check_times" 472 (VR 195),KE P "are_times" 478 (VR 200),KE P "_law_pot" 489 (VR 207),KE P "_law_take" 498 (VR 214),KE P "_law_word" 504 (VR 219),KE P "_law_unlike" 510 (VR 224),KE P "_law_piece" 521 (VR 231),KE P "_law_times" 530 (VR 238),KE P "_law_net" 536 (VR 243),KE P "_law_copy" 549 (VR 250),KE P "_law_made" 556 (VR 257),KE P "_law_told" 563 (VR 264),KE P "_law_right" 573 (VR 271),KE P "law" 579 (VR 276)] 48),#[]⟩),
 (47,⟨(VT "dict"),none,(.dict #[KE P "wire" 252 (VI 2 253),KE P "made" 254 (VI 2 255),KE P "broken" 256 (VI 2 257),KE P "swap" 258 (VI 3 259),KE P "coil" 260 (VI 2 261),KE P "lamp" 262 (VI 2 263)] 6),#[]⟩),
 (60,⟨(VT "code"),none,(.fields #[(VS "__init__" 283),(VS "Net.__init__" 284),(VS "/claim/cut.py" 285),(VI 21 0),(VI 7 0),(VI 0 0),(VI 0 0),(VI 3 0),(VR 55),(.bool true),(VI 181 0),(VR 56),VN,(VR 57),(VR 58),(VR 59),(VI 293 0),(VI 21 0),(VS "/claim/cut.py" 294)]),#[]⟩),
 (61,⟨(VT "function"),none,(hFD (hI 14 0) "Net.__init__" 3 [] VN VN VN pV0 none (VR 60) VN 0),#[]⟩),
 (67,⟨(VT "code"),none,(.fields #[(VS "key_words" 296),(VS "Net.key_words" 297),(VS "/claim/cut.py" 298),(VI 30 0),(VI 1 0),(VI 0 0),(VI 0 0),(VI 3 0),(VR 62),(.bool true),(VI 181 0),(VR 63),VN,(VR 64),(VR 65),(VR 66),(VI 300 0),(VI 30 0),(VS "/claim/cut.py" 301)]),#[]⟩),
 (68,⟨(VT "function"),none,(hFD (hI 14 1) "Net.key_words" 3 [] VN VN VN pV0 none (VR 67) VN 0),#[]⟩),
 (74,⟨(VT "code"),none,(.fields #[(VS "relays" 303),(VS "Net.relays" 304),(VS "/claim/cut.py" 305),(VI 33 0),(VI 1 0),(VI 0 0),(VI 0 0),(VI 3 0),(VR 69),(.bool true),(VI 181 0),(VR 70),VN,(VR 71),(VR 72),(VR 73),(VI 307 0),(VI 33 0),(VS "/claim/cut.py" 308)]),#[]⟩),
 (75,⟨(VT "function"),none,(hFD (hI 14 2) "Net.relays" 3 [] VN VN VN pV0 none (VR 74) VN 0),#[]⟩),
 (81,⟨(VT "code"),none,(.fields #[(VS "lamps" 310),(VS "Net.lamps" 311),(VS "/claim/cut.py" 312),(VI 36 0),(VI 1 0),(VI 0 0),(VI 0 0),(VI 3 0),(VR 76),(.bool true),(VI 181 0),(VR 77),VN,(VR 78),(VR 79),(VR 80),(VI 314 0),(VI 36 0),(VS "/claim/cut.py" 315)]),#[]⟩),
 (82,⟨(VT "function"),none,(hFD (hI 14 3) "Net.lamps" 3 [] VN VN VN pV0 none (VR 81) VN 0),#[]⟩),
 (88,⟨(VT "code"),none,(.fields #[(VS "nodes" 317),(VS "Net.nodes" 318),(VS "/claim/cut.py" 319),(VI 39 0),(VI 1 0),(VI 0 0),(VI 0 0),(VI 3 0),(VR 83),(.bool true),(VI 181 0),(VR 84),VN,(VR 85),(VR 86),(VR 87),(VI 321 0),(VI 39 0),(VS "/claim/cut.py" 322)]),#[]⟩),
 (89,⟨(VT "function"),none,(hFD (hI 14 4) "Net.nodes" 3 [] VN VN VN pV0 none (VR 88) VN 0),#[]⟩),
 (95,⟨(VT "code"),none,(.fields #[(VS "pieces" 324),(VS "Net.pieces" 325),(VS "/claim/cut.py" 326),(VI 42 0),(VI 1 0),(VI 0 0),(VI 0 0),(VI 3 0),(VR 90),(.bool true),(VI 181 0),(VR 91),VN,(VR 92),(VR 93),(VR 94),(VI 328 0),(VI 42 0),(VS "/claim/cut.py" 329)]),#[]⟩),
 (96,⟨(VT "function"),none,(hFD (hI 14 5) "Net.pieces" 3 [] VN VN VN pV0 none (VR 95) VN 0),#[]⟩),
 (102,⟨(VT "code"),none,(.fields #[(VS "times" 331),(VS "Net.times" 332),(VS "/claim/cut.py" 333),(VI 45 0),(VI 1 0),(VI 0 0),(VI 0 0),(VI 3 0),(VR 97),(.bool true),(VI 181 0),(VR 98),VN,(VR 99),(VR 100),(VR 101),(VI 335 0),(VI 45 0),(VS "/claim/cut.py" 336)]),#[]⟩),
 (103,⟨(VT "function"),none,(hFD (hI 14 6) "Net.times" 3 [] VN VN VN pV0 none (VR 102) VN 0),#[]⟩),
 (105,⟨(VT "dict"),none,(.dict #[KE P "__module__" 278 pV0,KE P "__firstlineno__" 282 (VI 19 281),KE P "__init__" 295 (VR 61),KE P "key_words" 302 (VR 68),KE P "relays" 309 (VR 75),KE P "lamps" 316 (VR 82),KE P "nodes" 323 (VR 89),KE P "pieces" 330 (VR 96),KE P "times" 337 (VR 103),KE P "__static_attributes__" 344 (VR 104),KE P "__dict__" 346 (VR 107),KE P "__weakref__" 348 (VR 108),KE P "__doc__" 349 VN] 4),#[]⟩),
 (106,⟨(VT "type"),none,(.cls {name:="Net",bases:=[.type "object"],mro:=[.ref 106,.type "object"],ns:=105,qualname:="Net"}),#[none,none,(some (VS "Net" 271)),(some (VS "Net" 279)),(some (VB "object.__new__")),(some (.bool true))]⟩),
 (116,⟨(VT "code"),none,(.fields #[(VS "check_net" 352),(VS "check_net" 353),(VS "/claim/cut.py" 354),(VI 47 0),(VI 6 0),(VI 0 0),(VI 0 0),(VI 3 0),(VR 111),(.bool true),(VI 181 0),(VR 112),VN,(VR 113),(VR 114),(VR 115),(VI 361 0),(VI 47 0),(VS "/claim/cut.py" 362)]),#[]⟩),
 (117,⟨(VT "function"),none,(hFD (top 15) "check_net" 3 [] VN VN VN pV0 none (VR 116) VN 0),#[]⟩),
 (123,⟨(VT "code"),none,(.fields #[(VS "check_words" 364),(VS "check_words" 365),(VS "/claim/cut.py" 366),(VI 55 0),(VI 3 0),(VI 0 0),(VI 0 0),(VI 3 0),(VR 118),(.bool true),(VI 181 0),(VR 119),VN,(VR 120),(VR 121),(VR 122),(VI 371 0),(VI 55 0),(VS "/claim/cut.py" 372)]),#[]⟩),
 (124,⟨(VT "function"),none,(hFD (top 16) "check_words" 3 [] VN VN VN pV0 none (VR 123) VN 0),#[]⟩),
 (130,⟨(VT "code"),none,(.fields #[(VS "first_wrong_word" 374),(VS "first_wrong_word" 375),(VS "/claim/cut.py" 376),(VI 59 0),(VI 1 0),(VI 0 0),(VI 0 0),(VI 3 0),(VR 125),(.bool true),(VI 181 0),(VR 126),VN,(VR 127),(VR 128),(VR 129),(VI 381 0),(VI 59 0),(VS "/claim/cut.py" 382)]),#[]⟩),
 (131,⟨(VT "function"),none,(hFD (top 17) "first_wrong_word" 3 [] VN VN VN pV0 none (VR 130) VN 0),#[]⟩),
 (135,⟨(VT "code"),none,(.fields #[(VS "is_word" 384),(VS "is_word" 385),(VS "/claim/cut.py" 386),(VI 66 0),(VI 1 0),(VI 0 0),(VI 0 0),(VI 3 0),(VR 132),(.bool true),(VI 181 0),(VR 133),VN,VN,VN,(VR 134),(VI 387 0),(VI 66 0),(VS "/claim/cut.py" 388)]),#[]⟩),
 (136,⟨(VT "function"),none,(hFD (top 18) "is_word" 3 [] VN VN VN pV0 none (VR 135) VN 0),#[]⟩),
 (142,⟨(VT "code"),none,(.fields #[(VS "check_many" 390),(VS "check_many" 391),(VS "/claim/cut.py" 392),(VI 68 0),(VI 3 0),(VI 0 0),(VI 0 0),(VI 3 0),(VR 137),(.bool true),(VI 181 0),(VR 138),VN,(VR 139),(VR 140),(VR 141),(VI 400 0),(VI 68 0),(VS "/claim/cut.py" 401)]),#[]⟩),
 (143,⟨(VT "function"),none,(hFD (top 19) "check_many" 3 [] VN VN VN pV0 none (VR 142) VN 0),#[]⟩),
 (149,⟨(VT "code"),none,(.fields #[(VS "check_sizes" 403),(VS "check_sizes" 404),(VS "/claim/cut.py" 405),(VI 73 0),(VI 2 0),(VI 0 0),(VI 0 0),(VI 3 0),(VR 144),(.bool true),(VI 181 0),(VR 145),VN,(VR 146),(VR 147),(VR 148),(VI 408 0),(VI 73 0),(VS "/claim/cut.py" 409)]),#[]⟩),
 (150,⟨(VT "function"),none,(hFD (top 20) "check_sizes" 3 [] VN VN VN pV0 none (VR 149) VN 0),#[]⟩),
 (156,⟨(VT "code"),none,(.fields #[(VS "check_pieces" 411),(VS "check_pieces" 412),(VS "/claim/cut.py" 413),(VI 78 0),(VI 5 0),(VI 0 0),(VI 0 0),(VI 3 0),(VR 151),(.bool true),(VI 181 0),(VR 152),VN,(VR 153),(VR 154),(VR 155),(VI 423 0),(VI 78 0),(VS "/claim/cut.py" 424)]),#[]⟩),
 (157,⟨(VT "function"),none,(hFD (top 21) "check_pieces" 3 [] VN VN VN pV0 none (VR 156) VN 0),#[]⟩),
 (163,⟨(VT "code"),none,(.fields #[(VS "is_piece" 426),(VS "is_piece" 427),(VS "/claim/cut.py" 428),(VI 84 0),(VI 3 0),(VI 0 0),(VI 0 0),(VI 3 0),(VR 158),(.bool true),(VI 181 0),(VR 159),VN,(VR 160),(VR 161),(VR 162),(VI 434 0),(VI 84 0),(VS "/claim/cut.py" 435)]),#[]⟩),
 (164,⟨(VT "function"),none,(hFD (top 22) "is_piece" 3 [] VN VN VN pV0 none (VR 163) VN 0),#[]⟩),
 (170,⟨(VT "code"),none,(.fields #[(VS "ends_of" 437),(VS "ends_of" 438),(VS "/claim/cut.py" 439),(VI 92 0),(VI 1 0),(VI 0 0),(VI 0 0),(VI 3 0),(VR 165),(.bool true),(VI 181 0),(VR 166),VN,(VR 167),(VR 168),(VR 169),(VI 441 0),(VI 92 0),(VS "/claim/cut.py" 442)]),#[]⟩),
 (171,⟨(VT "function"),none,(hFD (top 23) "ends_of" 3 [] VN VN VN pV0 none (VR 170) VN 0),#[]⟩),
 (175,⟨(VT "code"),none,(.fields #[(VS "are_unlike_nodes" 444),(VS "are_unlike_nodes" 445),(VS "/claim/cut.py" 446),(VI 94 0),(VI 2 0),(VI 0 0),(VI 0 0),(VI 3 0),(VR 172),(.bool true),(VI 181 0),(VR 173),VN,VN,VN,(VR 174),(VI 447 0),(VI 94 0),(VS "/claim/cut.py" 448)]),#[]⟩),
 (176,⟨(VT "function"),none,(hFD (top 24) "are_unlike_nodes" 3 [] VN VN VN pV0 none (VR 175) VN 0),#[]⟩),
 (182,⟨(VT "code"),none,(.fields #[(VS "is_whole" 450),(VS "is_whole" 451),(VS "/claim/cut.py" 452),(VI 96 0),(VI 1 0),(VI 0 0),(VI 0 0),(VI 3 0),(VR 177),(.bool true),(VI 181 0),(VR 178),VN,(VR 179),(VR 180),(VR 181),(VI 454 0),(VI 96 0),(VS "/claim/cut.py" 455)]),#[]⟩),
 (183,⟨(VT "function"),none,(hFD (top 25) "is_whole" 3 [] VN VN VN pV0 none (VR 182) VN 0),#[]⟩),
 (187,⟨(VT "code"),none,(.fields #[(VS "check_just_one" 457),(VS "check_just_one" 458),(VS "/claim/cut.py" 459),(VI 98 0),(VI 3 0),(VI 0 0),(VI 0 0),(VI 3 0),(VR 184),(.bool true),(VI 181 0),(VR 185),VN,VN,VN,(VR 186),(VI 460 0),(VI 98 0),(VS "/claim/cut.py" 461)]),#[]⟩),
 (188,⟨(VT "function"),none,(hFD (top 26) "check_just_one" 3 [] VN VN VN pV0 none (VR 187) VN 0),#[]⟩),
 (194,⟨(VT "code"),none,(.fields #[(VS "check_times" 463),(VS "check_times" 464),(VS "/claim/cut.py" 465),(VI 103 0),(VI 2 0),(VI 0 0),(VI 0 0),(VI 3 0),(VR 189),(.bool true),(VI 181 0),(VR 190),VN,(VR 191),(VR 192),(VR 193),(VI 470 0),(VI 103 0),(VS "/claim/cut.py" 471)]),#[]⟩),
 (195,⟨(VT "function"),none,(hFD (top 27) "check_times" 3 [] VN VN VN pV0 none (VR 194) VN 0),#[]⟩),
 (199,⟨(VT "code"),none,(.fields #[(VS "are_times" 473),(VS "are_times" 474),(VS "/claim/cut.py" 475),(VI 109 0),(VI 1 0),(VI 0 0),(VI 0 0),(VI 3 0),(VR 196),(.bool true),(VI 181 0),(VR 197),VN,VN,VN,(VR 198),(VI 476 0),(VI 109 0),(VS "/claim/cut.py" 477)]),#[]⟩),
 (200,⟨(VT "function"),none,(hFD (top 28) "are_times" 3 [] VN VN VN pV0 none (VR 199) VN 0),#[]⟩),
 (206,⟨(VT "code"),none,(.fields #[(VS "_law_pot" 481),(VS "_law_pot" 482),(VS "/claim/cut.py" 483),(VI 114 0),(VI 2 0),(VI 0 0),(VI 0 0),(VI 3 0),(VR 201),(.bool true),(VI 181 0),(VR 202),VN,(VR 203),(VR 204),(VR 205),(VI 487 0),(VI 114 0),(VS "/claim/cut.py" 488)]),#[]⟩),
 (207,⟨(VT "function"),none,(hFD (top 30) "_law_pot" 3 [] VN VN VN pV1 none (VR 206) VN 0),#[]⟩),
 (213,⟨(VT "code"),none,(.fields #[(VS "_law_take" 490),(VS "_law_take" 491),(VS "/claim/cut.py" 492),(VI 119 0),(VI 2 0),(VI 0 0),(VI 0 0),(VI 3 0),(VR 208),(.bool true),(VI 181 0),(VR 209),VN,(VR 210),(VR 211),(VR 212),(VI 496 0),(VI 119 0),(VS "/claim/cut.py" 497)]),#[]⟩),
 (214,⟨(VT "function"),none,(hFD (top 31) "_law_take" 3 [] VN VN VN pV1 none (VR 213) VN 0),#[]⟩),
 (218,⟨(VT "code"),none,(.fields #[(VS "_law_word" 499),(VS "_law_word" 500),(VS "/claim/cut.py" 501),(VI 125 0),(VI 2 0),(VI 0 0),(VI 0 0),(VI 3 0),(VR 215),(.bool true),(VI 181 0),(VR 216),VN,VN,VN,(VR 217),(VI 502 0),(VI 125 0),(VS "/claim/cut.py" 503)]),#[]⟩),
 (219,⟨(VT "function"),none,(hFD (top 32) "_law_word" 3 [] VN VN VN pV1 none (VR 218) VN 0),#[]⟩),
 (223,⟨(VT "code"),none,(.fields #[(VS "_law_unlike" 505),(VS "_law_unlike" 506),(VS "/claim/cut.py" 507),(VI 137 0),(VI 3 0),(VI 0 0),(VI 0 0),(VI 3 0),(VR 220),(.bool true),(VI 181 0),(VR 221),VN,VN,VN,(VR 222),(VI 508 0),(VI 137 0),(VS "/claim/cut.py" 509)]),#[]⟩),
 (224,⟨(VT "function"),none,(hFD (top 33) "_law_unlike" 3 [] VN VN VN pV1 none (VR 223) VN 0),#[]⟩),
 (230,⟨(VT "code"),none,(.fields #[(VS "_law_piece" 511),(VS "_law_piece" 512),(VS "/claim/cut.py" 513),(VI 140 0),(VI 3 0),(VI 0 0),(VI 0 0),(VI 3 0),(VR 225),(.bool true),(VI 181 0),(VR 226),VN,(VR 227),(VR 228),(VR 229),(VI 519 0),(VI 140 0),(VS "/claim/cut.py" 520)]),#[]⟩),
 (231,⟨(VT "function"),none,(hFD (top 34) "_law_piece" 3 [] VN VN VN pV1 none (VR 230) VN 0),#[]⟩),
 (237,⟨(VT "code"),none,(.fields #[(VS "_law_times" 522),(VS "_law_times" 523),(VS "/claim/cut.py" 524),(VI 148 0),(VI 1 0),(VI 0 0),(VI 0 0),(VI 3 0),(VR 232),(.bool true),(VI 181 0),(VR 233),VN,(VR 234),(VR 235),(VR 236),(VI 528 0),(VI 148 0),(VS "/claim/cut.py" 529)]),#[]⟩),
 (238,⟨(VT "function"),none,(hFD (top 35) "_law_times" 3 [] VN VN VN pV1 none (VR 237) VN 0),#[]⟩),
 (242,⟨(VT "code"),none,(.fields #[(VS "_law_net" 531),(VS "_law_net" 532),(VS "/claim/cut.py" 533),(VI 151 0),(VI 2 0),(VI 0 0),(VI 0 0),(VI 3 0),(VR 239),(.bool true),(VI 181 0),(VR 240),VN,VN,VN,(VR 241),(VI 534 0),(VI 151 0),(VS "/claim/cut.py" 535)]),#[]⟩),
 (243,⟨(VT "function"),none,(hFD (top 36) "_law_net" 3 [] VN VN VN pV1 none (VR 242) VN 0),#[]⟩),
 (249,⟨(VT "code"),none,(.fields #[(VS "_law_copy" 537),(VS "_law_copy" 538),(VS "/claim/cut.py" 539),(VI 163 0),(VI 1 0),(VI 0 0),(VI 0 0),(VI 3 0),(VR 244),(.bool true),(VI 181 0),(VR 245),VN,(VR 246),(VR 247),(VR 248),(VI 547 0),(VI 163 0),(VS "/claim/cut.py" 548)]),#[]⟩),
 (250,⟨(VT "function"),none,(hFD (top 37) "_law_copy" 3 [] VN VN VN pV1 none (VR 249) VN 0),#[]⟩),
 (256,⟨(VT "code"),none,(.fields #[(VS "_law_made" 550),(VS "_law_made" 551),(VS "/claim/cut.py" 552),(VI 166 0),(VI 1 0),(VI 0 0),(VI 0 0),(VI 3 0),(VR 251),(.bool true),(VI 181 0),(VR 252),VN,(VR 253),(VR 254),(VR 255),(VI 554 0),(VI 166 0),(VS "/claim/cut.py" 555)]),#[]⟩),
 (257,⟨(VT "function"),none,(hFD (top 38) "_law_made" 3 [] VN VN VN pV1 none (VR 256) VN 0),#[]⟩),
 (263,⟨(VT "code"),none,(.fields #[(VS "_law_told" 557),(VS "_law_told" 558),(VS "/claim/cut.py" 559),(VI 168 0),(VI 1 0),(VI 0 0),(VI 0 0),(VI 3 0),(VR 258),(.bool true),(VI 181 0),(VR 259),VN,(VR 260),(VR 261),(VR 262),(VI 561 0),(VI 168 0),(VS "/claim/cut.py" 562)]),#[]⟩),
 (264,⟨(VT "function"),none,(hFD (top 39) "_law_told" 3 [] VN VN VN pV1 none (VR 263) VN 0),#[]⟩),
 (270,⟨(VT "code"),none,(.fields #[(VS "_law_right" 564),(VS "_law_right" 565),(VS "/claim/cut.py" 566),(VI 170 0),(VI 2 0),(VI 0 0),(VI 0 0),(VI 3 0),(VR 265),(.bool true),(VI 181 0),(VR 266),VN,(VR 267),(VR 268),(VR 269),(VI 571 0),(VI 170 0),(VS "/claim/cut.py" 572)]),#[]⟩),
 (271,⟨(VT "function"),none,(hFD (top 40) "_law_right" 3 [] VN VN VN pV1 none (VR 270) VN 0),#[]⟩),
 (275,⟨(VT "code"),none,(.fields #[(VS "law" 574),(VS "law" 575),(VS "/claim/cut.py" 576),(VI 181 0),(VI 1 0),(VI 0 0),(VI 0 0),(VI 3 0),(VR 272),(.bool true),(VI 181 0),(VR 273),VN,VN,VN,(VR 274),(VI 577 0),(VI 181 0),(VS "/claim/cut.py" 578)]),#[]⟩),
 (276,⟨(VT "function"),none,(hFD (top 41) "law" 3 [] VN VN VN pV1 none (VR 275) VN 0),#[]⟩)]
def ka:List Addr:=[2,3,47,60,61,67,68,74,75,81,82,88,89,95,96,102,103,105,106,116,117,123,124,130,131,135,136,142,143,149,150,156,157,163,164,170,171,175,176,182,183,187,188,194,195,199,200,206,207,213,214,218,219,223,224,230,231,237,238,242,243,249,250,256,257,263,264,270,271,275,276]
def qv:Program:=PySem.W.view PySem.Challenge.pw_relayholds_k11_whole_nets_told [1,2,4,5,6,7,8,9,10,11,12,13,14,15,16,17,18,19,20,21,22,23,24,25,26,27,28,30,31,32,33,34,35,36,37,38,39,40,41]
theorem C4 (w:PySem.World):Option.map (λ s=>(PySem.W.openSeen qv ["MANY_ENDS"] (PySem.importedModules (PySem.W.OpenLaw.row PySem.Challenge.rw_relayholds_k11_whole_nets_told).prog.main.body) (λ s=>PySem.W.xlAt qv [] s&&PySem.W.recOk (PySem.W.RowW.records (PySem.W.OpenRow.toRowW (PySem.W.OpenLaw.row PySem.Challenge.rw_relayholds_k11_whole_nets_told))) s) true s,(PySem.W.kHook kk ka (λ _=>by kernel_rfl)).obs s)) (PySem.W.openEnds PySem.treeTable (PySem.W.OpenLaw.row PySem.Challenge.rw_relayholds_k11_whole_nets_told).prog (w.withFollow "special-get-raises" false) 3804)=some (PySem.W.openGood qv ["MANY_ENDS"],(PySem.W.kHook kk ka (λ _=>by kernel_rfl)).val (w.withFollow "special-get-raises" false)):=by kernel_rfl
theorem C5 (w:PySem.World):Option.map (λ s=>(PySem.W.openSeen qv ["MANY_ENDS"] (PySem.importedModules (PySem.W.OpenLaw.row PySem.Challenge.rw_relayholds_k11_whole_nets_told).prog.main.body) (λ s=>PySem.W.xlAt qv [] s&&PySem.W.recOk (PySem.W.RowW.records (PySem.W.OpenRow.toRowW (PySem.W.OpenLaw.row PySem.Challenge.rw_relayholds_k11_whole_nets_told))) s) true s,(PySem.W.kHook kk ka (λ _=>by kernel_rfl)).obs s)) (PySem.W.openEnds PySem.treeTable (PySem.W.OpenLaw.row PySem.Challenge.rw_relayholds_k11_whole_nets_told).prog (w.withFollow "special-get-raises" true) 3804)=some (PySem.W.openGood qv ["MANY_ENDS"],(PySem.W.kHook kk ka (λ _=>by kernel_rfl)).val (w.withFollow "special-get-raises" true)):=by kernel_rfl
theorem hdl:PySem.W.LeftO (PySem.W.OpenLaw.row PySem.Challenge.rw_relayholds_k11_whole_nets_told).prog qv ["MANY_ENDS"] (λ s=>PySem.W.xlAt qv [] s&&PySem.W.recOk (PySem.W.RowW.records (PySem.W.OpenRow.toRowW (PySem.W.OpenLaw.row PySem.Challenge.rw_relayholds_k11_whole_nets_told))) s) (PySem.W.kHook kk ka (λ _=>by kernel_rfl)).obs (PySem.W.kHook kk ka (λ _=>by kernel_rfl)).val 3804:=PySem.W.byRow2 "special-get-raises" C4 C5
theorem hsd:PySem.W.OpenLaw.wellSaid PySem.Challenge.rw_relayholds_k11_whole_nets_told=true:=by kernel_rfl
end My
section
namespace L2
open PySem PySem.Spec PyProof.Rows
abbrev Key:=Sum Int Str
noncomputable def gF:Key->Value->Bool
 | .inl k,v=>Value.isInt k v
 | .inr x,v=>Value.isStrOf x v
noncomputable def C6 (w:World):Key->Int
 | .inl k=>hashInt k
 | .inr x=>hashStr w x
theorem aX:∀{k:Key} {v:Value},gF k v=true->(∃i t,k=Sum.inl i/\v=Value.int i t)\/(∃x t,k=Sum.inr x/\v=Value.str x t)
 | .inl i,v,h=>by
  obtain ⟨t,e⟩:=Value.isInt_shape (k:=i) (v:=v) h
  exact .inl ⟨i,t,rfl,e⟩
 | .inr x,v,h=>by
  obtain ⟨t,e⟩:=Value.isStrOf_shape (x:=x) (v:=v) h
  exact .inr ⟨x,t,rfl,e⟩
theorem iY (i:Int) (t:Tok):gF (.inl i) (.int i t)=true:=by simp [gF,Value.isInt]
theorem iZ (x:Str) (t:Tok):gF (.inr x) (.str x t)=true:=by simp [gF,Value.isStrOf]
theorem yw (a b:Int):decide ((Sum.inl a:Key)=Sum.inl b)=(a==b):=by
 by_cases e:a=b
 ·subst e; simp
 ·have h:¬(Sum.inl a:Key)=Sum.inl b:=λ q=>e (Sum.inl.inj q)
  rw [decide_eq_false h]
  exact (beq_eq_false_iff_ne.mpr e).symm
theorem yx (a b:Str):decide ((Sum.inr a:Key)=Sum.inr b)=decide (a=b):=by
 by_cases e:a=b
 ·subst e; simp
 ·have h:¬(Sum.inr a:Key)=Sum.inr b:=λ q=>e (Sum.inr.inj q)
  rw [decide_eq_false h,decide_eq_false e]
theorem yy (a:Int) (b:Str):decide ((Sum.inl a:Key)=Sum.inr b)=false:=decide_eq_false (λ q=>nomatch q)
theorem yz (a:Str) (b:Int):decide ((Sum.inr a:Key)=Sum.inl b)=false:=decide_eq_false (λ q=>nomatch q)
noncomputable def aR (prog:Program) (w:World):PySem.KeyKind prog w Key where
 is:=gF
 hash:=C6 w
 inj:=λ v a b ha hb=>by
  rcases aX ha with ⟨i,t,rfl,rfl⟩ | ⟨x,t,rfl,rfl⟩
  ·rcases aX hb with ⟨j,u,rfl,e⟩ | ⟨y,u,rfl,e⟩
   ·injection e with e1 _; rw [e1]
   ·exact nomatch e
  ·rcases aX hb with ⟨j,u,rfl,e⟩ | ⟨y,u,rfl,e⟩
   ·exact nomatch e
   ·injection e with e1 _; rw [e1]
 byValue:=λ k v h=>by
  rcases aX h with ⟨i,t,rfl,rfl⟩ | ⟨x,t,rfl,rfl⟩<;>rfl
 pyHash:=λ hv h=>by
  rcases aX hv with ⟨i,t,rfl,rfl⟩ | ⟨x,t,rfl,rfl⟩
  ·exact wpAny_pyHash_int h
  ·exact wpAny_pyHash_str h
 eqBool:=λ hu hv h=>by
  rcases aX hu with ⟨i,t,rfl,rfl⟩ | ⟨x,t,rfl,rfl⟩
  ·rcases aX hv with ⟨j,u,rfl,rfl⟩ | ⟨y,u,rfl,rfl⟩
   ·rw [yw] at h; exact wpAny_eqBool_int h
   ·rw [yy] at h; exact SeqAt.EqAt.int_str i t y u _ _ _ _ h
  ·rcases aX hv with ⟨j,u,rfl,rfl⟩ | ⟨y,u,rfl,rfl⟩
   ·rw [yz] at h; exact SeqAt.EqAt.str_int x t j u _ _ _ _ h
   ·rw [yx] at h; exact wpAny_eqBool_str h
 «strs»:=λ k x t v h=>by
  rcases aX h with ⟨i,u,rfl,e⟩ | ⟨y,u,rfl,e⟩
  ·exact nomatch e
  ·injection e with e1 _
   subst e1
   cases v<;>rfl
theorem ko (prog:Program) (w:World) (i:Int) (t:Tok):(aR prog w).is (.inl i) (.int i t)=true:=iY i t
theorem kq (prog:Program) (w:World) (x:Str) (t:Tok):(aR prog w).is (.inr x) (.str x t)=true:=iZ x t
end L2
namespace L2
open PySem PySem.Spec PyProof.Rows
inductive V where
 | non | bl (b:Bool) | int (i:Int) | str (x:Str) | byt (b:Array UInt8) | flt (b:UInt64) | ref (a:Addr) | ty (n:String)
 deriving DecidableEq
noncomputable def RelV:V->Value->Prop
 | .non,u=>u=Value.none
 | .bl b,u=>u=Value.bool b
 | .int i,u=>∃t,u=Value.int i t
 | .str x,u=>∃t,u=Value.str x t
 | .byt b,u=>∃t,u=Value.bytes b t
 | .flt b,u=>∃t,u=Value.float b t
 | .ref a,u=>u=Value.ref a
 | .ty n,u=>u=Value.type n
abbrev Vals:List V->List Value->Prop:=Paired RelV
theorem Vals.length {xs:List V} {us:List Value} (r:Vals xs us):xs.length=us.length:=Paired.length r
theorem Vals.get:∀{xs:List V} {us:List Value} {i:Nat} {x:V},Vals xs us->xs[i]?=some x->∃u,us[i]?=some u/\RelV x u
 | _,_,_,_,.nil,e=>by simp at e
 | _,_,0,_,.cons r _,e=>by simp at e; subst e; exact ⟨_,rfl,r⟩
 | _,_,i+1,x,.cons _ t,e=>by
  obtain ⟨u,h1,h2⟩:=Vals.get (i:=i) (x:=x) t (by simpa using e)
  exact ⟨u,by simpa using h1,h2⟩
theorem Vals.set {x:V} {u:Value} (r:RelV x u):∀{xs:List V} {us:List Value} (i:Nat),Vals xs us->Vals (xs.set i x) (us.set i u)
 | _,_,_,.nil=>.nil
 | _,_,0,.cons _ t=>.cons r t
 | _,_,i+1,.cons q t=>.cons q (Vals.set r i t)
theorem Vals.append:∀{xs ys:List V} {us ws:List Value},Vals xs us->Vals ys ws->Vals (xs++ys) (us++ws)
 | _,_,_,_,.nil,s=>s
 | _,_,_,_,.cons r t,s=>.cons r (Vals.append t s)
theorem Vals.take:∀{xs:List V} {us:List Value} (n:Nat),Vals xs us->Vals (xs.take n) (us.take n)
 | _,_,0,_=>.nil
 | _,_,_+1,.nil=>.nil
 | _,_,n+1,.cons r t=>.cons r (Vals.take n t)
theorem Vals.drop:∀{xs:List V} {us:List Value} (n:Nat),Vals xs us->Vals (xs.drop n) (us.drop n)
 | _,_,0,r=>r
 | _,_,_+1,.nil=>.nil
 | _,_,n+1,.cons _ t=>Vals.drop n t
noncomputable def cU:Option V->Option Value->Prop
 | some v,some u=>RelV v u
 | none,none=>True
 | _,_=>False
noncomputable def KV {κ:Type}:List (κ×V)->List (κ×Value)->Prop:=Paired λ (p:κ×V) (q:κ×Value)=>p.1=q.1/\RelV p.2 q.2
noncomputable def kV:Key->V
 | .inl i=>.int i
 | .inr x=>.str x
inductive HO where
 | lst (xs:List V)
 | tup (xs:List V)
 | dK (kvs:List (Key×V)) | dT (kvs:List (List Key×V))
 | set (S:Int->Bool) (n:Nat)
 | ins (C dx:Addr) (fs:List (Str×V))
 | own (x:Addr)
 | xd (fs:List (Str×V))
 | met (f x:Addr)
 | rng (lo hi:Int)
 | frz (o:Obj) (u:HO)
 | tbl (ps:Array Value)
 | ext (φ:Heap->Prop)
abbrev Hp:=Addr->Option HO
noncomputable def upd (H:Hp) (a:Addr) (o:HO):Hp:=λ b=>if b=a then some o else H b
theorem aA {H:Hp} {a:Addr} {o:HO}:upd H a o a=some o:=by unfold upd; rw [if_pos rfl]
theorem ai {H:Hp} {a b:Addr} {o:HO} (h:b≠a):upd H a o b=H b:=by unfold upd; rw [if_neg h]
theorem aq {H:Hp} {a b:Addr} {o:HO} (h:H a=some o) (h':H b=none):a≠b:=by
 intro e; subst e; rw [h] at h'; cases h'
section
variable (P:Program) (w:World)
noncomputable def aT (H:Hp) (h:Heap) (a:Addr):HO->Prop
 | .lst xs=>xs.length<=sizeLine/\∃(its:List Value) (n:Nat),Vals xs its/\h.get? a=some {cls:=.type "list",data:=.seq its.toArray n}
 | .tup xs=>xs.length<=sizeLine/\∃its:List Value,Vals xs its/\IsTup h a its.toArray
 | .dK kvs=>kvs.length<=sizeLine/\(a==sysModules)=false/\∃vs,KV kvs vs/\h.DictOf (aR P w) a vs
 | .dT kvs=>kvs.length<=sizeLine/\(a==sysModules)=false/\∃xs:List (List Key×Addr×Value),
   Paired (λ (p:List Key×V) (q:List Key×Addr×Value)=>p.1=q.1/\H q.2.1=some (.tup (p.1.map kV))/\RelV p.2 q.2.2) kvs xs/\
   ∃o es ep,h.get? a=some o/\o.ExactDict/\o.data=.dict es ep/\es.toList=xs.map (entryOfKey (tupleKind (aR P w)))/\(xs.map (·.1)).Nodup
 | .set S n=>h.SetOf (intKind P w) a S n
 | .ins C dx fs=>H dx=some (.own a)/\fs.length<=1000/\dx≠a/\h.get? a=some (PySem.W.instObj C dx)/\
   ∃mA,h.Ns1 dx mA/\(∀f,cU (fs.lookup f) (mA f))/\PySem.Within mA (fs.map (·.1))
 | .own _=>∃o,h.get? a=some o
 | .xd fs=>∃mA,h.Ns1 a mA/\∀f,cU (fs.lookup f) (mA f)
 | .rng lo hi=>∃t u v,h.get? a=some {cls:=.type "range",data:=.fields #[.int lo t,.int hi u,.int 1 v]}
 | .frz o u=>h.get? a=some o/\aT H h a u
 | .tbl ps=>h.get? a=some {cls:=.none,data:=.fields ps}
 | .met f x=>h.get? a=some (PySem.W.methodObj (.ref f) (.ref x))
 | .ext φ=>φ h/\(∃o,h.get? a=some o)/\∀h1 h2:Heap,φ h1->(∀o,h1.get? a=some o->h2.get? a=some o)->φ h2
noncomputable def HOk (H:Hp) (h:Heap):Prop:=∀a o,H a=some o->aT P w H h a o
end
section
variable {P:Program} {w:World} {H H':Hp} {h h':Heap} {a:Addr} {o:HO}
theorem aT.lt (x:aT P w H h a o):a < h.objs.size:=by
 cases o with
 | lst xs=>obtain ⟨_,_,_,_,e⟩:=x; exact Heap.lt_size e
 | tup xs=>obtain ⟨_,_,_,p⟩:=x; exact p.lt
 | dK kvs=>obtain ⟨_,_,_,_,o,_,_,e,_⟩:=x; exact Heap.lt_size e
 | dT kvs=>obtain ⟨_,_,_,_,o,_,_,e,_⟩:=x; exact Heap.lt_size e
 | set S n=>obtain ⟨o,_,_,_,e,_⟩:=x; exact Heap.lt_size e
 | ins C dx fs=>obtain ⟨_,_,_,e,_⟩:=x; exact Heap.lt_size e
 | own y=>obtain ⟨_,e⟩:=x; exact Heap.lt_size e
 | xd fs=>obtain ⟨_,⟨_,_,_,e,_⟩,_⟩:=x; exact Heap.lt_size e
 | rng lo hi=>obtain ⟨_,_,_,e⟩:=x; exact Heap.lt_size e
 | frz ob u=>obtain ⟨e,_⟩:=x; exact Heap.lt_size e
 | tbl ps=>exact Heap.lt_size (show h.get? a=some _ from x)
 | met f y=>exact Heap.lt_size (show h.get? a=some _ from x)
 | ext φ=>obtain ⟨_,⟨_,e⟩,_⟩:=x; exact Heap.lt_size e
theorem Paired.A4 {α β:Type} {F G:α->β->Prop}:∀{l₁:List α} {l₂:List β},Paired F l₁ l₂->(∀a b,F a b->G a b)->Paired G l₁ l₂
 | _,_,.nil,_=>.nil
 | _,_,.cons r t,f=>.cons (f _ _ r) (Paired.A4 t f)
theorem aT.stay (x:aT P w H h a o) (k:∀b u,(b=a\/H b=some (.own a))->h.get? b=some u->h'.get? b=some u)
  (ho:∀b,H b=some (.own a)->H' b=some (.own a)) (ht:∀b xs,H b=some (.tup xs)->H' b=some (.tup xs)):aT P w H' h' a o:=by
 induction o with
 | lst xs=>obtain ⟨z,its,n,r,e⟩:=x; exact ⟨z,its,n,r,k _ _ (.inl rfl) e⟩
 | tup xs=>obtain ⟨z,its,r,ob,e,c⟩:=x; exact ⟨z,its,r,ob,k _ _ (.inl rfl) e,c⟩
 | dK kvs=>obtain ⟨z,y,vs,r,ob,es,ep,e,c⟩:=x; exact ⟨z,y,vs,r,ob,es,ep,k _ _ (.inl rfl) e,c⟩
 | dT kvs=>
  obtain ⟨z,y,xs,r,ob,es,ep,e,c⟩:=x
  exact ⟨z,y,xs,Paired.A4 r λ p q z=>⟨z.1,ht _ _ z.2.1,z.2.2⟩,ob,es,ep,k _ _ (.inl rfl) e,c⟩
 | set S n=>obtain ⟨ob,es,ep,t,e,c⟩:=x; exact ⟨ob,es,ep,t,k _ _ (.inl rfl) e,c⟩
 | ins C dx fs=>
  obtain ⟨d,z,ne,e,mA,⟨od,es,ep,e2,c⟩,r⟩:=x
  exact ⟨ho _ d,z,ne,k _ _ (.inl rfl) e,mA,⟨od,es,ep,k _ _ (.inr d) e2,c⟩,r⟩
 | own y=>obtain ⟨ob,e⟩:=x; exact ⟨ob,k _ _ (.inl rfl) e⟩
 | xd fs=>obtain ⟨mA,⟨od,es,ep,e,c⟩,r⟩:=x; exact ⟨mA,⟨od,es,ep,k _ _ (.inl rfl) e,c⟩,r⟩
 | rng lo hi=>obtain ⟨t,u,v,e⟩:=x; exact ⟨t,u,v,k _ _ (.inl rfl) e⟩
 | frz ob u ih=>obtain ⟨e,q⟩:=x; exact ⟨k _ _ (.inl rfl) e,ih q⟩
 | tbl ps=>
  have e:h.get? a=some {cls:=.none,data:=.fields ps}:=x
  show h'.get? a=some {cls:=.none,data:=.fields ps}
  exact k a _ (.inl rfl) e
 | met f y=>
  have e:h.get? a=some (PySem.W.methodObj (.ref f) (.ref y)):=x
  show h'.get? a=some (PySem.W.methodObj (.ref f) (.ref y))
  exact k a _ (.inl rfl) e
 | ext φ=>obtain ⟨p,⟨o,e⟩,st⟩:=x; exact ⟨st _ _ p λ o q=>k _ _ (.inl rfl) q,⟨o,k _ _ (.inl rfl) e⟩,st⟩
theorem HOk.lt (x:HOk P w H h) (e:H a=some o):a < h.objs.size:=(x a o e).lt
theorem HOk.fresh (x:HOk P w H h) (e:h.objs.size<=a):H a=none:=by
 cases q:H a with
 | none=>rfl
 | some u=>exact absurd (Nat.lt_of_lt_of_le (x.lt q) e) (Nat.lt_irrefl _)
theorem HOk.kept (x:HOk P w H h) (k:∀b u,h.get? b=some u->h'.get? b=some u):HOk P w H h':=λ a o e=>
 (x a o e).stay (λ b u _ q=>k b u q) (λ _ q=>q) λ _ _ q=>q
theorem HOk.laid (x:HOk P w H h) (k:∀b u,h.get? b=some u->h'.get? b=some u) (hp:h.objs.size<=a) (new:aT P w (upd H a o) h' a o):HOk P w (upd H a o) h':=λ b u e=>by
 have hn:=x.fresh hp
 by_cases hb:b=a
 ·subst hb; rw [aA] at e; cases e; exact new
 ·rw [ai hb] at e
  exact (x b u e).stay (λ c v _ q=>k c v q) (λ c q=>by rw [ai (aq q hn)]; exact q) λ c xs q=>by rw [ai (aq q hn)]; exact q
end
noncomputable def Rd (H:Hp) (a:Addr) (u:HO):Prop:=H a=some u\/∃o,H a=some (.frz o u)
theorem Rd.ok {P:Program} {w:World} {H:Hp} {h:Heap} {a:Addr} {u:HO} (r:Rd H a u) (x:HOk P w H h):aT P w H h a u:=by
 rcases r with r | ⟨o,r⟩
 ·exact x a u r
 ·obtain ⟨_,q⟩:=x a _ r
  exact q
noncomputable def Mut:Option HO->Prop
 | some (.lst _)=>True
 | some (.dK _)=>True
 | some (.dT _)=>True
 | some (.set _ _)=>True
 | some (.ins _ _ _)=>True
 | some (.ext _)=>True
 | _=>False
section
variable {P:Program} {w:World} {H:Hp} {h h':Heap} {x e:Addr} {o':HO}
theorem HOk.write (ok:HOk P w H h) (mu:Mut (H x)) (he:e=x\/H e=some (.own x)) (k:∀b u,b≠e->h.get? b=some u->h'.get? b=some u) (heo:∃u,h'.get? e=some u)
  (new:aT P w (upd H x o') h' x o'):HOk P w (upd H x o') h':=λ b u q=>by
 have A5:∀c y,H c=some (.own y)->c≠x:=λ c y r z=>by subst z; rw [r] at mu; exact mu
 have C7:∀c xs,H c=some (.tup xs)->c≠x:=λ c xs r z=>by subst z; rw [r] at mu; exact mu
 by_cases hb:b=x
 ·subst hb; rw [aA] at q; cases q; exact new
 ·rw [ai hb] at q
  by_cases hbe:b=e
  ·have q':H b=some (.own x):=by
    rcases he with z | z
    ·exact absurd (hbe.trans z) hb
    ·rw [hbe]; exact z
   rw [q] at q'; cases q'
   obtain ⟨v,hv⟩:=heo
   exact ⟨v,by rw [hbe]; exact hv⟩
  ·refine (ok b u q).stay (λ c v hc r=>k c v ?_ r) (λ c r=>by rw [ai (A5 c b r)]; exact r) λ c xs r=>by rw [ai (C7 c xs r)]; exact r
   rcases hc with rfl | hc
   ·exact hbe
   ·rintro rfl
    rcases he with z | z
    ·exact A5 c b hc z
    ·rw [hc] at z; cases z; exact hb rfl
end
structure Un (fs ex:List Addr) (H H':Hp) (h h':Heap):Prop where
 keep:∀b o,h.get? b=some o->H b=none->b∉fs->b∉ex->h'.get? b=some o
 slot:∀b o,h.get? b=some o->H b=none->b∈fs->b∉ex->∃sl,h'.get? b=some {o with slots:=sl}
 free:∀b o,h.get? b=some o->H b=none->b∉ex->H' b=none
 there:∀b o,h.get? b=some o->b∉ex->∃o',h'.get? b=some o'
 tups:∀b xs,H b=some (.tup xs)->H' b=some (.tup xs)
 gi:∀b o u,H b=some (.frz o u)->H' b=some (.frz o u)
 gG:∀b ps,H b=some (.tbl ps)->∃more,H' b=some (.tbl (ps++more))
section
variable {fs fs' ex ex':List Addr} {H H1 H2:Hp} {h h1 h2 h':Heap} {a x e:Addr} {o:HO}
theorem Un.any (u:Un fs ex H H1 h h1) {b:Addr} {ob:Obj} (q:h.get? b=some ob) (n:H b=none) (hx:b∉ex):∃sl,h1.get? b=some {ob with slots:=sl}:=by
 by_cases hb:b∈fs
 ·exact u.slot b ob q n hb hx
 ·exact ⟨ob.slots,u.keep b ob q n hb hx⟩
theorem Un.kept (k:∀b u,h.get? b=some u->h'.get? b=some u):Un fs ex H H h h':=
 ⟨λ b ob q _ _ _=>k b ob q,λ b ob q _ _ _=>⟨ob.slots,k b ob q⟩,λ _ _ _ n _=>n,λ b ob q _=>⟨ob,k b ob q⟩,λ _ _ q=>q,λ _ _ _ q=>q,λ _ ps q=>⟨#[],by rw [q]; simp⟩⟩
theorem Un.refl:Un fs ex H H h h:=Un.kept λ _ _ q=>q
theorem Un.laid (k:∀b u,h.get? b=some u->h'.get? b=some u) (hp:h.objs.size<=a) (hn:H a=none):Un fs ex H (upd H a o) h h' where
 keep:=λ b u q _ _ _=>k b u q
 slot:=λ b u q _ _ _=>⟨u.slots,k b u q⟩
 free:=λ b u q n _=>by rw [ai (Nat.ne_of_lt (Nat.lt_of_lt_of_le (Heap.lt_size q) hp))]; exact n
 there:=λ b u q _=>⟨u,k b u q⟩
 tups:=λ b xs q=>by rw [ai (aq q hn)]; exact q
 gi:=λ b u xs q=>by rw [ai (aq q hn)]; exact q
 gG:=λ b ps q=>⟨#[],by rw [ai (aq q hn),q]; simp⟩
theorem Un.write (mu:Mut (H x)) (he:e=x\/H e=some (.own x)) (k:∀b u,b≠e->h.get? b=some u->h'.get? b=some u) (heo:∃u,h'.get? e=some u):Un fs ex H (upd H x o) h h':=by
 have hx:∀b,H b=none->b≠x:=λ b n z=>by subst z; rw [n] at mu; exact mu
 have hb:∀b,H b=none->b≠e:=λ b n z=>by
  subst z
  rcases he with r | r
  ·exact hx b n r
  ·rw [n] at r; cases r
 have hm:∀b u,H b=some u->¬Mut (some u)->b≠x:=λ b u q nm z=>by subst z; rw [q] at mu; exact nm mu
 refine ⟨λ b u q n _ _=>k b u (hb b n) q,λ b u q n _ _=>⟨u.slots,k b u (hb b n) q⟩,λ b u q n _=>by rw [ai (hx b n)]; exact n,λ b u q _=>?_,
  λ b xs q=>by rw [ai (hm b _ q λ z=>z)]; exact q,λ b u xs q=>by rw [ai (hm b _ q λ z=>z)]; exact q,λ b ps q=>⟨#[],by rw [ai (hm b _ q λ z=>z),q]; simp⟩⟩
 by_cases hbe:b=e
 ·subst hbe; exact heo
 ·exact ⟨u,k b u hbe q⟩
end
noncomputable def trk (h:Heap) (H:Hp):List Addr:=(List.range h.objs.size).filter λ a=>(H a).isSome
noncomputable def jy (h:Heap) (H:Hp):Heap:=PySem.W.hideAll h (trk h H)
theorem pO (h:Heap) (H:Hp):(jy h H).objs.size=h.objs.size:=PySem.W.hideAll_size _ _
theorem qX {h:Heap} {H:Hp} {b:Addr} {o:Obj} (e:h.get? b=some o) (n:H b=none):(jy h H).get? b=some o:=
 PySem.W.hideAll_get _ e λ hm=>by
  have q:(H b).isSome=true:=(List.mem_filter.mp hm).2
  rw [n] at q; simp at q
theorem uU {h:Heap} {H:Hp} {b:Addr} {o:Obj} (e:(jy h H).get? b=some o):h.get? b=some o/\H b=none:=by
 have e':h.get? b=some o:=PySem.W.of_hideAll (trk h H) e
 refine ⟨e',?_⟩
 cases q:H b with
 | none=>rfl
 | some x=>
  have hm:b∈trk h H:=List.mem_filter.mpr ⟨List.mem_range.mpr (Heap.lt_size e'),by simp [q]⟩
  have z:(jy h H).get? b=none:=PySem.W.hideAll_none (trk h H) hm
  rw [z] at e; cases e
end L2
namespace L2
open PySem PySem.Spec PyProof.Rows
structure Mod (K:PySem.W.Frag) (mg:Str->Option Value) (base:Heap):Prop where
 kin:K.In base
 glob:base.Ns mainGlobals mg
 blt:∃mb,base.Ns builtinsNs mb/\∀x:Str,x≠"__name__"->mb x=bootBuiltins x
 nolimit:base.NoLimit
set_option genInjectivity false in
structure Cx where
 prog:Program
 w:World
 K:PySem.W.Frag
 mg:Str->Option Value
 base:Heap
 A:Around
 N:List Str
 s₀:Shared
 H₀:Hp
 env:Env
 outer:List Env
 stack:List Env
 ex:List Addr
 fn:Str->Bool
 calm:Bool
 pn:List (Addr×Obj)
 xe:Value->Shared->Prop
noncomputable def frs (l:List Env):List Addr:=l.filterMap (·.frame)
abbrev Cx.fs (X:Cx):List Addr:=frs X.outer
noncomputable def Vis (sc:Scope) (x:Str):Prop:=sc.names.lookup x=some .local\/sc.names.lookup x=some .cell\/sc.names.lookup x=some .free
noncomputable def Loc (sc:Scope) (x:Str):Prop:=sc.names.lookup x=some .local\/sc.names.lookup x=some .cell
noncomputable def Look (env:Env) (h:Heap) (m:Str->Option Value) (x:Str) (u:Value):Prop:=
 (env.kindOf x=some .local/\m x=some u)\/((env.kindOf x=some .cell\/env.kindOf x=some .free)/\∃c,env.cells.lookup x=some c/\h.IsCell c (some u))
structure Cx.Ok (X:Cx):Prop where
 mod:Mod X.K X.mg X.base
 kind:X.env.scope.kind=.function
 glob:X.env.globals=mainGlobals
 blt:X.env.builtins=builtinsNs
 above:X.s₀.heap.objs.size<=X.env.locals
 inj:∀x y c,X.env.cells.lookup x=some c->X.env.cells.lookup y=some c->x=y
 has:∀x,(X.env.kindOf x=some .cell\/X.env.kindOf x=some .free)->∃c,X.env.cells.lookup x=some c
 cab:∀x c,X.fn x=true->X.env.cells.lookup x=some c->X.s₀.heap.objs.size<=c
 hd:X.calm=true->X.A.handled=none
 frames:X.A.frames=some X.stack
 stk:X.stack=X.outer\/(X.stack=X.env::X.outer/\X.env.frame=some X.env.locals)
 exf:∀b∈X.ex,b≠X.env.locals/\∀x c,X.env.cells.lookup x=some c->c≠b
 bs:∀b o,X.base.get? b=some o->X.s₀.heap.get? b=some o/\X.H₀ b=none
 bsz:X.base.objs.size<=X.s₀.heap.objs.size
 noex:∀b o,X.base.get? b=some o->b∉X.ex
 exfs:∀b∈X.ex,b∉X.fs
 gj:X.s₀.heap.FunFrames X.base X.outer
 frf:∀b∈X.fs,X.H₀ b=none
structure Inv (X:Cx) (pins:List (Addr×Obj)) (σ:List (Option V)) (H:Hp) (s:Shared):Prop where
 ok:X.Ok
 os:s.os=X.s₀.os
 bare:AllBare s.gens
 base:Un X.fs X.ex X.H₀ H X.s₀.heap s.heap
 loc:∃m,s.heap.Ns X.env.locals m/\∀(i:Nat) (x:Str) (v:V),X.N[i]?=some x->σ[i]?=some (some v)->Vis X.env.scope x->∃u,RelV v u/\Look X.env s.heap m x u
 cell:∀x c,X.env.cells.lookup x=some c->∃v,s.heap.IsCell c v
 free:H X.env.locals=none
 freeC:∀x c,X.env.cells.lookup x=some c->H c=none
 pin:∀p∈X.pn++pins,s.heap.get? p.1=some p.2/\H p.1=none/\p.1≠X.env.locals/\p.1∉X.fs/\∀v,p.2.data≠.cell v
 hok:HOk X.prog X.w H s.heap
 len:σ.length=X.N.length
section
variable {X:Cx} {pins:List (Addr×Obj)} {σ:List (Option V)} {H H':Hp} {s:Shared} {h':Heap}
theorem Cx.Ok.C8 (ok:X.Ok) {b:Addr} {o:Obj} (e:X.base.get? b=some o):b∉X.fs:=λ hb=>by
 have:=(ok.gj.mem hb).1
 rw [e] at this; cases this
theorem Inv.bs (I:Inv X pins σ H s):∀b o,X.base.get? b=some o->s.heap.get? b=some o/\H b=none:=λ b o e=>
 ⟨I.base.keep b o (I.ok.bs b o e).1 (I.ok.bs b o e).2 (I.ok.C8 e) (I.ok.noex b o e),I.base.free b o (I.ok.bs b o e).1 (I.ok.bs b o e).2 (I.ok.noex b o e)⟩
theorem Inv.bk (I:Inv X pins σ H s):∀b o,X.base.get? b=some o->s.heap.get? b=some o:=λ b o e=>(I.bs b o e).1
theorem Inv.mod (I:Inv X pins σ H s):Mod X.K X.mg X.base:=I.ok.mod
theorem Inv.kIn (I:Inv X pins σ H s):X.K.In s.heap:=I.ok.mod.kin.keeps I.bk
theorem Inv.lt (I:Inv X pins σ H s):X.env.locals < s.heap.objs.size:=let ⟨_,hn,_⟩:=I.loc; hn.lt
theorem Inv.sz (I:Inv X pins σ H s):X.s₀.heap.objs.size<=s.heap.objs.size:=Nat.le_trans I.ok.above (Nat.le_of_lt I.lt)
theorem Inv.C9 (I:Inv X pins σ H s) {a:Addr} (h:s.heap.objs.size<=a):a∉X.fs:=λ hb=>by
 obtain ⟨_,o,ho,_⟩:=I.ok.gj.mem hb
 exact absurd (Nat.lt_of_lt_of_le (Heap.lt_size ho) (Nat.le_trans I.sz h)) (Nat.lt_irrefl _)
theorem Inv.cne (I:Inv X pins σ H s):∀x c,X.env.cells.lookup x=some c->c≠X.env.locals:=λ x c e z=>by
 obtain ⟨v,o,ho,hd⟩:=I.cell x c e
 obtain ⟨m,⟨o',es,ep,ho',hd',_⟩,_⟩:=I.loc
 rw [z,ho'] at ho; cases ho; rw [hd'] at hd; cases hd
theorem Inv.gj (I:Inv X pins σ H s):s.heap.FunFrames X.base X.outer:=by
 have all:∀(l:List Env),(∀b∈frs l,b∈X.fs)->X.s₀.heap.FunFrames X.base l->s.heap.FunFrames X.base l:=by
  intro l
  induction l with
  | nil=>intro _ _; trivial
  | cons env r ih=>
   intro hs hl
   obtain ⟨hk,⟨L,o,hf,hn,ho,hd⟩,hr⟩:=hl
   have hL:L∈X.fs:=hs L (by unfold frs; rw [List.filterMap_cons,hf]; exact List.mem_cons_self)
   obtain ⟨sl,e⟩:=I.base.slot L o ho (I.ok.frf L hL) hL λ z=>I.ok.exfs L z hL
   exact ⟨hk,⟨L,_,hf,hn,e,hd⟩,ih (λ b hb=>hs b (by unfold frs; rw [List.filterMap_cons,hf]; exact List.mem_cons_of_mem _ hb)) hr⟩
 exact all X.outer (λ _ hb=>hb) I.ok.gj
theorem Inv.stack (I:Inv X pins σ H s):s.heap.FunFrames X.base X.stack:=by
 rcases I.ok.stk with e | ⟨e,hf⟩
 ·rw [e]; exact I.gj
 ·rw [e]
  obtain ⟨m,hn,_⟩:=I.loc
  refine .cons (by rw [I.ok.kind]; decide) hf hn ?_ I.gj
  exact Heap.get?_none_of_le (Nat.le_trans I.ok.bsz I.ok.above)
theorem Inv.jz (I:Inv X pins σ H s):∀b∈frs X.stack,b∈X.env.locals::X.fs:=λ b hb=>by
 rcases I.ok.stk with e | ⟨e,hf⟩
 ·rw [e] at hb; exact List.mem_cons_of_mem _ hb
 ·rw [e] at hb
  unfold frs at hb
  rw [List.filterMap_cons,hf] at hb
  exact hb
theorem Inv.nY (I:Inv X pins σ H s):∀b∈frs X.stack,H b=none:=λ b hb=>by
 rcases List.mem_cons.mp (I.jz b hb) with e | hb
 ·rw [e]; exact I.free
 ·obtain ⟨_,o,ho,_⟩:=I.ok.gj.mem hb
  exact I.base.free b o ho (I.ok.frf b hb) λ z=>I.ok.exfs b z hb
theorem Inv.step {g':Array GenState} {t':Nat} {d':Drawn} {ch:List Addr} (I:Inv X pins σ H s)
  (hch:∀b∈ch,(b∈X.ex\/X.s₀.heap.objs.size<=b)/\b≠X.env.locals/\(∀x c,X.env.cells.lookup x=some c->c≠b)/\∀p∈X.pn++pins,p.1≠b)
  (keep:∀b o,b≠X.env.locals->b∉X.fs->b∉ch->s.heap.get? b=some o->H b=none->h'.get? b=some o)
  (slot:∀b o,b≠X.env.locals->b∈X.fs->b∉ch->s.heap.get? b=some o->H b=none->∃sl,h'.get? b=some {o with slots:=sl}) (free:∀b o,b∉ch->s.heap.get? b=some o->H b=none->H' b=none)
  (there:∀b o,b∉ch->s.heap.get? b=some o->∃o',h'.get? b=some o')
  (tups:∀b xs,H b=some (.tup xs)->H' b=some (.tup xs)) (gi:∀b o u,H b=some (.frz o u)->H' b=some (.frz o u)) (gG:∀b ps,H b=some (.tbl ps)->∃more,H' b=some (.tbl (ps++more)))
  (ns:∀m,s.heap.Ns X.env.locals m->h'.Ns X.env.locals m) (hok:HOk X.prog X.w H' h') (hg:AllBare g') :
  Inv X pins σ H' {s with heap:=h',gens:=g',drawn:=d',toks:=t'}:=by
 have neL:∀b o,X.s₀.heap.get? b=some o->b≠X.env.locals:=λ b o e=>Nat.ne_of_lt (Nat.lt_of_lt_of_le (Heap.lt_size e) I.ok.above)
 have neC:∀b o,X.s₀.heap.get? b=some o->b∉X.ex->b∉ch:=λ b o e hx hb=>by
  rcases (hch b hb).1 with z | z
  ·exact hx z
  ·exact absurd (Nat.lt_of_lt_of_le (Heap.lt_size e) z) (Nat.lt_irrefl _)
 have cellK:∀x c,X.env.cells.lookup x=some c->∀v,s.heap.IsCell c v->h'.IsCell c v:=λ x c e v ⟨o,ho,hd⟩=>by
  have nch:c∉ch:=λ z=>(hch c z).2.2.1 x c e rfl
  by_cases hc:c∈X.fs
  ·obtain ⟨sl,q⟩:=slot c o (I.cne x c e) hc nch ho (I.freeC x c e)
   exact ⟨_,q,hd⟩
  ·exact ⟨o,keep c o (I.cne x c e) hc nch ho (I.freeC x c e),hd⟩
 refine ⟨I.ok,I.os,hg,⟨λ b o e n hb hx=>?_,λ b o e n hb hx=>?_,λ b o e n hx=>?_,λ b o e hx=>?_,λ b xs e=>tups b xs (I.base.tups b xs e),λ b o xs e=>gi b o xs (I.base.gi b o xs e),λ b ps e=>?_⟩,?_,λ x c e=>?_,?_,λ x c e=>?_,λ p hp=>?_,hok,I.len⟩
 ·exact keep b o (neL b o e) hb (neC b o e hx) (I.base.keep b o e n hb hx) (I.base.free b o e n hx)
 ·obtain ⟨sl,e1⟩:=I.base.slot b o e n hb hx
  obtain ⟨sl',e2⟩:=slot b _ (neL b o e) hb (neC b o e hx) e1 (I.base.free b o e n hx)
  exact ⟨sl',e2⟩
 ·obtain ⟨o',e1⟩:=I.base.there b o e hx
  exact free b o' (neC b o e hx) e1 (I.base.free b o e n hx)
 ·obtain ⟨o',e1⟩:=I.base.there b o e hx
  exact there b o' (neC b o e hx) e1
 ·obtain ⟨m1,e1⟩:=I.base.gG b ps e
  obtain ⟨m2,e2⟩:=gG b _ e1
  exact ⟨m1++m2,by rw [e2,Array.append_assoc]⟩
 ·obtain ⟨m,hn,hl⟩:=I.loc
  refine ⟨m,ns m hn,λ i x v e1 e2 e3=>?_⟩
  obtain ⟨u,r,l⟩:=hl i x v e1 e2 e3
  refine ⟨u,r,?_⟩
  rcases l with l | ⟨k,c,e,z⟩
  ·exact .inl l
  ·exact .inr ⟨k,c,e,cellK x c e _ z⟩
 ·obtain ⟨v,z⟩:=I.cell x c e
  exact ⟨v,cellK x c e v z⟩
 ·obtain ⟨m,⟨o,_,_,ho,_⟩,_⟩:=I.loc
  exact free _ o (λ z=>(hch _ z).2.1 rfl) ho I.free
 ·obtain ⟨v,o,ho,hd⟩:=I.cell x c e
  exact free c o (λ z=>(hch c z).2.2.1 x c e rfl) ho (I.freeC x c e)
 ·obtain ⟨e,n,ne,nf,d⟩:=I.pin p hp
  have nch:p.1∉ch:=λ z=>(hch p.1 z).2.2.2 p hp rfl
  exact ⟨keep p.1 p.2 ne nf nch e n,free p.1 p.2 nch e n,ne,nf,d⟩
theorem Inv.un {t':Nat} (I:Inv X pins σ H s) (u:Un X.fs [] H H' s.heap h') (hok:HOk X.prog X.w H' h'):Inv X pins σ H' {s with heap:=h',toks:=t'}:=by
 obtain ⟨m,⟨o,es,ep,ho,r⟩,_⟩:=id I.loc
 obtain ⟨sl,hL⟩:=u.any ho I.free (by simp)
 exact I.step (g':=s.gens) (d':=s.drawn) (ch:=[]) (λ _ z=>nomatch z) (λ b o _ hb _ e n=>u.keep b o e n hb (by simp)) (λ b o _ hb _ e n=>u.slot b o e n hb (by simp)) (λ b o _ e n=>u.free b o e n (by simp)) (λ b o _ e=>u.there b o e (by simp)) u.tups u.gi u.gG (λ m' hm=>by
  obtain ⟨o',es',ep',ho',r'⟩:=hm
  rw [ho] at ho'; cases ho'
  exact ⟨_,es',ep',hL,r'⟩) hok I.bare
theorem Inv.call {g':Array GenState} {t':Nat} {d':Drawn} {ch:List Addr} (I:Inv X pins σ H s) (u:Un (frs X.stack) ch H H' s.heap h') (hok:HOk X.prog X.w H' h') (hg:AllBare g')
  (hch:∀b∈ch,(b∈X.ex\/X.s₀.heap.objs.size<=b)/\b≠X.env.locals/\(∀x c,X.env.cells.lookup x=some c->c≠b)/\∀p∈X.pn++pins,p.1≠b) :
  Inv X pins σ H' {s with heap:=h',gens:=g',drawn:=d',toks:=t'}:=by
 obtain ⟨m,⟨o,es,ep,ho,r⟩,_⟩:=id I.loc
 obtain ⟨sl,hL⟩:=u.any ho I.free λ z=>(hch _ z).2.1 rfl
 exact I.step (ch:=ch) hch (λ b o hL hb hc e n=>u.keep b o e n (λ z=>(List.mem_cons.mp (I.jz b z)).elim hL hb) hc) (λ b o _ _ hc e n=>u.any e n hc) (λ b o hc e n=>u.free b o e n hc) (λ b o hc e=>u.there b o e hc) u.tups u.gi u.gG (λ m' hm=>by
  obtain ⟨o',es',ep',ho',r'⟩:=hm
  rw [ho] at ho'; cases ho'
  exact ⟨_,es',ep',hL,r'⟩) hok hg
theorem Inv.turned {t':Nat} {it:Addr} (I:Inv X pins σ H s) (k:∀b o,b≠it->s.heap.get? b=some o->h'.get? b=some o) (hn:H it=none) (hL:it≠X.env.locals)
  (h1:it∈X.ex\/X.s₀.heap.objs.size<=it) (h2:∀x c,X.env.cells.lookup x=some c->c≠it) (h3:∀p∈X.pn++pins,p.1≠it):Inv X pins σ H {s with heap:=h',toks:=t'}:=by
 have nit:∀b u,H b=some u->b≠it:=λ b u e z=>by rw [z,hn] at e; cases e
 refine I.step (g':=s.gens) (d':=s.drawn) (ch:=[it]) (λ b hb=>?_) (λ b o _ _ hc e _=>k b o (λ z=>hc (by simp [z])) e) (λ b o _ _ hc e _=>⟨o.slots,k b o (λ z=>hc (by simp [z])) e⟩) (λ _ _ _ _ n=>n)
  (λ b o hc e=>⟨o,k b o (λ z=>hc (by simp [z])) e⟩) (λ _ _ e=>e) (λ _ _ _ e=>e) (λ b ps e=>⟨#[],by rw [e]; simp⟩) (λ m hm=>?_) (λ b u e=>?_) I.bare
 ·have e:b=it:=by simpa using hb
  subst e
  exact ⟨h1,hL,h2,h3⟩
 ·obtain ⟨o,es,ep,ho,r⟩:=hm
  exact ⟨o,es,ep,k _ o (Ne.symm hL) ho,r⟩
 ·refine (I.hok b u e).stay (λ c v hc q=>k c v ?_ q) (λ _ q=>q) λ _ _ q=>q
  rcases hc with z | z
  ·rw [z]; exact nit b u e
  ·exact nit c _ z
theorem Inv.tok (I:Inv X pins σ H s) (t:Nat):Inv X pins σ H {s with toks:=t}:=I.un (h':=s.heap) (t':=t) Un.refl I.hok
theorem Inv.kept {t':Nat} (I:Inv X pins σ H s) (k:∀b u,s.heap.get? b=some u->h'.get? b=some u):Inv X pins σ H {s with heap:=h',toks:=t'}:=I.un (Un.kept k) (I.hok.kept k)
theorem Inv.laid {a:Addr} {o:HO} {t':Nat} (I:Inv X pins σ H s) (k:∀b u,s.heap.get? b=some u->h'.get? b=some u) (hp:s.heap.objs.size<=a) (new:aT X.prog X.w (upd H a o) h' a o) :
  Inv X pins σ (upd H a o) {s with heap:=h',toks:=t'}:=I.un (Un.laid k hp (I.hok.fresh hp)) (I.hok.laid k hp new)
theorem Inv.write {x e:Addr} {o:HO} {t':Nat} (I:Inv X pins σ H s) (mu:Mut (H x)) (he:e=x\/H e=some (.own x)) (k:∀b u,b≠e->s.heap.get? b=some u->h'.get? b=some u) (heo:∃u,h'.get? e=some u)
  (new:aT X.prog X.w (upd H x o) h' x o):Inv X pins σ (upd H x o) {s with heap:=h',toks:=t'}:=I.un (Un.write mu he k heo) (I.hok.write mu he k heo new)
theorem Inv.nZ {xE:List (Addr×Obj)} (I:Inv X pins σ H s) (h:∀p∈xE,s.heap.get? p.1=some p.2/\H p.1=none/\p.1≠X.env.locals/\p.1∉X.fs/\∀v,p.2.data≠.cell v):Inv X xE σ H s:=
 ⟨I.ok,I.os,I.bare,I.base,I.loc,I.cell,I.free,I.freeC,λ p hp=>(List.mem_append.mp hp).elim (λ z=>I.pin p (List.mem_append_left _ z)) (h p),I.hok,I.len⟩
theorem kr {N:List Str} (hN:N.Nodup) {i j:Nat} {x:Str} (a:N[i]?=some x) (b:N[j]?=some x):i=j:=by
 obtain ⟨h1,e1⟩:=List.getElem?_eq_some_iff.mp a
 obtain ⟨h2,e2⟩:=List.getElem?_eq_some_iff.mp b
 exact (List.getElem_inj hN).mp (e1.trans e2.symm)
theorem i6 {M:Model} {A:Around} {E:Value->Shared->Prop} {i:Nat} {x:Str} {v:V} {u:Value} {Q:Unit->Shared->Prop} (I:Inv X pins σ H s) (hN:X.N.Nodup) (hi:X.N[i]?=some x) (hx:Loc X.env.scope x) (r:RelV v u)
  (h:∀s',Inv X pins (σ.set i (some v)) H s'->(∃a,Heap.SameBut a s.heap s'.heap/\(a=X.env.locals\/X.env.cells.lookup x=some a))->Q () s') (hf:X.fn x=true\/X.env.scope.names.lookup x=some .local:=by first | exact .inl rfl | exact .inr rfl | assumption):wpAny M A (storeName X.env x u) Q E s:=by
 obtain ⟨m,hn,hl⟩:=id I.loc
 have hcls:(X.env.scope.kind==.class||(X.env.scope.kind==.module&&X.env.locals != X.env.globals))=false:=by rw [I.ok.kind]; rfl
 have hiσ:i < σ.length:=by rw [I.len]; exact (List.getElem?_eq_some_iff.mp hi).1
 have cne:=I.cne
 have tracked:∀{a:Addr} {h':Heap},(∃o,s.heap.get? a=some o/\H a=none)->Heap.SameBut a s.heap h'->HOk X.prog X.w H h':=λ {a h'} ha hs b ob e=>by
  obtain ⟨_,_,hfree⟩:=ha
  refine (I.hok b ob e).stay (λ c w' hc q=>(hs.2 c ?_).trans q) (λ _ q=>q) λ _ _ q=>q
  rintro rfl
  rcases hc with rfl | hc
  ·rw [hfree] at e; cases e
  ·rw [hfree] at hc; cases hc
 rcases hx with hk | hk
 ·refine wpAny_storeName_local hk hn (λ h' hn' hs=>?_) hcls
  obtain ⟨oL,_,_,hoL,_⟩:=id hn
  refine h _ ⟨I.ok,I.os,I.bare,⟨λ b o e n hb hx=>?_,λ b o e n hb hx=>?_,I.base.free,λ b o e hx=>?_,I.base.tups,I.base.gi,I.base.gG⟩,⟨_,hn',λ j y v' e1 e2 e3=>?_⟩,λ y c e=>?_,I.free,I.freeC,λ p hp=>?_,tracked ⟨oL,hoL,I.free⟩ hs,by simpa using I.len⟩ ⟨_,hs,.inl rfl⟩
  ·exact (hs.2 b (Nat.ne_of_lt (Nat.lt_of_lt_of_le (Heap.lt_size e) I.ok.above))).trans (I.base.keep b o e n hb hx)
  ·obtain ⟨sl,e1⟩:=I.base.slot b o e n hb hx
   exact ⟨sl,(hs.2 b (Nat.ne_of_lt (Nat.lt_of_lt_of_le (Heap.lt_size e) I.ok.above))).trans e1⟩
  ·obtain ⟨o',e1⟩:=I.base.there b o e hx
   exact ⟨o',(hs.2 b (Nat.ne_of_lt (Nat.lt_of_lt_of_le (Heap.lt_size e) I.ok.above))).trans e1⟩
  ·by_cases hj:j=i
   ·subst hj
    rw [hi] at e1; cases e1
    rw [List.getElem?_set_self hiσ] at e2
    cases e2
    exact ⟨u,r,.inl ⟨hk,by simp⟩⟩
   ·rw [List.getElem?_set_ne (Ne.symm hj)] at e2
    obtain ⟨u',r',q⟩:=hl j y v' e1 e2 e3
    refine ⟨u',r',?_⟩
    rcases q with ⟨k,e⟩ | ⟨k,c,e,z⟩
    ·refine .inl ⟨k,?_⟩
     have:y≠x:=λ e=>hj (kr hN e1 (e▸hi))
     simp [this,e]
    ·exact .inr ⟨k,c,e,z.sameBut hs (cne y c e)⟩
  ·obtain ⟨w',z⟩:=I.cell y c e
   exact ⟨w',z.sameBut hs (cne y c e)⟩
  ·obtain ⟨e,n,ne,nf,d⟩:=I.pin p hp
   exact ⟨(hs.2 p.1 ne).trans e,n,ne,nf,d⟩
 ·have hfn:X.fn x=true:=by
   rcases hf with z | z
   ·exact z
   ·rw [z] at hk; cases hk
  obtain ⟨c,hc⟩:=I.ok.has x (.inl hk)
  obtain ⟨w',z⟩:=I.cell x c hc
  refine wpAny_storeName_cell I.ok.kind hk hc z (λ h' hc' hs=>?_)
  obtain ⟨oc,hoc,hocd⟩:=id z
  refine h {s with heap:=h'} ⟨I.ok,I.os,I.bare,⟨λ b o e n hb hx=>?_,λ b o e n hb hx=>?_,I.base.free,λ b o e hx=>?_,I.base.tups,I.base.gi,I.base.gG⟩,⟨m,hn.sameBut hs (Ne.symm (cne x c hc)),λ j y v' e1 e2 e3=>?_⟩,λ y c' e=>?_,I.free,I.freeC,λ p hp=>?_,tracked ⟨oc,hoc,I.freeC x c hc⟩ hs,by simpa using I.len⟩ ⟨c,hs,.inr hc⟩
  ·exact (hs.2 b (Nat.ne_of_lt (Nat.lt_of_lt_of_le (Heap.lt_size e) (I.ok.cab x c hfn hc)))).trans (I.base.keep b o e n hb hx)
  ·obtain ⟨sl,e1⟩:=I.base.slot b o e n hb hx
   exact ⟨sl,(hs.2 b (Nat.ne_of_lt (Nat.lt_of_lt_of_le (Heap.lt_size e) (I.ok.cab x c hfn hc)))).trans e1⟩
  ·obtain ⟨o',e1⟩:=I.base.there b o e hx
   exact ⟨o',(hs.2 b (Nat.ne_of_lt (Nat.lt_of_lt_of_le (Heap.lt_size e) (I.ok.cab x c hfn hc)))).trans e1⟩
  ·by_cases hj:j=i
   ·subst hj
    rw [hi] at e1; cases e1
    rw [List.getElem?_set_self hiσ] at e2
    cases e2
    exact ⟨u,r,.inr ⟨.inl hk,c,hc,hc'⟩⟩
   ·rw [List.getElem?_set_ne (Ne.symm hj)] at e2
    obtain ⟨u',r',q⟩:=hl j y v' e1 e2 e3
    refine ⟨u',r',?_⟩
    rcases q with q | ⟨k,c',e,z'⟩
    ·exact .inl q
    ·refine .inr ⟨k,c',e,z'.sameBut hs ?_⟩
     rintro rfl
     exact hj (kr hN e1 (I.ok.inj _ _ _ e hc▸hi))
  ·by_cases hcc:c'=c
   ·subst hcc; exact ⟨_,hc'⟩
   ·obtain ⟨w2,z2⟩:=I.cell y c' e
    exact ⟨w2,z2.sameBut hs hcc⟩
  ·obtain ⟨e,n,ne,nf,d⟩:=I.pin p hp
   refine ⟨(hs.2 p.1 ?_).trans e,n,ne,nf,d⟩
   intro q
   rw [q,hoc] at e
   have q':oc=p.2:=Option.some.inj e
   exact d w' (by rw [<-q']; exact hocd)
theorem eZ {M:Model} {A:Around} {E:Value->Shared->Prop} {i:Nat} {x:Str} {v:V} {u:Value} {Q:Unit->Shared->Prop} (I:Inv X pins σ H s) (hN:X.N.Nodup) (hi:X.N[i]?=some x) (hx:Loc X.env.scope x) (r:RelV v u)
  (h:∀s',Inv X pins (σ.set i (some v)) H s'->Q () s') (hf:X.fn x=true\/X.env.scope.names.lookup x=some .local:=by first | exact .inl rfl | exact .inr rfl | assumption):wpAny M A (storeName X.env x u) Q E s:=
 i6 I hN hi hx r (λ s' I' _=>h s' I') hf
theorem Inv.A6 {s':Shared} {ch:List Addr} (I:Inv X pins σ H s) (ho:s'.os=s.os) (u:Un (frs X.stack) ch H H' s.heap s'.heap) (hok:HOk X.prog X.w H' s'.heap) (hg:AllBare s'.gens)
  (hch:∀b∈ch,(b∈X.ex\/X.s₀.heap.objs.size<=b)/\b≠X.env.locals/\(∀x c,X.env.cells.lookup x=some c->c≠b)/\∀p∈X.pn++pins,p.1≠b):Inv X pins σ H' s':=by
 obtain ⟨h',g',d',t',o'⟩:=s'
 have e:o'=s.os:=ho
 subst e
 exact I.call (g':=g') (t':=t') (d':=d') u hok hg hch
end
abbrev XK:=Value->Option Addr->Hp->Prop
abbrev St:=List (Option V)
abbrev VK:=V->Hp->Prop
abbrev TE:=St->Hp->VK->Prop
abbrev TT:=St->Hp->(Bool->Hp->Prop)->Prop
abbrev TA:=St->Hp->(List V->Hp->Prop)->Prop
set_option genInjectivity false in
structure Ends where
 nx:St->Hp->Prop
 rt:VK
 bk:St->Hp->Prop:=λ _ _=>False
 ct:St->Hp->Prop:=λ _ _=>False
abbrev TS:=Ends->St->Hp->Prop
noncomputable def EP (X:Cx) (pins:List (Addr×Obj)) (σ:St) (Q:VK) (u:Value) (s':Shared):Prop:=∃v H',Inv X pins σ H' s'/\RelV v u/\Q v H'
noncomputable def TP (X:Cx) (pins:List (Addr×Obj)) (σ:St) (Q:Bool->Hp->Prop) (b:Bool) (s':Shared):Prop:=∃H',Inv X pins σ H' s'/\Q b H'
noncomputable def AP (X:Cx) (pins:List (Addr×Obj)) (σ:St) (Q:List V->Hp->Prop) (us:List Value) (s':Shared):Prop:=∃vs H',Inv X pins σ H' s'/\Vals vs us/\Q vs H'
noncomputable def SP (X:Cx) (pins:List (Addr×Obj)) (D:Ends) (f:Flow) (s':Shared):Prop:=
 match f with
 | .next=>∃σ' H',Inv X pins σ' H' s'/\D.nx σ' H'
 | .brk=>∃σ' H',Inv X pins σ' H' s'/\D.bk σ' H'
 | .cont=>∃σ' H',Inv X pins σ' H' s'/\D.ct σ' H'
 | .ret u=>∃v σ' H',Inv X pins σ' H' s'/\RelV v u/\D.rt v H'
noncomputable def PE (X:Cx) (e:Expr) (t:TE):Prop:=
 ∀(pins:List (Addr×Obj)) (s:Shared) (σ:St) (H:Hp) (Q:VK),Inv X pins σ H s->t σ H Q->wpAny (model X.prog X.w) X.A (eval e X.env) (EP X pins σ Q) X.xe s
noncomputable def PT (X:Cx) (e:Expr) (t:TT):Prop:=
 ∀(pins:List (Addr×Obj)) (s:Shared) (σ:St) (H:Hp) (Q:Bool->Hp->Prop),Inv X pins σ H s->t σ H Q->wpAny (model X.prog X.w) X.A (isTrue e X.env (eval e X.env)) (TP X pins σ Q) X.xe s
noncomputable def PW (X:Cx) (e:Expr) (t:TT):Prop:=
 ∀(whole:Sem Value) (pins:List (Addr×Obj)) (s:Shared) (σ:St) (H:Hp) (Q:Bool->Hp->Prop),Inv X pins σ H s->t σ H Q->wpAny (model X.prog X.w) X.A (isTrue e X.env whole) (TP X pins σ Q) X.xe s
theorem PW.pt {X:Cx} {e:Expr} {t:TT} (h:PW X e t):PT X e t:=h _
noncomputable def PA (X:Cx) (es:List Expr) (t:TA):Prop:=
 ∀(pos:Pos) (pins:List (Addr×Obj)) (s:Shared) (σ:St) (H:Hp) (Q:List V->Hp->Prop),Inv X pins σ H s->t σ H Q->wpAny (model X.prog X.w) X.A (spliced (backTo pos (starEach es X.env))) (AP X pins σ Q) X.xe s
noncomputable def PS (X:Cx) (st:Stmt) (t:TS):Prop:=
 ∀(pins:List (Addr×Obj)) (s:Shared) (σ:St) (H:Hp) (D:Ends),Inv X pins σ H s->t D σ H->wpAny (model X.prog X.w) X.A (exec st X.env) (SP X pins D) X.xe s
noncomputable def PSs (X:Cx) (st:List Stmt) (t:TS):Prop:=
 ∀(pins:List (Addr×Obj)) (s:Shared) (σ:St) (H:Hp) (D:Ends),Inv X pins σ H s->t D σ H->wpAny (model X.prog X.w) X.A (execs st X.env) (SP X pins D) X.xe s
theorem thn {α:Type} {t:Sem α} {Q Q':α->Shared->Prop} {M:Model} {A:Around} {E:Value->Shared->Prop} {s:Shared} (h:wpAny M A t Q E s) (hQ:∀a s,Q a s->Q' a s):wpAny M A t Q' E s:=wpAny_mono h hQ λ _ _ x=>x
end L2
namespace L2
open PySem PySem.Spec PyProof.Rows
section
variable {X:Cx}
theorem bin {a b:Expr} {ta tb:TE} (ha:PE X a ta) (hb:PE X b tb) {pins:List (Addr×Obj)} {s:Shared} {σ:St} {H:Hp} {R:V->V->Hp->Prop} (I:Inv X pins σ H s) (h:ta σ H λ x H1=>tb σ H1 λ y H2=>R x y H2)
  {α:Type} {Q:α->Shared->Prop} {f:Value->Value->Sem α}
  (hf:∀v u s2 x y H2,Inv X pins σ H2 s2->RelV x v->RelV y u->R x y H2->wpAny (model X.prog X.w) X.A (f v u) Q X.xe s2) :
  wpAny (model X.prog X.w) X.A (eval a X.env) (λ v s₁=>wpAny (model X.prog X.w) X.A (eval b X.env) (λ u s₂=>wpAny (model X.prog X.w) X.A (f v u) Q X.xe s₂) X.xe s₁) X.xe s:=by
 refine thn (ha pins s σ H _ I h) λ v s1 ⟨x,H1,I1,r1,q1⟩=>?_
 refine thn (hb pins s1 σ H1 _ I1 q1) λ u s2 ⟨y,H2,I2,r2,q2⟩=>?_
 exact hf v u s2 x y H2 I2 r1 r2 q2
noncomputable def Dc (i:Nat):TE:=fun σ H Q=>∃v,σ[i]?=some (some v)/\Q v H
noncomputable def tC (v:V):TE:=λ _ H Q=>Q v H
theorem yC {i:Nat} {x:Str} {pos:Pos} (hN:X.N[i]?=some x) (hv:Vis X.env.scope x) (hd:(x==("__debug__":Str))=false:=by decide) (hcd:(x==("__classdict__":Str))=false:=by decide):PE X (.Name x pos) (Dc i):=by
 intro pins s σ H Q I h
 obtain ⟨v,e,h⟩:=h
 obtain ⟨m,hn,hl⟩:=I.loc
 obtain ⟨u,r,l⟩:=hl i x v hN e hv
 have fin:EP X pins σ Q u s:=⟨v,H,I,r,h⟩
 rcases l with ⟨hk,hm⟩ | ⟨hk,c,hc,hcell⟩
 ·exact wpAny_Name (wpAny_loadName_local I.ok.kind hk hn hm fin) hd
 ·rcases hk with hk | hk
  ·exact wpAny_Name (wpAny_loadName_cell I.ok.kind hk hc hcell fin) hd
  ·exact wpAny_Name (wpAny_loadName_free I.ok.kind hk hc hcell fin hcd) hd
theorem yD {i j pos}:PE X (.Constant (.int i) j pos) (tC (.int i)):=λ _ _ _ H _ I h=>wpAny_Constant_int ⟨.int i,H,I.tok _,⟨_,rfl⟩,h⟩
theorem A7 {b j pos}:PE X (.Constant (.bool b) j pos) (tC (.bl b)):=λ _ _ _ H _ I h=>Constant_bool ⟨.bl b,H,I,rfl,h⟩
theorem qY {j pos}:PE X (.Constant .none j pos) (tC .non):=λ _ _ _ H _ I h=>Constant_none ⟨.non,H,I,rfl,h⟩
theorem qZ {x j pos}:PE X (.Constant (.str x) j pos) (tC (.str x)):=λ _ _ _ H _ I h=>Calls.Constant_str ⟨.str x,H,I.tok _,⟨_,rfl⟩,h⟩
noncomputable def Gl (X:Cx) (x:Str):Prop:=X.env.kindOf x=some .globalImplicit
theorem gy {E:Value->Shared->Prop} {pins:List (Addr×Obj)} {s:Shared} {σ:St} {H:Hp} {x:Str} {u:Value} {pos:Pos} {Q:Value->Shared->Prop} (I:Inv X pins σ H s) (hg:Gl X x) (hm:X.mg x=some u) (h:Q u s)
  (hd:(x==("__debug__":Str))=false:=by decide):wpAny (model X.prog X.w) X.A (eval (.Name x pos) X.env) Q E s:=
 Calls.Name_function_global I.ok.kind hg (Calls.loadGlobal_global (by rw [I.ok.glob]; exact I.mod.glob.keeps I.bk) hm h) hd
theorem dD {E:Value->Shared->Prop} {pins:List (Addr×Obj)} {s:Shared} {σ:St} {H:Hp} {x:Str} {u:Value} {pos:Pos} {Q:Value->Shared->Prop} (I:Inv X pins σ H s) (hg:Gl X x) (hm:X.mg x=none) (hv:bootBuiltins x=some u) (h:Q u s)
  (hn:x≠"__name__":=by decide) (hd:(x==("__debug__":Str))=false:=by decide):wpAny (model X.prog X.w) X.A (eval (.Name x pos) X.env) Q E s:=by
 obtain ⟨mb,h1,h2⟩:=I.mod.blt
 exact Calls.Name_function_global I.ok.kind hg (Calls.loadGlobal_builtin (by rw [I.ok.glob]; exact I.mod.glob.keeps I.bk) hm (by rw [I.ok.blt]; exact h1.keeps I.bk) ((h2 x hn).trans hv) h) hd
theorem dY {x:Str} {v:V} {u:Value} {pos:Pos} (hg:Gl X x) (hm:X.mg x=some u) (r:RelV v u) (hd:(x==("__debug__":Str))=false:=by decide):PE X (.Name x pos) (tC v):=
 λ _ _ _ H _ I h=>gy I hg hm ⟨v,H,I,r,h⟩ hd
theorem uV {x:Str} {v:V} {u:Value} {pos:Pos} (hg:Gl X x) (hm:X.mg x=none) (hv:bootBuiltins x=some u) (r:RelV v u) (hn:x≠"__name__":=by decide) (hd:(x==("__debug__":Str))=false:=by decide):PE X (.Name x pos) (tC v):=
 λ _ _ _ H _ I h=>dD I hg hm hv ⟨v,H,I,r,h⟩ hn hd
variable {a b:Expr} {ta tb:TE} {pos:Pos}
variable {tA tB':TT} {rest:List Expr}
noncomputable def Dd (t u:TT):TT:=fun σ H Q=>t σ H λ c H1=>if c=true then u σ H1 Q else Q false H1
noncomputable def tOr (t u:TT):TT:=fun σ H Q=>t σ H λ c H1=>if c=true then Q true H1 else u σ H1 Q
noncomputable def De (t:TT):TT:=fun σ H Q=>t σ H λ c H1=>Q (!c) H1
theorem uW (ha:PT X a tA):PW X (.BoolOp .And [a] pos) tA:=by
 intro wh pins s σ H Q I h
 refine isTrue_and (thn (ha pins s σ H Q I h) λ c s1 e=>?_)
 cases c with
 | true=>exact isTrue_and_nil e
 | false=>exact e
theorem yE (ha:PT X a tA):PW X (.BoolOp .Or [a] pos) tA:=by
 intro wh pins s σ H Q I h
 refine isTrue_or (thn (ha pins s σ H Q I h) λ c s1 e=>?_)
 cases c with
 | false=>exact isTrue_or_nil e
 | true=>exact e
theorem yF (ha:PT X a tA) (hb:PW X (.BoolOp .And (b::rest) pos) tB'):PW X (.BoolOp .And (a::b::rest) pos) (Dd tA tB'):=by
 intro wh pins s σ H Q I h
 refine isTrue_and (thn (ha pins s σ H _ I h) λ c s1 ⟨H1,I1,q1⟩=>?_)
 cases c with
 | true=>exact hb wh pins s1 σ H1 Q I1 q1
 | false=>exact ⟨H1,I1,q1⟩
theorem A8 (ha:PT X a tA) (hb:PW X (.BoolOp .Or (b::rest) pos) tB'):PW X (.BoolOp .Or (a::b::rest) pos) (tOr tA tB'):=by
 intro wh pins s σ H Q I h
 refine isTrue_or (thn (ha pins s σ H _ I h) λ c s1 ⟨H1,I1,q1⟩=>?_)
 cases c with
 | true=>exact ⟨H1,I1,q1⟩
 | false=>exact hb wh pins s1 σ H1 Q I1 q1
theorem yG (ha:PT X a tA):PT X (.UnaryOp .Not a pos) (De tA):=by
 intro pins s σ H Q I h
 exact isTrue_not (ha pins s σ H (λ c H1=>Q (!c) H1) I h)
noncomputable def A9 (ta tb:TE):TE:=fun σ H Q=>ta σ H λ x H1=>∃c,x=.bl c/\if c=true then tb σ H1 Q else Q (.bl false) H1
noncomputable def Df (ta tb:TE):TE:=fun σ H Q=>ta σ H λ x H1=>∃c,x=.bl c/\if c=true then Q (.bl true) H1 else tb σ H1 Q
noncomputable def Ba (ta:TE):TE:=fun σ H Q=>ta σ H λ x H1=>∃c,x=.bl c/\Q (.bl (!c)) H1
theorem q8 {op} {t:TE} (h:PE X a t):PE X (.BoolOp op [a] pos) t:=λ pins s σ H Q I hw=>BoolOp_one (h pins s σ H Q I hw)
theorem yH (ha:PE X a ta) (hb:PE X (.BoolOp .And (b::rest) pos) tb):PE X (.BoolOp .And (a::b::rest) pos) (A9 ta tb):=by
 intro pins s σ H Q I h
 refine BoolOp_and (thn (ha pins s σ H _ I h) λ v s1 ⟨x,H1,I1,r1,q1⟩=>?_)
 obtain ⟨c,rfl,q1⟩:=q1
 cases r1
 refine wpAny_truthy_bool ?_
 cases c with
 | true=>exact hb pins s1 σ H1 Q I1 q1
 | false=>exact ⟨.bl false,H1,I1,rfl,q1⟩
theorem Bb (ha:PE X a ta) (hb:PE X (.BoolOp .Or (b::rest) pos) tb):PE X (.BoolOp .Or (a::b::rest) pos) (Df ta tb):=by
 intro pins s σ H Q I h
 refine BoolOp_or (thn (ha pins s σ H _ I h) λ v s1 ⟨x,H1,I1,r1,q1⟩=>?_)
 obtain ⟨c,rfl,q1⟩:=q1
 cases r1
 refine wpAny_truthy_bool ?_
 cases c with
 | false=>exact hb pins s1 σ H1 Q I1 q1
 | true=>exact ⟨.bl true,H1,I1,rfl,q1⟩
theorem yI (ha:PE X a ta):PE X (.UnaryOp .Not a pos) (Ba ta):=by
 intro pins s σ H Q I h
 refine UnaryOp_ (thn (ha pins s σ H _ I h) λ v s1 ⟨x,H1,I1,r1,q1⟩=>?_)
 obtain ⟨c,rfl,q1⟩:=q1
 cases r1
 exact not_of (wpAny_truthy_bool ⟨.bl (!c),H1,I1,rfl,q1⟩)
noncomputable def tIf (t:TT) (ta tb:TE):TE:=fun σ H Q=>t σ H λ c H1=>if c=true then ta σ H1 Q else tb σ H1 Q
theorem q9 {c:Expr} (hc:PT X c tA) (ha:PE X a ta) (hb:PE X b tb):PE X (.IfExp c a b pos) (tIf tA ta tb):=by
 intro pins s σ H Q I h
 refine wpAny_IfExp (thn (hc pins s σ H _ I h) λ d s1 ⟨H1,I1,q1⟩=>?_)
 cases d with
 | true=>exact ha pins s1 σ H1 Q I1 q1
 | false=>exact hb pins s1 σ H1 Q I1 q1
end
end L2
namespace L2
open PySem PySem.Spec PyProof.Rows
noncomputable def SqL (K:PySem.W.Frag) (H:Hp) (a:Addr) (xs:List V):Prop:=
 Rd H a (.lst xs)\/
  ∃(o:Obj) (its:Array Value) (n:Nat),K.lookup a=some o/\o.cls=.type "list"/\o.dict=none/\o.data=.seq its n/\its.size<=sizeLine/\Vals xs its.toList
noncomputable def SqT (K:PySem.W.Frag) (H:Hp) (a:Addr) (xs:List V):Prop:=
 Rd H a (.tup xs)\/
  ∃(o:Obj) (its:Array Value) (n:Nat),K.lookup a=some o/\o.cls=.type "tuple"/\o.data=.seq its n/\its.size<=sizeLine/\Vals xs its.toList
noncomputable def Dg:Value->Option V
 | .none=>some .non
 | .bool b=>some (.bl b)
 | .int i _=>some (.int i)
 | .str x _=>some (.str x)
 | .bytes b _=>some (.byt b)
 | .float b _=>some (.flt b)
 | .ref a=>some (.ref a)
 | .type n=>some (.ty n)
 | _=>none
theorem RelV.abs {x:V} {u:Value} (r:RelV x u):Dg u=some x:=by
 cases x with
 | non=>cases r; rfl
 | bl _=>cases r; rfl
 | int _=>obtain ⟨t,rfl⟩:=r; rfl
 | str _=>obtain ⟨t,rfl⟩:=r; rfl
 | byt _=>obtain ⟨t,rfl⟩:=r; rfl
 | flt _=>obtain ⟨t,rfl⟩:=r; rfl
 | ref _=>cases r; rfl
 | ty _=>cases r; rfl
theorem RelV.inj {x y:V} {u:Value} (r:RelV x u) (q:RelV y u):x=y:=Option.some.inj (r.abs.symm.trans q.abs)
theorem Vals.inj:∀{xs ys:List V} {us:List Value},Vals xs us->Vals ys us->xs=ys
 | _,_,_,.nil,.nil=>rfl
 | _,_,_,.cons r t,.cons r' t'=>by rw [r.inj r',Vals.inj t t']
section
variable {X:Cx} {pins:List (Addr×Obj)} {σ:St} {H:Hp} {s:Shared} {a:Addr} {xs ys:List V}
theorem SqT.of {K:PySem.W.Frag} (h:H a=some (.tup xs)):SqT K H a xs:=.inl (.inl h)
theorem Inv.list (I:Inv X pins σ H s) (h:SqL X.K H a xs):∃its:List Value,Vals xs its/\PlainL s.heap a its.toArray/\xs.length<=sizeLine:=by
 rcases h with h | ⟨o,its,n,hk,hc,hd,hs,hz,r⟩
 ·obtain ⟨z,its,n,r,e⟩:=h.ok I.hok
  exact ⟨its,r,⟨_,n,e,rfl,rfl,rfl⟩,z⟩
 ·refine ⟨its.toList,r,⟨o,n,I.kIn a o hk,hc,hd,by simpa using hs⟩,?_⟩
  have e:=r.length
  simp only [Array.length_toList] at e
  omega
theorem Inv.tuple (I:Inv X pins σ H s) (h:SqT X.K H a xs):∃its:List Value,Vals xs its/\IsTup s.heap a its.toArray/\xs.length<=sizeLine:=by
 rcases h with h | ⟨o,its,n,hk,hc,hs,hz,r⟩
 ·obtain ⟨z,its,r,p⟩:=h.ok I.hok
  exact ⟨its,r,p,z⟩
 ·refine ⟨its.toList,r,⟨o,I.kIn a o hk,hc,n,by simpa using hs⟩,?_⟩
  have e:=r.length
  simp only [Array.length_toList] at e
  omega
theorem Inv.ku (I:Inv X pins σ H s) (h:SqL X.K H a xs) (h':SqL X.K H a ys):xs=ys:=by
 obtain ⟨its,r,⟨o,n,e,_,_,d⟩,_⟩:=I.list h
 obtain ⟨its',r',⟨o',n',e',_,_,d'⟩,_⟩:=I.list h'
 rw [e] at e'; cases e'
 rw [d] at d'
 injection d' with d1 _
 have:its=its':=by simpa using congrArg Array.toList d1
 subst this
 exact r.inj r'
theorem Inv.i7 (I:Inv X pins σ H s) (h:SqT X.K H a xs) (h':SqT X.K H a ys):xs=ys:=by
 obtain ⟨its,r,⟨o,e,_,n,d⟩,_⟩:=I.tuple h
 obtain ⟨its',r',⟨o',e',_,n',d'⟩,_⟩:=I.tuple h'
 rw [e] at e'; cases e'
 rw [d] at d'
 injection d' with d1 _
 have:its=its':=by simpa using congrArg Array.toList d1
 subst this
 exact r.inj r'
end
abbrev Cx.iI (X:Cx) (E:Value->Shared->Prop):Cx:={X with xe:=E}
abbrev Cx.nox (X:Cx):Cx:=X.iI λ _ _=>False
theorem Cx.Ok.iI {X:Cx} (ok:X.Ok) (E:Value->Shared->Prop):(X.iI E).Ok:=
 ⟨ok.mod,ok.kind,ok.glob,ok.blt,ok.above,ok.inj,ok.has,ok.cab,ok.hd,ok.frames,ok.stk,ok.exf,ok.bs,ok.bsz,ok.noex,ok.exfs,ok.gj,ok.frf⟩
theorem Cx.Ok.dF {X:Cx} {E:Value->Shared->Prop} (ok:(X.iI E).Ok):X.Ok:=
 ⟨ok.mod,ok.kind,ok.glob,ok.blt,ok.above,ok.inj,ok.has,ok.cab,ok.hd,ok.frames,ok.stk,ok.exf,ok.bs,ok.bsz,ok.noex,ok.exfs,ok.gj,ok.frf⟩
section
variable {X:Cx} {pins:List (Addr×Obj)} {σ:St} {H:Hp} {s:Shared} {E:Value->Shared->Prop}
theorem Inv.iI (I:Inv X pins σ H s) (E:Value->Shared->Prop):Inv (X.iI E) pins σ H s:=⟨I.ok.iI E,I.os,I.bare,I.base,I.loc,I.cell,I.free,I.freeC,I.pin,I.hok,I.len⟩
theorem Inv.dF (I:Inv (X.iI E) pins σ H s):Inv X pins σ H s:=⟨I.ok.dF,I.os,I.bare,I.base,I.loc,I.cell,I.free,I.freeC,I.pin,I.hok,I.len⟩
theorem SP.dF {D:Ends} {f:Flow} {s':Shared} (h:SP (X.iI E) pins D f s'):SP X pins D f s':=by
 cases f with
 | next=>obtain ⟨σ',H',I,q⟩:=h; exact ⟨σ',H',I.dF,q⟩
 | brk=>obtain ⟨σ',H',I,q⟩:=h; exact ⟨σ',H',I.dF,q⟩
 | cont=>obtain ⟨σ',H',I,q⟩:=h; exact ⟨σ',H',I.dF,q⟩
 | ret u=>obtain ⟨v,σ',H',I,r,q⟩:=h; exact ⟨v,σ',H',I.dF,r,q⟩
theorem PSs.nox {st:List Stmt} {t:TS} (h:PSs X.nox st t):PSs X st t:=λ pins s σ H D I hw=>
 wpAny_mono (h pins s σ H D (I.iI _) hw) (λ _ _ q=>q.dF) λ _ _ z=>False.elim z
end
section
variable {X:Cx} {st:Stmt} {rest:List Stmt} {t u:TS} {e:Expr} {te:TE} {pos:Pos}
noncomputable def xF:TS:=λ D σ H=>D.nx σ H
noncomputable def Dh (t u:TS):TS:=λ D σ H=>t {D with nx:=u D} σ H
theorem uX:PSs X [] xF:=λ _ _ σ H _ I h=>wpAny_execs_nil ⟨σ,H,I,h⟩
theorem rm (h1:PS X st t) (h2:PSs X rest u):PSs X (st::rest) (Dh t u):=by
 intro pins s σ H D I h
 refine wpAny_execs_cons (thn (h1 pins s σ H {D with nx:=u D} I h) λ f s1 q=>?_)
 cases f with
 | next=>
  obtain ⟨σ',H',I',q⟩:=q
  exact h2 pins s1 σ' H' D I' q
 | ret v=>exact q
 | brk=>exact q
 | cont=>exact q
noncomputable def yJ:TS:=λ D σ H=>D.bk σ H
noncomputable def Bc:TS:=λ D σ H=>D.ct σ H
theorem uY:PS X (.Pass pos) xF:=λ _ _ σ H _ I h=>wpAny_Pass ⟨σ,H,I,h⟩
theorem rq:PS X (.Break pos) yJ:=λ _ _ σ H _ I h=>wpAny_Break ⟨σ,H,I,h⟩
theorem kB:PS X (.Continue pos) Bc:=λ _ _ σ H _ I h=>wpAny_Continue ⟨σ,H,I,h⟩
theorem Inv.quiet {pins:List (Addr×Obj)} {σ:St} {H:Hp} {s:Shared} (I:Inv X pins σ H s):interactive X.env=false:=by simp [interactive,I.ok.kind]
noncomputable def Bd (te:TE):TS:=λ D σ H=>te σ H λ _ H1=>D.nx σ H1
theorem uZ (he:PE X e te) (hs:swapsWith e none pos.line X.env=pure false:=by rfl):PS X (.Expr e pos) (Bd te):=by
 intro pins s σ H D I h
 exact wpAny_Expr_any (thn (he pins s σ H _ I h) λ v s1 ⟨x,H1,I1,r1,q1⟩=>⟨σ,H1,I1,q1⟩) I.quiet hs
noncomputable def Di (te:TE):TS:=λ D σ H=>te σ H D.rt
theorem yK (he:PE X e te):PS X (.Return (some e) pos) (Di te):=by
 intro pins s σ H D I h
 exact wpAny_Return_some (thn (he pins s σ H _ I h) λ v s1 ⟨x,H1,I1,r1,q1⟩=>⟨x,σ,H1,I1,r1,q1⟩)
noncomputable def Be:TS:=λ D _ H=>D.rt .non H
theorem u0:PS X (.Return none pos) Be:=λ _ _ σ H _ I h=>wpAny_Return_none ⟨.non,σ,H,I,rfl,h⟩
noncomputable def Dj (c:TT) (t u:TS):TS:=λ D σ H=>c σ H λ b H1=>if b=true then t D σ H1 else u D σ H1
theorem Bf {c:Expr} {a b:List Stmt} {tc:TT} (hc:PT X c tc) (ha:PSs X a t) (hb:PSs X b u):PS X (.If c a b pos) (Dj tc t u):=by
 intro pins s σ H D I h
 refine wpAny_If (thn (hc pins s σ H _ I h) λ d s1 ⟨H1,I1,q1⟩=>?_)
 cases d with
 | true=>exact ha pins s1 σ H1 D I1 q1
 | false=>exact hb pins s1 σ H1 D I1 q1
noncomputable def yL:TS:=λ _ _ _=>False
theorem rA:PS X st yL:=λ _ _ _ _ _ _ h=>h.elim
end
abbrev TG:=V->St->Hp->(St->Hp->Prop)->Prop
abbrev TGs:=List V->St->Hp->(St->Hp->Prop)->Prop
noncomputable def PG (X:Cx) (target:Expr) (t:TG):Prop:=
 ∀(pins:List (Addr×Obj)) (s:Shared) (σ:St) (H:Hp) (v:V) (u:Value) (Q:St->Hp->Prop),Inv X pins σ H s->RelV v u->t v σ H Q->
  wpAny (model X.prog X.w) X.A (assign target X.env u) (λ _ s'=>∃σ' H',Inv X pins σ' H' s'/\Q σ' H') X.xe s
noncomputable def PGs (X:Cx) (ts:List Expr) (t:TGs):Prop:=
 ∀(pins:List (Addr×Obj)) (s:Shared) (σ:St) (H:Hp) (vs:List V) (us:List Value) (Q:St->Hp->Prop),Inv X pins σ H s->Vals vs us->t vs σ H Q->
  wpAny (model X.prog X.w) X.A (assignInOrder ((assignEach ts X.env).map (·.2)) us) (λ _ s'=>∃σ' H',Inv X pins σ' H' s'/\Q σ' H') X.xe s
abbrev yM:=V->V->V->Hp->(Hp->Prop)->Prop
noncomputable def yN (X:Cx) (t:yM):Prop:=
 ∀(pins:List (Addr×Obj)) (s:Shared) (σ:St) (H:Hp) (o i v:V) (ov iv u:Value) (Q:Hp->Prop),Inv X pins σ H s->RelV o ov->RelV i iv->RelV v u->t o i v H Q->
  wpAny (model X.prog X.w) X.A (setItem ov iv u) (λ _ s'=>∃H',Inv X pins σ H' s'/\Q H') X.xe s
section
variable {X:Cx} {pos:Pos}
noncomputable def xG (i:Nat):TG:=λ v σ H Q=>Q (σ.set i (some v)) H
theorem u5 {i:Nat} {x:Str} (hN:X.N.Nodup) (hi:X.N[i]?=some x) (hx:Loc X.env.scope x) (hf:X.fn x=true\/X.env.scope.names.lookup x=some .local:=by first | exact .inl rfl | exact .inr rfl | assumption):PG X (.Name x pos) (xG i):=by
 intro pins s σ H v u Q I r h
 exact wpAny_assign_Name (eZ I hN hi hx r (λ s' I'=>⟨_,H,I',h⟩) hf)
noncomputable def Dk:TGs:=λ vs σ H Q=>vs=[]/\Q σ H
noncomputable def Bg (t:TG) (u:TGs):TGs:=λ vs σ H Q=>∃v r,vs=v::r/\t v σ H fun σ' H'=>u r σ' H' Q
theorem u6:PGs X [] Dk:=by
 intro pins s σ H vs us Q I r h
 obtain ⟨e,h⟩:=h
 subst e
 cases r
 exact assignInOrder_nil ⟨σ,H,I,h⟩
theorem rB {e:Expr} {es:List Expr} {t:TG} {u:TGs} (h1:PG X e t) (h2:PGs X es u)
  (hs:(assignEach (e::es) X.env).map (·.2)=assign e X.env::(assignEach es X.env).map (·.2):=by rfl):PGs X (e::es) (Bg t u):=by
 intro pins s σ H vs us Q I r h
 obtain ⟨v,vr,e1,h⟩:=h
 subst e1
 cases r with
 | cons r rr=>
  rw [hs]
  refine assignInOrder_cons (thn (h1 pins s σ H _ _ _ I r h) λ _ s1 ⟨σ1,H1,I1,q1⟩=>?_)
  exact h2 pins s1 σ1 H1 _ _ Q I1 rr q1
noncomputable def Dm (K:PySem.W.Frag) (n:Nat) (t:TGs):TG:=λ v σ H Q=>∃a xs,v=.ref a/\SqT K H a xs/\xs.length=n/\t xs σ H Q
theorem yO {es:List Expr} {k:Nat} {t:TGs} {n:Nat} (hc:X.calm=true) (h:PGs X es t)
  (hn:(assignEach es X.env).length=n:=by rfl) (hst:(assignEach es X.env).findIdx? (·.1)=none:=by rfl):PG X (.Tuple es k pos) (Dm X.K n t):=by
 intro pins s σ H v u Q I r hw
 obtain ⟨a,xs,e1,hq,hl,hw⟩:=hw
 subst e1
 cases r
 obtain ⟨its,rv,ht,hz⟩:=I.tuple hq
 refine assign_Tuple_tuple (I.ok.hd hc) ht (by simp [hn,<-hl,rv.length]) hst λ h' hx=>?_
 have I1:Inv X pins σ H {s with heap:=h'}:=I.kept (t':=s.toks) λ b o e=>hx b o (Nat.ne_of_lt (Heap.lt_size e)) e
 exact h pins _ σ H xs _ Q I1 (by simpa using rv) hw
noncomputable def Dn (to ti:TE) (t:yM):TG:=λ v σ H Q=>to σ H λ o H1=>ti σ H1 λ i H2=>t o i v H2 λ H3=>Q σ H3
theorem yP {o i:Expr} {to ti:TE} {t:yM} (ho:PE X o to) (hi:PE X i ti) (hs:yN X t)
  (ha:∀v,assign (.Subscript o i pos) X.env v=(do
   let ov <-holding [v] (eval o X.env)
   let iv <-holding [v,ov] (eval i X.env)
   standAt pos
   holding [v,ov,iv] (setItem ov iv v)
   release [v,ov,iv] []):=by intro _; rfl):PG X (.Subscript o i pos) (Dn to ti t):=by
 intro pins s σ H v u Q I r h
 rw [ha]
 refine wpAny_bind (wpAny_holding (thn (ho pins s σ H _ I h) λ ov s1 ⟨x,H1,I1,r1,q1⟩=>?_))
 refine wpAny_bind (wpAny_holding (thn (hi pins s1 σ H1 _ I1 q1) λ iv s2 ⟨y,H2,I2,r2,q2⟩=>?_))
 refine wpAny_bind (wpAny_standAt (wpAny_bind (wpAny_holding (thn (hs pins s2 σ H2 x y v ov iv u _ I2 r1 r2 r q2) λ _ s3 ⟨H3,I3,q3⟩=>?_))))
 exact wpAny_release ⟨σ,H3,I3,q3⟩
noncomputable def Bh (te:TE) (g:TG):TS:=λ D σ H=>te σ H λ x H1=>g x σ H1 D.nx
theorem yQ {tg e:Expr} {te:TE} {g:TG} (he:PE X e te) (hg:PG X tg g) (hs:swapsWithSole [tg] e pos.line X.env=pure false:=by rfl) (hw:swappedStores [tg] e X.env=pure none:=by rfl)
  (h1:(assignEach [tg] X.env).map (·.2)=[assign tg X.env]:=by rfl):PS X (.Assign [tg] e pos) (Bh te g):=by
 intro pins s σ H D I h
 refine wpAny_Assign_stores (thn (he pins s σ H _ I h) λ v s1 ⟨x,H1,I1,r1,q1⟩=>?_) hs hw
 rw [h1]
 exact thn (hg pins s1 σ H1 x v _ I1 r1 q1) λ _ s2 q=>q
theorem yR {i:Nat} {x:Str} {e:Expr} {te:TE} {pos':Pos} (hN:X.N.Nodup) (hi:X.N[i]?=some x) (hx:Loc X.env.scope x) (he:PE X e te) (hs:swapsWith e (some (.Name x pos')) pos.line X.env=pure false:=by rfl) (hf:X.fn x=true\/X.env.scope.names.lookup x=some .local:=by first | exact .inl rfl | exact .inr rfl | assumption) :
  PS X (.Assign [.Name x pos'] e pos) (Bh te (xG i)):=by
 intro pins s σ H D I h
 refine wpAny_Assign_Name (thn (he pins s σ H _ I h) λ v s1 ⟨y,H1,I1,r1,q1⟩=>?_) hs
 exact eZ I1 hN hi hx r1 (λ s2 I2=>⟨_,H1,I2,q1⟩) hf
noncomputable def Dp (i j:Nat) (ta:TA):TS:=λ D σ H=>ta σ H λ vs H1=>∃v w,vs=[v,w]/\D.nx ((σ.set i (some v)).set j (some w)) H1
theorem yS {i j:Nat} {x y:Str} {a b:Expr} {ta:TA} {px py pt:Pos} {kt k2 pt2} (hc:X.calm=true) (hN:X.N.Nodup) (hi:X.N[i]?=some x) (hj:X.N[j]?=some y) (hij:i≠j)
  (hx:X.env.scope.names.lookup x=some .local) (hy:X.env.scope.names.lookup y=some .local) (ha:PA X [a,b] ta)
  (hw:swappedStores [.Tuple [.Name x px,.Name y py] kt pt] (.Tuple [a,b] k2 pt2) X.env=pure (some [x,y]))
  (hs:swapsWithSole [.Tuple [.Name x px,.Name y py] kt pt] (.Tuple [a,b] k2 pt2) pos.line X.env=pure false:=by rfl) :
  PS X (.Assign [.Tuple [.Name x px,.Name y py] kt pt] (.Tuple [a,b] k2 pt2) pos) (Dp i j ta):=by
 intro pins s σ H D I h
 rw [exec_Assign_arm]
 refine wpAny_bind (wpAny_standAt ?_)
 rw [hs]
 refine wpAny_bind (wpAny_pure ?_)
 rw [if_neg (by decide)]
 refine wpAny_bind (Tuple_ (thn (ha _ pins s σ H _ I h) λ us s1 ⟨vs,H1,I1,r1,q1⟩=>?_))
 obtain ⟨v,w,e1,q1⟩:=q1
 subst e1
 obtain ⟨u1,u2,rfl,rv,rw'⟩:∃u1 u2,us=[u1,u2]/\RelV v u1/\RelV w u2:=by
  cases r1 with
  | cons p q=>
   cases q with
   | cons p' q'=>
    cases q'
    exact ⟨_,_,rfl,p,p'⟩
 refine wpAny_newObj_type ?_ (by show 2<=sizeLine; decide)
 have I2:Inv X pins σ H1 {s1 with heap:=s1.heap.push {cls:=.type "tuple",data:=.seq [u1,u2].toArray}}:=I1.kept (t':=s1.toks) λ b o e=>Heap.get?_push_of_some _ e
 rw [hw]
 refine wpAny_bind (wpAny_pure ?_)
 show wpAny (model X.prog X.w) X.A (do rule "assign.swapped-stores"; let items <-unpackItems (.ref s1.heap.objs.size) 2 none; assignInOrder [λ v=>bindName X.env y v,λ v=>bindName X.env x v] items.reverse; pure Flow.next) _ _ _
 refine wpAny_bind (wpAny_rule (wpAny_bind (unpackItems_tuple (items:=#[u1,u2]) (I.ok.hd hc) (IsTup.new s1.heap _) λ h' hx'=>?_)))
 have I3:=I2.kept (h':=h') (t':=s1.toks) λ b o e=>hx' b o (Nat.ne_of_lt (Heap.lt_size e)) e
 show wpAny _ _ (assignInOrder [λ v=>bindName X.env y v,λ v=>bindName X.env x v] [u2,u1] >>= λ _=>pure Flow.next) _ _ _
 refine wpAny_bind (assignInOrder_cons (wpAny_bindName (eZ I3 hN hj (.inl hy) rw' (λ s2 I4=>?_) (.inr hy))))
 refine assignInOrder_cons (wpAny_bindName (eZ I4 hN hi (.inl hx) rv (λ s3 I5=>assignInOrder_nil (wpAny_pure ?_)) (.inr hx)))
 rw [List.set_comm _ _ (Ne.symm hij)] at I5
 exact ⟨_,H1,I5,q1⟩
end
section
variable {X:Cx} {pos:Pos}
end
set_option genInjectivity false in
structure It where
  go:Nat->Hp->Prop
  yld:Nat->Hp->V->Hp->Prop
  stop:Nat->Hp->Prop
noncomputable def fL (X:Cx) (pins:List (Addr×Obj)) (H:Hp) (b:Addr):Prop:=
  H b=none/\b≠X.env.locals/\b∉X.fs/\(b∈X.ex\/X.s₀.heap.objs.size<=b)/\(∀x c,X.env.cells.lookup x=some c->c≠b)/\∀p∈X.pn++pins,p.1≠b
theorem Inv.kC {X:Cx} {pins:List (Addr×Obj)} {σ:St} {H H':Hp} {s:Shared} {b:Addr} (I:Inv X pins σ H s) (hb:s.heap.objs.size<=b) (hn:H' b=none):fL X pins H' b:=by
  refine ⟨hn,Nat.ne_of_gt (Nat.lt_of_lt_of_le I.lt hb),I.C9 hb,.inr (Nat.le_trans I.sz hb),λ x c e z=>?_,λ p hp z=>?_⟩
  · obtain ⟨v,q⟩:=I.cell x c e
    exact absurd (Nat.lt_of_lt_of_le q.lt (by rw [z]; exact hb)) (Nat.lt_irrefl _)
  · exact absurd (Nat.lt_of_lt_of_le (Heap.lt_size (I.pin p hp).1) (by rw [z]; exact hb)) (Nat.lt_irrefl _)
structure Turn (P:Program) (w:World) (K:PySem.W.Frag) (tg:Expr) (J:It) (fp:List Addr) (it:Addr) (tn:Nat->Heap->Prop):Prop where
  mem:it∈fp
  obj:∀i h,tn i h->∀b∈fp,∃o,h.get? b=some o/\∀v,o.data≠.cell v
  keep:∀i h h',tn i h->(∀b∈fp,∀o,h.get? b=some o->h'.get? b=some o)->tn i h'
  item:∀(X:Cx),X.prog=P->X.w=w->X.K=K->X.calm=true->∀(i:Nat) (pins:List (Addr×Obj)) (s:Shared) (σ:St) (H:Hp) (E:Value->Shared->Prop),Inv X pins σ H s->(∀b∈fp,fL X pins H b)->tn i s.heap->J.go i H->
    wpAny (model P w) X.A (pyNext (.ref it)) (λ r s1=>∃u,r=some u/\
      wpAny (model P w) X.A (letOwnedTupleGo tg (.ref it) u) (λ _ s2=>∃x H',Inv X pins σ H' s2/\RelV x u/\J.yld i H x H'/\tn (i+1) s2.heap/\∀b∈fp,H' b=none) E s1) E s
  done:∀(X:Cx),X.prog=P->X.w=w->X.K=K->X.calm=true->∀(i:Nat) (pins:List (Addr×Obj)) (s:Shared) (σ:St) (H:Hp) (E:Value->Shared->Prop),Inv X pins σ H s->(∀b∈fp,fL X pins H b)->tn i s.heap->J.stop i H->
    wpAny (model P w) X.A (pyNext (.ref it)) (λ r s1=>r=none/\Inv X pins σ H s1) E s
  self:∀(A:Around) (i:Nat) (s:Shared) (Q:Value->Shared->Prop) (E:Value->Shared->Prop),tn i s.heap->Q (.ref it) s->wpAny (model P w) A (pyIter (.ref it)) Q E s
abbrev TI:=St->Hp->(It->Hp->Prop)->Prop
noncomputable def PIE (X:Cx) (pins:List (Addr×Obj)) (σ:St) (tg:Expr) (R:It->Hp->Prop) (itv:Value) (s2:Shared):Prop:=
  ∃(it:Addr) (fp:List Addr) (tn:Nat->Heap->Prop) (J:It) (H':Hp),itv=.ref it/\Inv X pins σ H' s2/\Turn X.prog X.w X.K tg J fp it tn/\tn 0 s2.heap/\(∀b∈fp,fL X pins H' b)/\R J H'
noncomputable def PI (X:Cx) (tg iter:Expr) (wi:TI):Prop:=
  ∀(pins:List (Addr×Obj)) (s:Shared) (σ:St) (H:Hp) (R:It->Hp->Prop),Inv X pins σ H s->wi σ H R->
    wpAny (model X.prog X.w) X.A (eval iter X.env) (λ v s1=>wpAny (model X.prog X.w) X.A (pyIter v) (PIE X pins σ tg R) X.xe s1) X.xe s
theorem n5 {M:Model} {A:Around} {E:Value->Shared->Prop} {s:Shared} {tg:Expr} {it:Addr} {u:Value} {o:Obj} {n:String} {vs:Array Value} {Q:Unit->Shared->Prop} (ho:s.heap.get? it=some o) (hc:o.cls=.type n) (hd:o.data=.fields vs)
    (hn:["enumerate","zip","dict_itemiterator","dict_reverseitemiterator","odict_iterator","itertools.zip_longest","itertools.pairwise"].contains n=false) (hQ:Q () s):wpAny M A (letOwnedTupleGo tg (.ref it) u) Q E s:=by
  unfold letOwnedTupleGo
  cases tg<;>first
    | exact wpAny_pure hQ
    | (cases u<;>first
        | exact wpAny_pure hQ
        | (refine wpAny_bind (wpAny_load ho ?_)
           rw [hc,hd]
           show wpAny M A (if (["enumerate","zip","dict_itemiterator","dict_reverseitemiterator","odict_iterator","itertools.zip_longest","itertools.pairwise"].contains n&&vs[0]?==some (rawInt _))=true then _ else _) Q E s
           rw [if_neg (by intro h; rw [hn,Bool.false_and] at h; cases h)]
           exact wpAny_pure hQ))
noncomputable def Itl (K:PySem.W.Frag) (a:Addr):It:=
  ⟨λ i H=>∃xs x,SqL K H a xs/\xs[i]?=some x,λ i H x H'=>H'=H/\∀xs,SqL K H a xs->xs[i]?=some x,λ i H=>∃xs,SqL K H a xs/\xs.length<=i⟩
noncomputable def Itt (K:PySem.W.Frag) (a:Addr):It:=
  ⟨λ i H=>∃xs x,SqT K H a xs/\xs[i]?=some x,λ i H x H'=>H'=H/\∀xs,SqT K H a xs->xs[i]?=some x,λ i H=>∃xs,SqT K H a xs/\xs.length<=i⟩
noncomputable def Itr (lo:Int) (n:Nat):It:=⟨λ i _=>i < n,λ i H x H'=>H'=H/\x=.int (lo+i),λ i _=>n<=i⟩
theorem pP {P:Program} {w:World} {K:PySem.W.Frag} {tg:Expr} (a it:Addr):Turn P w K tg (Itl K a) [it] it (λ i h=>h.IsListIter it a i) where
  mem:=by simp
  obj:=λ i h st b hb=>by
    have e:b=it:=by simpa using hb
    subst e
    obtain ⟨o,e,c,d⟩:=st
    exact ⟨o,e,λ v z=>by rw [d] at z; cases z⟩
  keep:=λ i h h' st k=>st.at λ o e=>k it (by simp) o e
  item:=by
    intro X hP hw hK hc i pins s σ H E I hf st hg
    subst hP hw hK
    obtain ⟨xs,x,hq,hx⟩:=hg
    obtain ⟨its,rv,p,hz⟩:=I.list hq
    obtain ⟨u,hu,ru⟩:=rv.get hx
    obtain ⟨f0,f1,f2,f3,f4,f5⟩:=hf it (by simp)
    refine wpAny_pyNext_list_item st p.isList (x:=u) (by simpa using hu) λ h' st' sb=>?_
    have I1:Inv X pins σ H {s with heap:=h'}:=I.turned (t':=s.toks) (λ b o hb e=>(sb.2 b hb).trans e) f0 f1 f3 f4 f5
    obtain ⟨o,e,c,d⟩:=id st'
    exact ⟨u,rfl,n5 (s:={s with heap:=h'}) e c d (by decide) ⟨x,H,I1,ru,⟨rfl,λ ys hy=>by rw [I.ku hy hq]; exact hx⟩,st',λ b hb=>(hf b hb).1⟩⟩
  done:=by
    intro X hP hw hK hc i pins s σ H E I hf st hg
    subst hP hw hK
    obtain ⟨xs,hq,hx⟩:=hg
    obtain ⟨its,rv,p,hz⟩:=I.list hq
    obtain ⟨f0,f1,f2,f3,f4,f5⟩:=hf it (by simp)
    have hl:=rv.length
    exact wpAny_pyNext_list_end (I.ok.hd hc) st p.isList (by simp; omega) λ h' eb=>⟨rfl,I.turned (t':=s.toks) (λ b o hb e=>eb b o hb e) f0 f1 f3 f4 f5⟩
  self:=λ _ _ _ _ _ st h=>wpAny_pyIter_listiter st h
theorem mh {P:Program} {w:World} {K:PySem.W.Frag} {tg:Expr} (a it:Addr):Turn P w K tg (Itt K a) [it] it (λ i h=>h.IsTupleIter it a i) where
  mem:=by simp
  obj:=λ i h st b hb=>by
    have e:b=it:=by simpa using hb
    subst e
    obtain ⟨o,e,c,d⟩:=st
    exact ⟨o,e,λ v z=>by rw [d] at z; cases z⟩
  keep:=λ i h h' st k=>st.at λ o e=>k it (by simp) o e
  item:=by
    intro X hP hw hK hc i pins s σ H E I hf st hg
    subst hP hw hK
    obtain ⟨xs,x,hq,hx⟩:=hg
    obtain ⟨its,rv,p,hz⟩:=I.tuple hq
    obtain ⟨u,hu,ru⟩:=rv.get hx
    obtain ⟨f0,f1,f2,f3,f4,f5⟩:=hf it (by simp)
    refine wpAny_pyNext_tuple_item st (show s.heap.IsTuple a its.toArray from p) (x:=u) (by simpa using hu) λ h' st' sb=>?_
    have I1:Inv X pins σ H {s with heap:=h'}:=I.turned (t':=s.toks) (λ b o hb e=>(sb.2 b hb).trans e) f0 f1 f3 f4 f5
    obtain ⟨o,e,c,d⟩:=id st'
    exact ⟨u,rfl,n5 (s:={s with heap:=h'}) e c d (by decide) ⟨x,H,I1,ru,⟨rfl,λ ys hy=>by rw [I.i7 hy hq]; exact hx⟩,st',λ b hb=>(hf b hb).1⟩⟩
  done:=by
    intro X hP hw hK hc i pins s σ H E I hf st hg
    subst hP hw hK
    obtain ⟨xs,hq,hx⟩:=hg
    obtain ⟨its,rv,p,hz⟩:=I.tuple hq
    obtain ⟨f0,f1,f2,f3,f4,f5⟩:=hf it (by simp)
    have hl:=rv.length
    exact wpAny_pyNext_tuple_end (I.ok.hd hc) st (show s.heap.IsTuple a its.toArray from p) (by simp; omega) λ h' eb=>⟨rfl,I.turned (t':=s.toks) (λ b o hb e=>eb b o hb e) f0 f1 f3 f4 f5⟩
  self:=λ _ _ _ _ _ st h=>wpAny_pyIter_tupleiter st h
theorem mj {P:Program} {w:World} {K:PySem.W.Frag} {tg:Expr} (it:Addr) (lo:Int) (n:Nat):Turn P w K tg (Itr lo n) [it] it (λ i h=>IsRangeIter h it (lo+(i:Nat)*1) ((n:Int) - (i:Nat)) 1) where
  mem:=by simp
  obj:=λ i h st b hb=>by
    have e:b=it:=by simpa using hb
    subst e
    exact ⟨_,st,λ v z=>by
      have z':Data.fields _=Data.cell v:=z
      cases z'⟩
  keep:=λ i h h' st k=>k it (by simp) _ st
  item:=by
    intro X hP hw hK hc i pins s σ H E I hf st hg
    subst hP hw hK
    obtain ⟨f0,f1,f2,f3,f4,f5⟩:=hf it (by simp)
    have W:=Walks.range (prog:=X.prog) (w:=X.w) (I.ok.hd hc) it lo 1 n
    refine W.item i s _ _ hg st λ v h' tk hv st' kk=>?_
    obtain ⟨t,rfl⟩:=hv
    have I1:Inv X pins σ H {s with heap:=h',toks:=tk}:=I.turned (λ b o hb e=>kk b o (by simpa using hb) e) f0 f1 f3 f4 f5
    refine ⟨_,rfl,n5 (s:={s with heap:=h',toks:=tk}) (n:="range_iterator") st' rfl rfl (by decide) ⟨.int (lo+i),H,I1,⟨t,?_⟩,⟨rfl,rfl⟩,st',λ b hb=>(hf b hb).1⟩⟩
    rw [Int.mul_one]
  done:=by
    intro X hP hw hK hc i pins s σ H E I hf st hg
    subst hP hw hK
    obtain ⟨f0,f1,f2,f3,f4,f5⟩:=hf it (by simp)
    exact wpAny_pyNext_range_end (I.ok.hd hc) st (by have:n<=i:=hg; omega) λ h' eb=>⟨rfl,I.turned (t':=s.toks) (λ b o hb e=>eb b o hb e) f0 f1 f3 f4 f5⟩
  self:=λ _ _ _ _ _ st h=>wpAny_pyIter_rangeiter st h
end L2
namespace L2
open PySem PySem.Spec PyProof.Rows
section
variable {X:Cx} {tg:Expr}
noncomputable def Bj (K:PySem.W.Frag) (tl:TE):TI:=fun σ H R=>tl σ H λ x H1=>∃a,x=.ref a/\(∃xs,SqL K H1 a xs)/\R (Itl K a) H1
noncomputable def Dq (K:PySem.W.Frag) (tl:TE):TI:=fun σ H R=>tl σ H λ x H1=>∃a,x=.ref a/\(∃xs,SqT K H1 a xs)/\R (Itt K a) H1
theorem u7 {l:Expr} {tl:TE} (hl:PE X l tl):PI X tg l (Bj X.K tl):=by
 intro pins s σ H R I h
 refine thn (hl pins s σ H _ I h) λ v s1 ⟨x,H1,I1,r1,q1⟩=>?_
 obtain ⟨a,e,⟨xs,hq⟩,q⟩:=q1
 subst e
 cases r1
 obtain ⟨its,rv,p,hz⟩:=I1.list hq
 refine wpAny_pyIter_list p.isList ?_
 refine ⟨s1.heap.objs.size,[s1.heap.objs.size],_,_,H1,rfl,I1.kept (t':=s1.toks) λ b o e=>Heap.get?_push_of_some _ e,pP a _,⟨_,Heap.get?_push_size _ rfl,rfl,rfl⟩,λ b hb=>?_,q⟩
 have e:b=s1.heap.objs.size:=by simpa using hb
 subst e
 exact I1.kC (Nat.le_refl _) (I1.hok.fresh (Nat.le_refl _))
theorem yT {l:Expr} {tl:TE} (hl:PE X l tl):PI X tg l (Dq X.K tl):=by
 intro pins s σ H R I h
 refine thn (hl pins s σ H _ I h) λ v s1 ⟨x,H1,I1,r1,q1⟩=>?_
 obtain ⟨a,e,⟨xs,hq⟩,q⟩:=q1
 subst e
 cases r1
 obtain ⟨its,rv,p,hz⟩:=I1.tuple hq
 refine wpAny_pyIter_tuple (show s1.heap.IsTuple a its.toArray from p) ?_
 refine ⟨s1.heap.objs.size,[s1.heap.objs.size],_,_,H1,rfl,I1.kept (t':=s1.toks) λ b o e=>Heap.get?_push_of_some _ e,mh a _,⟨_,Heap.get?_push_size _ rfl,rfl,rfl⟩,λ b hb=>?_,q⟩
 have e:b=s1.heap.objs.size:=by simpa using hb
 subst e
 exact I1.kC (Nat.le_refl _) (I1.hok.fresh (Nat.le_refl _))
theorem rC {pins:List (Addr×Obj)} {σ:St} {H:Hp} {s:Shared} {R:It->Hp->Prop} {E:Value->Shared->Prop} {lo hi:Int} {t u v:Tok} {tk:Nat} (I:Inv X pins σ H s) (h1:-(2^62)<=lo) (h2:lo < 2^62) (h3:-(2^62)<=hi) (h4:hi < 2^62)
  (q:R (Itr lo (hi - lo).toNat) H):wpAny (model X.prog X.w) X.A (pyIter (.ref s.heap.objs.size)) (PIE X pins σ tg R) E {s with heap:=s.heap.push {cls:=.type "range",data:=.fields #[.int lo t,.int hi u,.int 1 v]},toks:=tk}:=by
 refine wpAny_pyIter_range (IsRange.new ..) (small_one h1 h2 h3 h4) ?_
 have I1:Inv X pins σ H {s with heap:=s.heap.push {cls:=.type "range",data:=.fields #[.int lo t,.int hi u,.int 1 v]},toks:=tk}:=I.kept λ b o e=>Heap.get?_push_of_some _ e
 refine ⟨(s.heap.push {cls:=.type "range",data:=.fields #[.int lo t,.int hi u,.int 1 v]}).objs.size,[(s.heap.push {cls:=.type "range",data:=.fields #[.int lo t,.int hi u,.int 1 v]}).objs.size],_,_,H,rfl,
  I1.kept (t':=tk) λ b o e=>Heap.get?_push_of_some _ e,mj _ lo (hi - lo).toNat,?_,λ b hb=>?_,q⟩
 ·have e1:lo+((0:Nat):Int)*1=lo:=by simp
  have e2:(((hi - lo).toNat:Nat):Int) - ((0:Nat):Int)=Builtin.Range.rangeSize lo hi 1:=by rw [rangeSize_one]; split<;>omega
  show IsRangeIter _ _ (lo+((0:Nat):Int)*1) ((((hi - lo).toNat:Nat):Int) - ((0:Nat):Int)) 1
  rw [e1,e2]
  exact Heap.get?_push_size _ rfl
 ·have e:b=(s.heap.push {cls:=.type "range",data:=.fields #[.int lo t,.int hi u,.int 1 v]}).objs.size:=by simpa using hb
  subst e
  exact I1.kC (Nat.le_refl _) (I1.hok.fresh (Nat.le_refl _))
noncomputable def Bk (ta:TA):TI:=fun σ H R=>ta σ H λ vs H1=>∃j:Int,vs=[.int j]/\-(2^62)<=j/\j < 2^62/\R (Itr 0 j.toNat) H1
theorem pQ {a:Expr} {ta:TA} {p pos:Pos} (hg:Gl X "range") (hm:X.mg "range"=none) (ha:PA X [a] ta) (hs:starEach [a] X.env=[(false,eval a X.env)]:=by rfl):PI X tg (.Call (.Name "range" p) [a] [] pos) (Bk ta):=by
 intro pins s σ H R I h
 refine Call_ (dD I hg hm boot_range (PyProof.Rows.callWith_type1 (thn (ha pos pins s σ H _ I h) λ us s1 ⟨vs,H1,I1,r1,q1⟩=>?_) hs rfl))
 obtain ⟨j,e,q1,q2,q⟩:=q1
 subst e
 cases r1 with
 | cons r rr=>
  cases rr
  obtain ⟨t,rfl⟩:=r
  exact call_range_1 (rC I1 (by omega) (by omega) q1 q2 (by simpa using q))
noncomputable def Dr (wi:TI) (g:TG) (tb:TS):TS:=λ D σ H=>wi σ H λ J H1=>∃W:Nat->Nat->St->Hp->Prop,(∃m,W 0 m σ H1)/\∀i m σ H,W i m σ H->
 (J.stop i H/\D.nx σ H)\/(J.go i H/\∃N:St->Hp->Prop,(∀σ' H',N σ' H'->∃m',m' < m/\W (i+1) m' σ' H')/\∀x H',J.yld i H x H'->g x σ H' fun σ2 H2=>tb {D with nx:=N,ct:=N,bk:=D.nx} σ2 H2)
noncomputable def gH (fp:List Addr) (h:Heap):List (Addr×Obj):=fp.filterMap λ b=>(h.get? b).map λ o=>(b,o)
theorem dg {fp:List Addr} {h:Heap} {b:Addr} {o:Obj} (hb:b∈fp) (e:h.get? b=some o):(b,o)∈gH fp h:=List.mem_filterMap.mpr ⟨b,hb,by rw [e]; rfl⟩
theorem pR {fp:List Addr} {h:Heap} {p:Addr×Obj} (hp:p∈gH fp h):p.1∈fp/\h.get? p.1=some p.2:=by
 obtain ⟨b,hb,e⟩:=List.mem_filterMap.mp hp
 cases q:h.get? b with
 | none=>rw [q] at e; cases e
 | some o=>
  rw [q] at e
  have e':(b,o)=p:=Option.some.inj e
  subst e'
  exact ⟨hb,q⟩
theorem Inv.pinned {pins:List (Addr×Obj)} {σ:St} {H:Hp} {s:Shared} {fp:List Addr} (I:Inv X pins σ H s) (hf:∀b∈fp,fL X pins H b) (ho:∀b∈fp,∃o,s.heap.get? b=some o/\∀v,o.data≠.cell v):Inv X (pins++gH fp s.heap) σ H s:=
 I.nZ λ p hp=>(List.mem_append.mp hp).elim (λ z=>I.pin p (List.mem_append_right _ z)) λ z=>by
  obtain ⟨hb,e⟩:=pR z
  obtain ⟨f0,f1,f2,_⟩:=hf p.1 hb
  obtain ⟨o,e',d⟩:=ho p.1 hb
  rw [e] at e'; cases e'
  exact ⟨e,f0,f1,f2,d⟩
theorem Inv.fc {pins pl:List (Addr×Obj)} {σ:St} {H:Hp} {s:Shared} (I:Inv X (pins++pl) σ H s):Inv X pins σ H s:=I.nZ λ p hp=>I.pin p (List.mem_append_right _ (List.mem_append_left _ hp))
theorem yU {iter:Expr} {body:List Stmt} {wi:TI} {g:TG} {tb:TS} {pos:Pos} (hp:PassesOwn (model X.prog X.w) X.A X.env X.xe) (hc:X.calm=true) (hi:PI X tg iter wi) (hg:PG X tg g) (hb:PSs X body tb)
  (hs:∀x,foldedSetIterable iter X.env x=pure x:=by intro _; rfl):PS X (.For tg iter body [] pos) (Dr wi g tb):=by
 intro pins s σ H D I h
 refine wpAny_For (thn (hi pins s σ H _ I h) λ v s1 h1=>thn h1 λ itv s2 h2=>?_) hs
 obtain ⟨it,fp,tn,J,H2,e,I2,T,st2,f2,W,⟨m0,w0⟩,turn⟩:=h2
 subst e
 have stat:∀{H':Hp},(∀b∈fp,H' b=none)->∀b∈fp,fL X pins H' b:=λ hn b hb=>⟨hn b hb,(f2 b hb).2⟩
 refine codeAny_forLoop_any (λ n s'=>∃i σ' H',Inv X pins σ' H' s'/\tn i s'.heap/\(∀b∈fp,H' b=none)/\W i n σ' H') ?_ m0 ⟨0,σ,H2,I2,st2,λ b hb=>(f2 b hb).1,w0⟩
 rintro n s3 ⟨i,σ3,H3,I3,st3,fr3,w3⟩
 rcases turn i n σ3 H3 w3 with ⟨stop,qn⟩ | ⟨go,N,hN,step⟩
 ·refine wpAny_passesOwn hp (thn (T.done X rfl rfl rfl hc i pins s3 σ3 H3 X.xe I3 (stat fr3) st3 stop) λ r s4 ⟨hr,I4⟩=>?_)
  subst hr
  exact wpAny_execs_nil ⟨σ3,H3,I4,qn⟩
 ·refine wpAny_passesOwn hp (thn (T.item X rfl rfl rfl hc i pins s3 σ3 H3 X.xe I3 (stat fr3) st3 go) λ r s4 ⟨u,hr,h4⟩=>?_)
  subst hr
  refine wpAny_passesOwn hp (thn h4 λ _ s5 ⟨x,H5,I5,r5,y5,st5,fr5⟩=>?_)
  have I5':=I5.pinned (stat fr5) (T.obj _ _ st5)
  refine wpAny_passesOwn hp (thn (hg _ s5 σ3 H5 x u _ I5' r5 (step x H5 y5)) λ _ s6 ⟨σ6,H6,I6,q6⟩=>?_)
  refine wpAny_passesOwn hp (thn (hb _ s6 σ6 H6 _ I6 q6) λ f s7 q7=>?_)
  have again:∀{σ7:St} {H7:Hp},Inv X (pins++gH fp s5.heap) σ7 H7 s7->N σ7 H7->∃m,m < n/\∃i σ' H',Inv X pins σ' H' s7/\tn i s7.heap/\(∀b∈fp,H' b=none)/\W i m σ' H':=λ {σ7 H7} I7 n7=>by
   obtain ⟨m',hm,w7⟩:=hN σ7 H7 n7
   refine ⟨m',hm,i+1,σ7,H7,I7.fc,T.keep _ _ _ st5 λ b hb o e=>(I7.pin (b,o) (List.mem_append_right _ (List.mem_append_right _ (dg hb e)))).1,λ b hb=>?_,w7⟩
   obtain ⟨o,e,d⟩:=T.obj _ _ st5 b hb
   exact (I7.pin (b,o) (List.mem_append_right _ (List.mem_append_right _ (dg hb e)))).2.1
  cases f with
  | next=>obtain ⟨σ7,H7,I7,n7⟩:=q7; exact again I7 n7
  | cont=>obtain ⟨σ7,H7,I7,n7⟩:=q7; exact again I7 n7
  | brk=>obtain ⟨σ7,H7,I7,q7⟩:=q7; exact ⟨σ7,H7,I7.fc,q7⟩
  | ret v=>obtain ⟨x7,σ7,H7,I7,r7,q7⟩:=q7; exact ⟨x7,σ7,H7,I7.fc,r7,q7⟩
end
end L2
namespace L2
open PySem PySem.Spec PyProof.Rows
abbrev R2:=V->V->Hp->VK->Prop
noncomputable def OpR (X:Cx) (f:Value->Value->Sem Value) (r:R2):Prop:=
 ∀(pins:List (Addr×Obj)) (s:Shared) (σ:St) (H:Hp) (x y:V) (v u:Value) (Q:VK),Inv X pins σ H s->RelV x v->RelV y u->r x y H Q->
  wpAny (model X.prog X.w) X.A (f v u) (EP X pins σ Q) X.xe s
noncomputable def UnR (X:Cx) (f:Value->Sem Value) (r:V->Hp->VK->Prop):Prop:=
 ∀(pins:List (Addr×Obj)) (s:Shared) (σ:St) (H:Hp) (x:V) (v:Value) (Q:VK),Inv X pins σ H s->RelV x v->r x H Q->
  wpAny (model X.prog X.w) X.A (f v) (EP X pins σ Q) X.xe s
noncomputable def aZ (X:Cx) (f:Value) (r:List V->Hp->VK->Prop):Prop:=
 ∀(pins:List (Addr×Obj)) (s:Shared) (σ:St) (H:Hp) (xs:List V) (us:List Value) (Q:VK),Inv X pins σ H s->Vals xs us->r xs H Q->
  wpAny (model X.prog X.w) X.A (call f us) (EP X pins σ Q) X.xe s
noncomputable def Ds (X:Cx) (r:V->Hp->(Bool->Hp->Prop)->Prop):Prop:=
 ∀(pins:List (Addr×Obj)) (s:Shared) (σ:St) (H:Hp) (x:V) (v:Value) (Q:Bool->Hp->Prop),Inv X pins σ H s->RelV x v->r x H Q->
  wpAny (model X.prog X.w) X.A (truthy v) (TP X pins σ Q) X.xe s
noncomputable def tOp (r:R2) (ta tb:TE):TE:=fun σ H Q=>ta σ H λ x H1=>tb σ H1 λ y H2=>r x y H2 Q
noncomputable def tUn (r:V->Hp->VK->Prop) (ta:TE):TE:=fun σ H Q=>ta σ H λ x H1=>r x H1 Q
noncomputable def rI (C:Int->Int->Prop) (g:Int->Int->V):R2:=λ x y H Q=>∃i j,x=.int i/\y=.int j/\C i j/\Q (g i j) H
noncomputable def rI0 (g:Int->Int->V):R2:=λ x y H Q=>∃i j,x=.int i/\y=.int j/\Q (g i j) H
noncomputable def rU (g:Int->V):V->Hp->VK->Prop:=λ x H Q=>∃i,x=.int i/\Q (g i) H
section
variable {X:Cx} {a b c:Expr} {ta tb tc:TE} {pos:Pos}
theorem yV (ha:PE X a ta) (hb:PE X b tb) {pins:List (Addr×Obj)} {s:Shared} {σ:St} {H:Hp} {R:V->V->Hp->Prop} (I:Inv X pins σ H s)
  (h:ta σ H λ x H1=>tb σ H1 λ y H2=>R x y H2) {Q:Value->Shared->Prop} {f:Value->Value->Sem Value}
  (hf:∀v u s2 x y H2,Inv X pins σ H2 s2->RelV x v->RelV y u->R x y H2->wpAny (model X.prog X.w) X.A (f v u) Q X.xe s2) :
  wpAny (model X.prog X.w) X.A (eval a X.env) (λ v s₁=>wpAny (model X.prog X.w) X.A (eval b X.env) (λ u s₂=>wpAny (model X.prog X.w) X.A (f v u) Q X.xe s₂) X.xe s₁) X.xe s:=by
 refine thn (ha pins s σ H _ I h) λ v s1 ⟨x,H1,I1,r1,q1⟩=>?_
 refine thn (hb pins s1 σ H1 _ I1 q1) λ u s2 ⟨y,H2,I2,r2,q2⟩=>?_
 exact hf v u s2 x y H2 I2 r1 r2 q2
theorem Bl {op:Operator} {r:R2} (ho:OpR X (binaryOp op) r) (ha:PE X a ta) (hb:PE X b tb):PE X (.BinOp a op b pos) (tOp r ta tb):=by
 intro pins s σ H Q I h
 exact wpAny_BinOp (yV ha hb I h λ v u s2 x y H2 I2 rx ry q=>ho pins s2 σ H2 x y v u Q I2 rx ry q)
theorem Bm {op:UnaryOp} {r:V->Hp->VK->Prop} (ho:UnR X (unaryOp op) r) (ha:PE X a ta):PE X (.UnaryOp op a pos) (tUn r ta):=by
 intro pins s σ H Q I h
 exact UnaryOp_ (thn (ha pins s σ H _ I h) λ v s1 ⟨x,H1,I1,r1,q1⟩=>ho pins s1 σ H1 x v Q I1 r1 q1)
theorem opI {f:Value->Value->Sem Value} {C:Int->Int->Prop} {g:Int->Int->Int}
  (rule:∀(i j:Int) (t u:Tok) (s:Shared) (Q:Value->Shared->Prop) (E:Value->Shared->Prop),C i j->Q (.int (g i j) s.toks) {s with toks:=s.toks+1}->wpAny (model X.prog X.w) X.A (f (.int i t) (.int j u)) Q E s) :
  OpR X f (rI C λ i j=>.int (g i j)):=by
 intro pins s σ H x y v u Q I rx ry h
 obtain ⟨i,j,rfl,rfl,hc,q⟩:=h
 obtain ⟨t,rfl⟩:=rx
 obtain ⟨t',rfl⟩:=ry
 exact rule i j t t' s _ _ hc ⟨.int (g i j),H,I.tok _,⟨_,rfl⟩,q⟩
theorem yW {f:Value->Value->Sem Value} {g:Int->Int->Int}
  (rule:∀(i j:Int) (t u:Tok) (s:Shared) (Q:Value->Shared->Prop) (E:Value->Shared->Prop),Q (.int (g i j) s.toks) {s with toks:=s.toks+1}->wpAny (model X.prog X.w) X.A (f (.int i t) (.int j u)) Q E s) :
  OpR X f (rI0 λ i j=>.int (g i j)):=by
 intro pins s σ H x y v u Q I rx ry h
 obtain ⟨i,j,rfl,rfl,q⟩:=h
 obtain ⟨t,rfl⟩:=rx
 obtain ⟨t',rfl⟩:=ry
 exact rule i j t t' s _ _ ⟨.int (g i j),H,I.tok _,⟨_,rfl⟩,q⟩
theorem u9 {f:Value->Value->Sem Value} {g:Int->Int->Bool}
  (rule:∀(i j:Int) (t u:Tok) (s:Shared) (Q:Value->Shared->Prop) (E:Value->Shared->Prop),Q (.bool (g i j)) s->wpAny (model X.prog X.w) X.A (f (.int i t) (.int j u)) Q E s) :
  OpR X f (rI0 λ i j=>.bl (g i j)):=by
 intro pins s σ H x y v u Q I rx ry h
 obtain ⟨i,j,rfl,rfl,q⟩:=h
 obtain ⟨t,rfl⟩:=rx
 obtain ⟨t',rfl⟩:=ry
 exact rule i j t t' s _ _ ⟨.bl (g i j),H,I,rfl,q⟩
noncomputable def Bo (i j:Int):Prop:=0 < j/\j < 1073741824
noncomputable def Bp (i j:Int):Prop:=0<=j/\j<=1000000/\i.natAbs < 2^64
noncomputable def vc (i j:Int):Prop:=(-(2^64) < i/\i < 2^64)\/(-(2^64) < j/\j < 2^64)
theorem vc.ok {i j:Int} (h:vc i j):IntMulOk i j:=by
 rcases h with ⟨h1,h2⟩ | ⟨h1,h2⟩
 ·exact .of_left (intBits_le_64 h1 h2)
 ·exact .of_right (intBits_le_64 h1 h2)
theorem mq (k:Nat):(0:Int)<=2^k:=by
 rw [two_pow_cast]
 exact Int.natCast_nonneg _
theorem yX:OpR X (binaryOp .Add) (rI0 λ i j=>.int (i+j)):=yW λ _ _ _ _ _ _ _ q=>add_int q
theorem yY:OpR X (binaryOp .Sub) (rI0 λ i j=>.int (i - j)):=yW λ _ _ _ _ _ _ _ q=>sub_int q
theorem yZ:OpR X (binaryOp .Mult) (rI vc λ i j=>.int (i*j)):=opI λ _ _ _ _ _ _ _ hc q=>mul_int q hc.ok
theorem vd:OpR X (binaryOp .FloorDiv) (rI Bo λ i j=>.int (i / j)):=opI λ i j _ _ _ _ _ hc q=>by
 have h1:(0:Int) < j:=hc.1
 have h2:j < 1073741824:=hc.2
 exact floordiv_int (by omega) (by rw [Int.fdiv_eq_ediv_of_nonneg i (by omega)]; exact q) (.inl (PyProof.noPylong_small (by omega)))
theorem y9:OpR X (binaryOp .Mod) (rI (λ _ j=>0 < j) λ i j=>.int (i%j)):=opI λ i j _ _ _ _ _ hc q=>by
 have h1:(0:Int) < j:=hc
 exact mod_int' (by omega) (by rw [Int.fmod_eq_emod_of_nonneg i (by omega)]; exact q)
theorem za:OpR X (binaryOp .Pow) (rI Bp λ i j=>.int (i^j.toNat)):=opI λ _ _ _ _ _ _ _ hc q=>pow_int_small hc.1 hc.2.1 hc.2.2 q
theorem zb:OpR X (binaryOp .LShift) (rI Bp λ i j=>.int (i*2^j.toNat)):=opI λ _ _ _ _ _ _ _ hc q=>lshift_int_small hc.1 hc.2.1 hc.2.2 q
theorem zc:OpR X (binaryOp .RShift) (rI (λ _ j=>0<=j) λ i j=>.int (i / 2^j.toNat)):=opI λ i j _ _ _ _ _ hc q=>
 rshift_int hc (by rw [Int.fdiv_eq_ediv_of_nonneg i (mq _)]; exact q)
theorem zd:OpR X (binaryOp .BitAnd) (rI0 λ i j=>.int (Builtin.bitAnd i j)):=yW λ _ _ _ _ _ _ _ q=>and_int q
theorem unI {f:Value->Sem Value} {g:Int->Int}
  (rule:∀(i:Int) (t:Tok) (s:Shared) (Q:Value->Shared->Prop) (E:Value->Shared->Prop),Q (.int (g i) s.toks) {s with toks:=s.toks+1}->wpAny (model X.prog X.w) X.A (f (.int i t)) Q E s) :
  UnR X f (rU λ i=>.int (g i)):=by
 intro pins s σ H x v Q I rx h
 obtain ⟨i,rfl,q⟩:=h
 obtain ⟨t,rfl⟩:=rx
 exact rule i t s _ _ ⟨.int (g i),H,I.tok _,⟨_,rfl⟩,q⟩
theorem ze:UnR X (unaryOp .USub) (rU λ i=>.int (-i)):=unI λ _ _ _ _ _ q=>neg_int q
end
section
variable {X:Cx} {a b c:Expr} {ta tb tc:TE} {pos:Pos}
theorem gI {pins:List (Addr×Obj)} {σ:St} {H:Hp} {s:Shared} {Q:VK} {k k':Bool} (I:Inv X pins σ H s) (q:Q (.bl k) H) (e:k=k'):EP X pins σ Q (.bool k') s:=by
 subst e
 exact ⟨.bl k,H,I,rfl,q⟩
theorem Bq:OpR X (compareOp .Lt) (rI0 λ i j=>.bl (decide (i < j))):=u9 λ _ _ _ _ _ _ _ q=>lt_int q
theorem Br:OpR X (compareOp .LtE) (rI0 λ i j=>.bl (decide (i<=j))):=u9 λ _ _ _ _ _ _ _ q=>le_int q
theorem Bs:OpR X (compareOp .Gt) (rI0 λ i j=>.bl (decide (j < i))):=u9 λ _ _ _ _ _ _ _ q=>gt_int q
theorem Bt:OpR X (compareOp .GtE) (rI0 λ i j=>.bl (decide (j<=i))):=u9 λ _ _ _ _ _ _ _ q=>ge_int q
theorem pS:OpR X (compareOp .Lt) (λ x y H Q=>∃i j,x=.str i/\y=.str j/\Q (.bl (decide (i.cps.toList < j.cps.toList))) H):=by
 intro pins s σ H x y v u Q I rx ry h
 obtain ⟨i,j,rfl,rfl,q⟩:=h
 obtain ⟨t,rfl⟩:=rx
 obtain ⟨t',rfl⟩:=ry
 exact lt_str (gI I q rfl)
theorem pT:OpR X (compareOp .In) (λ x y H Q=>∃i j,x=.str i/\y=.str j/\Q (.bl (!(Builtin.Str.occurrences j i 0 j.length 1).isEmpty)) H):=by
 intro pins s σ H x y v u Q I rx ry h
 obtain ⟨i,j,rfl,rfl,q⟩:=h
 obtain ⟨t,rfl⟩:=rx
 obtain ⟨t',rfl⟩:=ry
 exact in_str (gI I q rfl)
theorem zf:OpR X (compareOp .Is) (λ x y H Q=>y=.non/\Q (.bl (decide (x=.non))) H):=by
 intro pins s σ H x y v u Q I rx ry h
 obtain ⟨rfl,q⟩:=h
 cases ry
 refine is_none_gen (gI I q ?_)
 cases x<;>first
  | (cases rx; rfl)
  | (obtain ⟨t,rfl⟩:=rx; rfl)
theorem ve:OpR X (compareOp .IsNot) (λ x y H Q=>y=.non/\Q (.bl (!decide (x=.non))) H):=by
 intro pins s σ H x y v u Q I rx ry h
 obtain ⟨rfl,q⟩:=h
 cases ry
 refine isnot_none_gen (gI I q ?_)
 cases x<;>first
  | (cases rx; rfl)
  | (obtain ⟨t,rfl⟩:=rx; rfl)
theorem jA {op:CmpOp} {r:R2} (ho:OpR X (compareOp op) r) (ha:PE X a ta) (hb:PE X b tb) (hm:behindInMarks op b=false):PE X (.Compare a [op] [b] pos) (tOp r ta tb):=by
 intro pins s σ H Q I h
 exact wpAny_Compare1 (yV ha hb I h λ v u s2 x y H2 I2 rx ry q=>ho pins s2 σ H2 x y v u Q I2 rx ry q) hm
noncomputable def xH (t:TE):TT:=fun σ H Q=>t σ H λ x H'=>∃k,x=.bl k/\Q k H'
theorem jB {op:CmpOp} {r:R2} (ho:OpR X (compareOp op) r) (ha:PE X a ta) (hb:PE X b tb) (hm:behindInMarks op b=false):PT X (.Compare a [op] [b] pos) (xH (tOp r ta tb)):=by
 intro pins s σ H Q I h
 refine wpAny_isTrue_Compare1 (thn (ha pins s σ H _ I h) λ v s1 ⟨x,H1,I1,r1,q1⟩=>thn (hb pins s1 σ H1 _ I1 q1) λ u s2 ⟨y,H2,I2,r2,q2⟩=>
  thn (ho pins s2 σ H2 x y v u _ I2 r1 r2 q2) λ c s3 ⟨z,H3,I3,r3,k,e,q3⟩=>?_) hm
 subst e
 cases r3
 exact wpAny_truthy_bool ⟨H3,I3,q3⟩
noncomputable def mw (r r':R2) (ta tb tc:TE):TE:=fun σ H Q=>ta σ H λ x H1=>tb σ H1 λ y H2=>r x y H2 λ z H3=>∃k,z=.bl k/\
 (if k=true then tc σ H3 λ w' H4=>r' y w' H4 Q else Q (.bl false) H3)
theorem rD {op op':CmpOp} {r r':R2} (ho:OpR X (compareOp op) r) (ho':OpR X (compareOp op') r') (ha:PE X a ta) (hb:PE X b tb) (hc:PE X c tc)
  (hm:lastMarks [op,op'] [b,c]=false:=by with_unfolding_all rfl):PE X (.Compare a [op,op'] [b,c] pos) (mw r r' ta tb tc):=by
 intro pins s σ H Q I h
 refine Compare_chain (thn (ha pins s σ H _ I h) λ v s1 ⟨x,H1,I1,r1,q1⟩=>chain_link (thn (hb pins s1 σ H1 _ I1 q1) λ u s2 ⟨y,H2,I2,r2,q2⟩=>
  thn (ho pins s2 σ H2 x y v u _ I2 r1 r2 q2) λ d s3 ⟨z,H3,I3,r3,k,e,q3⟩=>?_)) hm
 subst e
 cases r3
 refine wpAny_truthy_bool ?_
 cases k with
 | false=>exact ite_ff ⟨.bl false,H3,I3,rfl,q3⟩
 | true=>exact ite_tt (chain_last (thn (hc pins s3 σ H3 _ I3 q3) λ w' s4 ⟨z',H4,I4,r4,q4⟩=>ho' pins s4 σ H4 y z' u w' Q I4 r2 r4 q4))
theorem rE {op op':CmpOp} {r r':R2} (ho:OpR X (compareOp op) r) (ho':OpR X (compareOp op') r') (ha:PE X a ta) (hb:PE X b tb) (hc:PE X c tc)
  (hm:lastMarks [op,op'] [b,c]=false:=by with_unfolding_all rfl):PT X (.Compare a [op,op'] [b,c] pos) (xH (mw r r' ta tb tc)):=by
 intro pins s σ H Q I h
 refine isTrue_chain (thn (ha pins s σ H _ I h) λ v s1 ⟨x,H1,I1,r1,q1⟩=>test_link (thn (hb pins s1 σ H1 _ I1 q1) λ u s2 ⟨y,H2,I2,r2,q2⟩=>
  thn (ho pins s2 σ H2 x y v u _ I2 r1 r2 q2) λ d s3 ⟨z,H3,I3,r3,k,e,q3⟩=>?_)) hm
 subst e
 cases r3
 refine wpAny_truthy_bool ?_
 cases k with
 | false=>
  obtain ⟨k',e',q'⟩:=q3
  cases e'
  exact ite_ff ⟨H3,I3,q'⟩
 | true=>
  refine ite_tt (test_last (thn (hc pins s3 σ H3 _ I3 q3) λ w' s4 ⟨z',H4,I4,r4,q4⟩=>thn (ho' pins s4 σ H4 y z' u w' _ I4 r2 r4 q4) λ d' s5 ⟨z2,H5,I5,r5,k2,e2,q5⟩=>?_))
  subst e2
  cases r5
  exact wpAny_truthy_bool ⟨H5,I5,q5⟩
noncomputable def zg (K:PySem.W.Frag) (x:V) (H:Hp) (k:Bool):Prop:=
 match x with
 | .non=>k=false
 | .bl b=>k=b
 | .int i=>k=(i != 0)
 | .str y=>y.length<=sizeLine/\k=((y.length:Int) != 0)
 | .byt y=>y.size<=sizeLine/\k=((y.size:Int) != 0)
 | .ref p=>(∃xs,SqL K H p xs/\k=!xs.isEmpty)\/(∃xs,SqT K H p xs/\k=!xs.isEmpty)\/∃kvs,H p=some (.dK kvs)/\k=!kvs.isEmpty
 | _=>False
theorem mz {κ:Type} {kvs:List (κ×V)} {vs:List (κ×Value)} (r:KV kvs vs):(!vs.isEmpty)=!kvs.isEmpty:=by
 cases r<;>rfl
theorem gJ {xs:List V} {its:List Value} (r:Vals xs its):(!its.toArray.isEmpty)=!xs.isEmpty:=by
 cases r<;>simp
theorem dG:(sizeLine:Nat) < 2^63:=by rw [sizeLine_eq]; decide
theorem zh:Ds X (λ x H Q=>∃k,zg X.K x H k/\Q k H):=by
 intro pins s σ H x v Q I rx h
 obtain ⟨k,e,q⟩:=h
 have hl:=dG
 have hs:sizeLine=16777216:=sizeLine_eq
 cases x with
 | non=>
  cases rx
  have e':k=false:=e
  subst e'
  exact truthy_none ⟨H,I,q⟩
 | bl b=>
  cases rx
  have e':k=b:=e
  subst e'
  exact wpAny_truthy_bool ⟨H,I,q⟩
 | int i=>
  obtain ⟨t,rfl⟩:=rx
  have e':k=(i != 0):=e
  subst e'
  exact PySem.P.truthy_int ⟨H,I,q⟩
 | str y=>
  obtain ⟨t,rfl⟩:=rx
  obtain ⟨hy,e'⟩:y.length<=sizeLine/\k=((y.length:Int) != 0):=e
  subst e'
  exact PySem.P.truthy_str (by omega) ⟨H,I.tok _,q⟩
 | byt y=>
  obtain ⟨t,rfl⟩:=rx
  obtain ⟨hy,e'⟩:y.size<=sizeLine/\k=((y.size:Int) != 0):=e
  subst e'
  exact PySem.W.truthy_bytes (by omega) ⟨H,I.tok _,q⟩
 | ref p=>
  cases rx
  have e':(∃xs,SqL X.K H p xs/\k=!xs.isEmpty)\/(∃xs,SqT X.K H p xs/\k=!xs.isEmpty)\/∃kvs,H p=some (.dK kvs)/\k=!kvs.isEmpty:=e
  rcases e' with ⟨xs,hx,e'⟩ | ⟨xs,hx,e'⟩ | ⟨kvs,hx,e'⟩
  ·subst e'
   obtain ⟨its,r,pl,hz⟩:=I.list hx
   have hlen:=r.length
   exact wpAny_truthy_list pl.isList (by simp only [List.size_toArray]; omega) ⟨H,I.tok _,by rw [gJ r]; exact q⟩
  ·subst e'
   obtain ⟨its,r,pl,hz⟩:=I.tuple hx
   have hlen:=r.length
   exact truthy_tuple pl (by simp only [List.size_toArray]; omega) ⟨H,I.tok _,by rw [gJ r]; exact q⟩
  ·subst e'
   obtain ⟨hz,hS,vs,r,m⟩:kvs.length<=sizeLine/\(p==sysModules)=false/\∃vs,KV kvs vs/\s.heap.DictOf (aR X.prog X.w) p vs:=I.hok p _ hx
   have hlen:kvs.length=vs.length:=Paired.length r
   exact wpAny_truthy_dict hS m (by omega) ⟨H,I.tok _,by rw [mz r]; exact q⟩
 | _=>exact (show False from e).elim
theorem rF (ha:PE X a ta) (he:∀whole,isTrue a X.env whole=(do let v <-whole; standAt a.pos; holding [v] (truthy v))) :
  PT X a (fun σ H Q=>ta σ H λ x H'=>∃k,zg X.K x H' k/\Q k H'):=by
 intro pins s σ H Q I h
 exact isTrue_plain (thn (ha pins s σ H _ I h) λ v s1 ⟨x,H1,I1,r1,q1⟩=>zh pins s1 σ H1 x v Q I1 r1 q1) (he _)
theorem mC:OpR X (binaryOp .Add) (λ x y H Q=>∃i j,x=.str i/\y=.str j/\i.length+j.length<=sizeLine/\Q (.str (i++j)) H):=by
 intro pins s σ H x y v u Q I rx ry h
 obtain ⟨i,j,rfl,rfl,hz,q⟩:=h
 obtain ⟨t,rfl⟩:=rx
 obtain ⟨t',rfl⟩:=ry
 exact add_str (λ t' tk=>⟨.str (i++j),H,I.tok _,⟨_,rfl⟩,q⟩) hz
theorem vals1 {x:V} {us:List Value} (r:Vals [x] us):∃u,us=[u]/\RelV x u:=by
 cases r with
 | cons r1 r2=>cases r2; exact ⟨_,rfl,r1⟩
theorem vals2 {x y:V} {us:List Value} (r:Vals [x,y] us):∃u w',us=[u,w']/\RelV x u/\RelV y w':=by
 cases r with
 | cons r1 r2=>
  cases r2 with
  | cons r3 r4=>cases r4; exact ⟨_,_,rfl,r1,r3⟩
theorem rG:aZ X (.builtin "abs") (λ xs H Q=>∃i,xs=[.int i]/\Q (.int (if i < 0 then -i else i)) H):=by
 intro pins s σ H xs us Q I r h
 obtain ⟨i,rfl,q⟩:=h
 obtain ⟨u,rfl,t,rfl⟩:=vals1 r
 exact call_abs_int λ u tk=>⟨.int (if i < 0 then -i else i),H,I.tok _,⟨_,rfl⟩,q⟩
theorem pU (hc:X.calm=true):aZ X (.builtin "max") (λ xs H Q=>∃i j,xs=[.int i,.int j]/\Q (.int (if j>i then j else i)) H):=by
 intro pins s σ H xs us Q I r h
 obtain ⟨i,j,rfl,q⟩:=h
 obtain ⟨u,w',rfl,⟨t,rfl⟩,⟨t',rfl⟩⟩:=vals2 r
 refine max_two_ints (I.ok.hd hc) λ h' tk k=>⟨_,H,I.kept k,?_,q⟩
 by_cases hj:j>i
 ·rw [if_pos hj,if_pos hj]; exact ⟨_,rfl⟩
 ·rw [if_neg hj,if_neg hj]; exact ⟨_,rfl⟩
theorem pV (hc:X.calm=true):aZ X (.builtin "min") (λ xs H Q=>∃i j,xs=[.int i,.int j]/\Q (.int (if j < i then j else i)) H):=by
 intro pins s σ H xs us Q I r h
 obtain ⟨i,j,rfl,q⟩:=h
 obtain ⟨u,w',rfl,⟨t,rfl⟩,⟨t',rfl⟩⟩:=vals2 r
 refine min_two_ints (I.ok.hd hc) λ h' tk k=>⟨_,H,I.kept k,?_,q⟩
 by_cases hj:j < i
 ·rw [if_pos hj,if_pos hj]; exact ⟨_,rfl⟩
 ·rw [if_neg hj,if_neg hj]; exact ⟨_,rfl⟩
theorem i8:aZ X (.type "int") (λ xs H Q=>(∃i,xs=[.int i]/\Q (.int i) H)\/∃k,xs=[.bl k]/\Q (.int (if k then 1 else 0)) H):=by
 intro pins s σ H xs us Q I r h
 rcases h with ⟨i,rfl,q⟩ | ⟨k,rfl,q⟩
 ·obtain ⟨u,rfl,t,rfl⟩:=vals1 r
  exact call_int_int ⟨.int i,H,I,⟨_,rfl⟩,q⟩
 ·obtain ⟨u,rfl,r1⟩:=vals1 r
  cases r1
  exact call_int_bool ⟨.int (if k then 1 else 0),H,I.tok _,⟨_,rfl⟩,q⟩
theorem kD:aZ X (.builtin "divmod") (λ xs H Q=>∃i j,xs=[.int i,.int j]/\Bo i j/\∀p,H p=none->Q (.ref p) (upd H p (.tup [.int (i / j),.int (i%j)]))):=by
 intro pins s σ H xs us Q I r h
 obtain ⟨i,j,rfl,⟨h1,h2⟩,q⟩:=h
 obtain ⟨u,w',rfl,⟨t,rfl⟩,⟨t',rfl⟩⟩:=vals2 r
 refine divmod_int (by omega) ?_ (.inl (PyProof.noPylong_small (by omega)))
 rw [Int.fdiv_eq_ediv_of_nonneg i (by omega),Int.fmod_eq_emod_of_nonneg i (by omega)]
 have hn:H s.heap.objs.size=none:=I.hok.fresh (Nat.le_refl _)
 refine ⟨.ref s.heap.objs.size,_,?_,rfl,q _ hn⟩
 refine I.laid (λ b o e=>Heap.get?_push_of_some _ e) (Nat.le_refl _) ⟨by simp only [List.length_cons,List.length_nil]; rw [sizeLine_eq]; decide,[.int (i / j) s.toks,.int (i%j) (s.toks+1)],.cons ⟨_,rfl⟩ (.cons ⟨_,rfl⟩ .nil),?_⟩
 exact ⟨_,Heap.get?_push_size s.heap rfl,rfl,0,rfl⟩
end
end L2
namespace L2
open PySem PySem.Spec PyProof.Rows
structure kE (h:Heap) (x dx C:Addr) (mA:Str->Option Value):Prop where
 obj:h.get? x=some (PySem.W.instObj C dx)
 ns:h.Ns1 dx mA
 ne:dx≠x
theorem pW {h:Heap} {dx:Addr} {mA:Str->Option Value} (n:h.Ns1 dx mA):∃od,h.get? dx=some od/\∀name,PySem.W.lookIn name od=some (mA name):=by
 obtain ⟨o,es,ep,ho,hd,hk,_,hm⟩:=n
 refine ⟨o,ho,λ name=>?_⟩
 have e:=hm name
 unfold nsFind findBy at e
 rw [<-Array.find?_toList] at e
 unfold PySem.W.lookIn
 rw [hd]
 dsimp only
 split
 ·rename_i y q
  rw [q] at e
  exact congrArg some e
 ·rename_i q
  rw [q] at e
  have a:es.toList.any (·.refKey)=false:=by
   rw [List.any_eq_false]
   intro y hy
   obtain ⟨z,t,hkey⟩:=hk y (Array.mem_toList_iff.mp hy)
   simp [DictEntry.refKey,hkey]
  have a':¬es.toList.any (·.refKey)=true:=by rw [a]; exact Bool.false_ne_true
  rw [if_neg a']
  exact congrArg some e
theorem kE.look {h:Heap} {x dx C:Addr} {mA:Str->Option Value} (I:kE h x dx C mA):∃od,PySem.W.InstAt h x (PySem.W.instObj C dx) C (some od)/\∀name,PySem.W.lookIn name od=some (mA name):=
 let ⟨od,ho,hl⟩:=pW I.ns
 ⟨od,⟨I.obj,rfl,rfl,ho⟩,hl⟩
section
variable {prog:Program} {w:World} {A:Around} {E:Value->Shared->Prop} {s:Shared} {K:PySem.W.Frag} {x dx C f:Addr} {mA:Str->Option Value} {name:Str} {v:Value}
theorem get_map {expr:Bool} {Q:Value->Shared->Prop} (X:K.In s.heap) (I:kE s.heap x dx C mA) (hg:PySem.W.plainGet K C name=true) (hh:PySem.W.hasDictIn K C=true)
  (ha:PySem.W.findIn K (.ref C) name=some none) (hv:mA name=some v) (hv':PySem.W.handedIn v=true) (h:Q v {s with toks:=s.toks+1}) :
  wpAny (model prog w) A (getAttr (.ref x) name expr) Q E s:=by
 obtain ⟨od,J,hl⟩:=I.look
 exact PySem.W.get_value X J (PySem.W.plainGet_of hg).1 (PySem.W.findObj_own hh ha rfl (by rw [hl,hv])) hv' h
theorem rH {pl:Sem Bool} {Q:Value×List Value->Shared->Prop} (X:K.In s.heap) (I:kE s.heap x dx C mA) (hg:PySem.W.plainGet K C name=true)
  (hf:PySem.W.findIn K (.ref C) name=some (some (.ref f))) (ht:PySem.W.isFn K (.ref f)=true) (hv:mA name=none) (h:Q (.ref f,[.ref x]) s) :
  wpAny (model prog w) A (getMethod (.ref x) name pl) Q E s:=by
 obtain ⟨od,J,hl⟩:=I.look
 exact PySem.W.method_fn X J (PySem.W.plainGet_of hg).1 (PySem.W.plainGet_of hg).2 hf (beq_iff_eq.mp ht) (by show (PySem.W.lookIn name od).map (·.isSome)=some false; rw [hl,hv]; rfl) h
theorem vf {ns:List Str} {Q:Unit->Shared->Prop} (X:K.In s.heap) (I:kE s.heap x dx C mA)
  (hs:PySem.W.findIn K (.ref C) "__setattr__"=some (some (.builtin "object.__setattr__"))) (hp:PySem.W.plainOver K C=true) (ht:PySem.W.takerIn K C name=some none) (hh:PySem.W.hasDictIn K C=true)
  (hw:PySem.Within mA ns) (hsz:ns.length<=sizeLine)
  (h:∀h',kE h' x dx C (λ y=>if y=name then some v else mA y)->Heap.SameBut dx s.heap h'->Q () {s with heap:=h',toks:=s.toks+2}) :
  wpAny (model prog w) A (setAttr (.ref x) name v) Q E s:=by
 obtain ⟨od,J,hl⟩:=I.look
 refine PySem.W.set_plain X J hs (PySem.W.osa_open (s:={s with toks:=s.toks+1}) (r:=none) X J hp ht λ b=>?_)
 obtain ⟨cd,hc,hd'⟩:=PySem.W.any_some hh
 have hx:s.heap.get? x=some ⟨.ref C,some dx,.plain,#[]⟩:=I.obj
 refine wpAny_bind (wpAny_pure (wpAny_bind (wpAny_bind (wpAny_loadPart hx (wpAny_bind (PySem.W.Looks.here (s:={s with toks:=s.toks+1}) (PySem.W.looks_clsIn X hc) ?_))))))
 rw [hd']
 refine wpAny_pure (a:=some dx) (wpAny_bind (wpAny_pure (wpAny_bind ?_)))
 refine wpAny_nsSet1 (s:={s with toks:=s.toks+1}) I.ns λ h' hn2 hs2=>?_
 obtain ⟨oD,esD,epD,hoD,hdD,hcD⟩:=hn2.count (PySem.Within.cons name v hw)
 refine wpAny_bind (wpAny_lookBehind hoD (by rw [hdD]; exact pastItsLine_dict (Nat.le_trans hcD (by rw [List.length_cons]; omega))) ?_)
 exact wpAny_pure (h _ ⟨(hs2.2 _ (Ne.symm I.ne)).trans I.obj,hn2,I.ne⟩ hs2)
theorem rJ {R:Result->Shared->Prop} {vs:List Value} {kw:List (Str×Value)} (X:K.In s.heap) (hm:PySem.W.makesIn K C=true)
  (hi:PySem.W.findIn K (.ref C) "__init__"=some (some (.ref f))) (hf:PySem.W.typeIn K (.ref f)=some (.type "function"))
  (h:codeAny (model prog w) (A.under (.builtin "type.__call__" ⟨.ref C::vs,kw⟩)) (.call (.ref f) ⟨.ref (s.heap.objs.size+1)::vs,kw⟩) (PySem.W.InitBack (s.heap.objs.size+1) R)
   {s with heap:=(s.heap.push PySem.W.emptyDict).push (PySem.W.instObj C s.heap.objs.size)}) :
  codeAny (model prog w) A (.call (.ref C) ⟨vs,kw⟩) R s:=by
 obtain ⟨hh,g,d,t,os⟩:=s
 exact PySem.W.make_core (PySem.W.makes_of X hm) (PySem.W.looks_findIn X hi) (λ self=>PySem.W.bind_fn X self hf) (.inl rfl) h
end
noncomputable def cu (f:Str) (v:V):List (Str×V)->List (Str×V)
 | []=>[(f,v)]
 | (g,x)::r=>if g=f then (g,v)::r else (g,x)::cu f v r
theorem f9 (f g:Str) (v:V):∀fs:List (Str×V),(cu f v fs).lookup g=if g=f then some v else fs.lookup g
 | []=>by
  show List.lookup g [(f,v)]=_
  by_cases h:g=f
  ·have hb:(g==f)=true:=beq_iff_eq.mpr h
   simp only [List.lookup,hb,if_pos h]
  ·have hb:(g==f)=false:=beq_eq_false_iff_ne.mpr h
   simp only [List.lookup,hb,if_neg h]
 | (k,x)::r=>by
  have ih:=f9 f g v r
  rw [show cu f v ((k,x)::r)=(if k=f then (k,v)::r else (k,x)::cu f v r) from rfl]
  by_cases hk:k=f
  ·rw [if_pos hk]
   by_cases h:g=k
   ·have hb:(g==k)=true:=beq_iff_eq.mpr h
    simp only [List.lookup,hb,if_pos (h.trans hk)]
   ·have hb:(g==k)=false:=beq_eq_false_iff_ne.mpr h
    simp only [List.lookup,hb,if_neg (λ e:g=f=>h (e.trans hk.symm))]
  ·rw [if_neg hk]
   by_cases h:g=k
   ·have hb:(g==k)=true:=beq_iff_eq.mpr h
    simp only [List.lookup,hb,if_neg (λ e:g=f=>hk (h.symm.trans e))]
   ·have hb:(g==k)=false:=beq_eq_false_iff_ne.mpr h
    simp only [List.lookup,hb]
    exact ih
theorem fM (f:Str) (v:V):∀fs:List (Str×V),f∈(cu f v fs).map (·.1)/\∀g,g∈fs.map (·.1)->g∈(cu f v fs).map (·.1)
 | []=>⟨by simp [cu],λ g h=>by simp at h⟩
 | (k,x)::r=>by
  obtain ⟨i1,i2⟩:=fM f v r
  rw [show cu f v ((k,x)::r)=(if k=f then (k,v)::r else (k,x)::cu f v r) from rfl]
  by_cases hk:k=f
  ·rw [if_pos hk]
   subst hk
   exact ⟨by simp,λ g h=>by simpa using h⟩
  ·rw [if_neg hk]
   refine ⟨?_,λ g h=>?_⟩
   ·rw [List.map_cons]
    exact List.mem_cons_of_mem _ i1
   ·rw [List.map_cons] at h ⊢
    rcases List.mem_cons.mp h with e | e
    ·exact List.mem_cons.mpr (.inl e)
    ·exact List.mem_cons_of_mem _ (i2 g e)
theorem gb (f:Str) (v:V):∀fs:List (Str×V),(cu f v fs).length<=fs.length+1
 | []=>by simp [cu]
 | (k,x)::r=>by
  have ih:=gb f v r
  rw [show cu f v ((k,x)::r)=(if k=f then (k,v)::r else (k,x)::cu f v r) from rfl]
  by_cases hk:k=f
  ·rw [if_pos hk,List.length_cons,List.length_cons]; omega
  ·rw [if_neg hk,List.length_cons,List.length_cons]; omega
theorem cU.some_of {v:V} {o:Option Value} (r:cU (some v) o):∃u,o=some u/\RelV v u:=by
 cases o with
 | none=>exact (show False from r).elim
 | some u=>exact ⟨u,rfl,r⟩
theorem cU.none_of {o:Option Value} (r:cU none o):o=none:=by
 cases o with
 | none=>rfl
 | some u=>exact (show False from r).elim
theorem pX {v:V} {u:Value} (r:RelV v u):PySem.W.handedIn u=true:=by
 cases v with
 | non=>cases (show u=Value.none from r); rfl
 | bl b=>cases (show u=Value.bool b from r); rfl
 | int i=>obtain ⟨t,e⟩:=(show ∃t,u=Value.int i t from r); cases e; rfl
 | str x=>obtain ⟨t,e⟩:=(show ∃t,u=Value.str x t from r); cases e; rfl
 | byt b=>obtain ⟨t,e⟩:=(show ∃t,u=Value.bytes b t from r); cases e; rfl
 | flt b=>obtain ⟨t,e⟩:=(show ∃t,u=Value.float b t from r); cases e; rfl
 | ref a=>cases (show u=Value.ref a from r); rfl
 | ty n=>cases (show u=Value.type n from r); rfl
section
variable {P:Program} {w:World} {H H':Hp} {h h':Heap} {a C dx:Addr} {fs fs':List (Str×V)}
theorem n8 (hok:HOk P w H h) (e:H a=some (.ins C dx fs)):∃mA,kE h a dx C mA/\(∀f,cU (fs.lookup f) (mA f))/\PySem.Within mA (fs.map (·.1))/\fs.length<=1000/\H dx=some (.own a):=by
 obtain ⟨d,z,ne,ob,mA,n,r,q⟩:=(show aT P w H h a (.ins C dx fs) from hok a _ e)
 exact ⟨mA,⟨ob,n,ne⟩,r,q,z,d⟩
end
structure Cls (K:PySem.W.Frag) (C:Addr):Prop where
 pg:PySem.W.plainGet K C Str.empty=true
 hd:PySem.W.hasDictIn K C=true
 po:PySem.W.plainOver K C=true
 sa:PySem.W.findIn K (.ref C) "__setattr__"=some (some (.builtin "object.__setattr__"))
theorem Cls.get {K:PySem.W.Frag} {C:Addr} (c:Cls K C) (f:Str):PySem.W.plainGet K C f=true:=c.pg
noncomputable def dH (K:PySem.W.Frag) (C:Addr) (f:Str):Prop:=PySem.W.findIn K (.ref C) f=some none
theorem dH.Bu {K:PySem.W.Frag} {C:Addr} {f:Str} (n:dH K C f):PySem.W.takerIn K C f=some none:=by
 unfold PySem.W.takerIn
 rw [show PySem.W.findIn K (.ref C) f=some none from n]
 rfl
structure Meth (K:PySem.W.Frag) (C:Addr) (m:Str) (f:Addr):Prop where
 at_:PySem.W.findIn K (.ref C) m=some (some (.ref f))
 fn:PySem.W.isFn K (.ref f)=true
 kp:PySem.W.keepIn K (.ref f)=true
section
variable {X:Cx} {pins:List (Addr×Obj)} {σ:St} {H:Hp} {s:Shared} {a C dx:Addr} {fs:List (Str×V)} {f:Str} {v:V} {A:Around} {E:Value->Shared->Prop}
theorem mD {y:V} {u:Value} {Q:Unit->Shared->Prop} (I:Inv X pins σ H s) (e:H a=some (.ins C dx fs)) (c:Cls X.K C) (n:dH X.K C f) (hl:fs.length < 1000) (ry:RelV y u)
  (h:∀s',Inv X pins σ (upd H a (.ins C dx (cu f y fs))) s'->Q () s'):wpAny (model X.prog X.w) A (setAttr (.ref a) f u) Q E s:=by
 obtain ⟨mA,O,r,wi,_,ho⟩:=n8 I.hok e
 have hz:(fs.map (·.1)).length<=sizeLine:=by rw [List.length_map,sizeLine_eq]; omega
 refine vf I.kIn O c.sa c.po n.Bu c.hd wi hz λ h' O' sb=>h _ ?_
 have hd:∃o,h'.get? dx=some o:=let ⟨o,_,_,e',_⟩:=O'.ns; ⟨o,e'⟩
 refine I.write (x:=a) (e:=dx) (by rw [e]; exact True.intro) (.inr ho) (λ b q hb z=>(sb.2 b hb).trans z) hd ?_
 refine ⟨by rw [ai O.ne]; exact ho,?_,O.ne,O'.obj,_,O'.ns,λ g=>?_,λ g hg=>?_⟩
 ·have:=gb f y fs; omega
 ·show cU ((cu f y fs).lookup g) (if g=f then some u else mA g)
  rw [f9]
  by_cases q:g=f
  ·rw [if_pos q,if_pos q]; exact ry
  ·rw [if_neg q,if_neg q]; exact r g
 ·by_cases q:g=f
  ·rw [q]; exact (fM f y fs).1
  ·refine (fM f y fs).2 g (wi g λ z=>hg ?_)
   show (if g=f then some u else mA g)=none
   rw [if_neg q]; exact z
theorem Inv.made (I:Inv X pins σ H s):Inv X pins σ (upd (upd H s.heap.objs.size (.own (s.heap.objs.size+1))) (s.heap.objs.size+1) (.ins C s.heap.objs.size []))
  {s with heap:=(s.heap.push PySem.W.emptyDict).push (PySem.W.instObj C s.heap.objs.size)}:=by
 have e1:(s.heap.push PySem.W.emptyDict).get? s.heap.objs.size=some PySem.W.emptyDict:=Heap.get?_push_size s.heap rfl
 have e2:((s.heap.push PySem.W.emptyDict).push (PySem.W.instObj C s.heap.objs.size)).get? (s.heap.objs.size+1)=some (PySem.W.instObj C s.heap.objs.size):=by
  have:=Heap.get?_push_size (s.heap.push PySem.W.emptyDict) (o:=PySem.W.instObj C s.heap.objs.size) rfl
  rwa [Heap.size_push] at this
 have e3:(s.heap.push PySem.W.emptyDict).Ns s.heap.objs.size (λ _=>none):=⟨PySem.W.emptyDict,#[],_,e1,rfl,(λ e he=>absurd he (by simp)),λ _=>rfl⟩
 have I1:=I.laid (a:=s.heap.objs.size) (o:=.own (s.heap.objs.size+1)) (h':=s.heap.push PySem.W.emptyDict) (t':=s.toks) (λ b u q=>Heap.get?_push_of_some _ q) (Nat.le_refl _) ⟨_,e1⟩
 refine I1.laid (a:=s.heap.objs.size+1) (o:=.ins C s.heap.objs.size []) (t':=s.toks) (λ b u q=>Heap.get?_push_of_some _ q) (Nat.le_of_eq (Heap.size_push _ _)) ?_
 have ne:s.heap.objs.size≠s.heap.objs.size+1:=Nat.ne_of_lt (Nat.lt_succ_self _)
 refine ⟨by rw [ai ne,aA],Nat.zero_le _,ne,e2,λ _=>none,(Heap.Ns1.of_empty e3).at λ o q=>Heap.get?_push_of_some _ q,λ _=>True.intro,λ y hy=>absurd rfl hy⟩
theorem vg {prog:Program} {w:World} {env:Env} {e:Expr} {f:Str} {pos:Pos} {s:Shared} {Q:Value->Shared->Prop} (hb:attributeBase e f env (eval e env)=eval e env)
  (h:wpAny (model prog w) A (eval e env) (λ o s₁=>wpAny (model prog w) A (getAttr o f true) Q E s₁) E s):wpAny (model prog w) A (eval (.Attribute e f pos) env) Q E s:=
 Attribute_any_ h (by rw [arm_eval_Attribute,hb])
end
noncomputable def Du (K:PySem.W.Frag) (ta tv:TE) (f:Str):TS:=λ D σ H=>tv σ H λ y H1=>ta σ H1 λ x H2=>∃a C dx fs,x=.ref a/\H2 a=some (.ins C dx fs)/\Cls K C/\dH K C f/\fs.length < 1000/\
 D.nx σ (upd H2 a (.ins C dx (cu f y fs)))
section
variable {X:Cx} {o e value:Expr} {f:Str} {pos pos' tpos:Pos} {ta tv:TE}
theorem zj (ha:PE X o ta) (hv:PE X value tv) (hs:swapsWith value (some (.Attribute o f pos')) pos.line X.env=pure false):PS X (.Assign [.Attribute o f pos'] value pos) (Du X.K ta tv f):=by
 intro pins s σ H D I h
 refine plainObj_wpAny_Assign_Attribute (thn (hv pins s σ H _ I h) λ u s1 ⟨y,H1,I1,ry,q⟩=>thn (ha pins s1 σ H1 _ I1 q) λ ov s2 ⟨x,H2,I2,rx,a,C,dx,fs,ex,ea,c,n,l,q2⟩=>?_) hs
 subst ex
 obtain rfl:ov=Value.ref a:=rx
 exact mD I2 ea c n l ry λ s3 I3=>⟨σ,_,I3,q2⟩
end
section
variable {X:Cx} {pins:List (Addr×Obj)} {σ:St} {H:Hp} {s:Shared} {A:Around} {E:Value->Shared->Prop} {Q:Value->Shared->Prop} {c:Value} {b:Bool}
inductive gk (K:PySem.W.Frag) (H:Hp):V->Value->Prop where
 | non:gk K H .non (.type "NoneType")
 | bl (x:Bool):gk K H (.bl x) (.type "bool")
 | int (i:Int):gk K H (.int i) (.type "int")
 | str (x:Str):gk K H (.str x) (.type "str")
 | flt (x:UInt64):gk K H (.flt x) (.type "float")
 | lst {a:Addr} {xs:List V} (e:H a=some (.lst xs)):gk K H (.ref a) (.type "list")
 | frz {a:Addr} {o:Obj} {xs:List V} (e:H a=some (.frz o (.lst xs))):gk K H (.ref a) (.type "list")
 | tup {a:Addr} {xs:List V} (e:H a=some (.tup xs)):gk K H (.ref a) (.type "tuple")
 | dK {a:Addr} {kvs:List (Key×V)} (e:H a=some (.dK kvs)):gk K H (.ref a) (.type "dict")
 | dT {a:Addr} {kvs:List (List Key×V)} (e:H a=some (.dT kvs)):gk K H (.ref a) (.type "dict")
 | ins {a C dx:Addr} {fs:List (Str×V)} (e:H a=some (.ins C dx fs)) (cl:Cls K C) (ha:PySem.W.findIn K (.ref C) "__class__"=some (some (.builtin "object.__class__")))
   (hn:PySem.W.specialIn K (.builtin "object.__class__") "__get__"=some (some (.builtin "getset_descriptor.__get__"))) (htk:PySem.W.takesIn K (.builtin "object.__class__")=some true)
   (hm:PySem.W.mroIn K C (.type "object")=some true):gk K H (.ref a) (.ref C)
theorem dZ {x:V} {u t:Value} (I:Inv X pins σ H s) (rx:RelV x u) (ty:gk X.K H x t) (e:PySem.W.kitOne X.K t c=some b) (h:∀tk,Q (.bool b) {s with toks:=tk}) :
  wpAny (model X.prog X.w) A (call (.builtin "isinstance") [u,c]) Q E s:=by
 cases ty with
 | non=>cases (show u=Value.none from rx); exact PySem.W.kia_one PySem.W.kitx_none I.kIn True.intro e (λ z=>nomatch z) h
 | bl y=>cases (show u=Value.bool y from rx); exact PySem.W.kia_one PySem.W.kitx_bool I.kIn True.intro e (λ z=>nomatch z) h
 | int i=>obtain ⟨t,q⟩:=(show ∃t,u=Value.int i t from rx); cases q; exact PySem.W.kia_one PySem.W.kitx_int I.kIn True.intro e (λ z=>nomatch z) h
 | str y=>obtain ⟨t,q⟩:=(show ∃t,u=Value.str y t from rx); cases q; exact PySem.W.kia_one PySem.W.kitx_str I.kIn True.intro e (λ z=>nomatch z) h
 | flt y=>obtain ⟨t,q⟩:=(show ∃t,u=Value.float y t from rx); cases q; exact PySem.W.kia_one PySem.W.kitx_float I.kIn True.intro e (λ z=>nomatch z) h
 | @lst a xs ea=>
  cases (show u=Value.ref a from rx)
  obtain ⟨_,_,n,_,h1⟩:=(show aT X.prog X.w H s.heap a (.lst xs) from I.hok a _ ea)
  exact PySem.W.kia_one PySem.W.kitx_list I.kIn ⟨_,h1,rfl⟩ e (λ z=>nomatch z) h
 | @frz a ob xs ea=>
  cases (show u=Value.ref a from rx)
  obtain ⟨_,_,_,n,_,h1⟩:=(show aT X.prog X.w H s.heap a (.frz ob (.lst xs)) from I.hok a _ ea)
  exact PySem.W.kia_one PySem.W.kitx_list I.kIn ⟨_,h1,rfl⟩ e (λ z=>nomatch z) h
 | @tup a xs ea=>
  cases (show u=Value.ref a from rx)
  obtain ⟨_,_,_,p⟩:=(show aT X.prog X.w H s.heap a (.tup xs) from I.hok a _ ea)
  obtain ⟨o,h1,h2,_⟩:=p
  exact PySem.W.kia_one PySem.W.kitx_tuple I.kIn ⟨o,h1,h2⟩ e (λ z=>nomatch z) h
 | @dK a kvs ea=>
  cases (show u=Value.ref a from rx)
  obtain ⟨_,_,vs,_,p⟩:=(show aT X.prog X.w H s.heap a (.dK kvs) from I.hok a _ ea)
  obtain ⟨o,es,ep,h1,h2,_⟩:=p
  exact PySem.W.kia_one PySem.W.kitx_dict I.kIn ⟨o,h1,h2.1⟩ e (λ z=>nomatch z) h
 | @dT a kvs ea=>
  cases (show u=Value.ref a from rx)
  obtain ⟨_,_,xs,_,o,es,ep,h1,h2,_⟩:=(show aT X.prog X.w H s.heap a (.dT kvs) from I.hok a _ ea)
  exact PySem.W.kia_one PySem.W.kitx_dict I.kIn ⟨o,h1,h2.1⟩ e (λ z=>nomatch z) h
 | @ins a C dx fs ea cl ha hn htk hm=>
  cases (show u=Value.ref a from rx)
  obtain ⟨mA,O,_⟩:=n8 I.hok ea
  obtain ⟨od,J,_⟩:=O.look
  exact PySem.W.kia_one (PySem.W.kitx_own (cl.get _) cl.hd ha hn htk hm) I.kIn J e (λ z=>nomatch z) h
end
end L2
namespace L2
open PySem PySem.Spec PyProof.Rows
structure bR (k:Nat) (A:Around):Prop where
 hd:A.handled=none
 dp:A.depth+3*k+5 < recursionLimit
 un:A.units+16*k+200 < cLine
 gd:A.guards=some []:=by rfl
theorem bR.mono {j k:Nat} {A:Around} (r:bR k A) (h:j<=k):bR j A:=⟨r.hd,by have:=r.dp; omega,by have:=r.un; omega,r.gd⟩
theorem bR.deeper {k:Nat} {A:Around} (r:bR (k+1) A) (env:Env):bR k (A.deeper env):=
 ⟨r.hd,by have:=r.dp; show A.depth+1+3*k+5 < _; omega,by have:=r.un; show A.units+3+16*k+200 < _; omega,r.gd⟩
theorem mE {A:Around} {C:Addr} {us:List Value} {kw:List (Str×Value)}:(A.under (.builtin "type.__call__" ⟨.ref C::us,kw⟩)).depth=A.depth+1:=by
 first | rfl | simp [Around.under,Code.weight,Code.isCreation,Code.isGuard,Code.isCaller,Code.frames,Code.isFrame,guardIds]
theorem mF {A:Around} {C:Addr} {us:List Value} {kw:List (Str×Value)}:(A.under (.builtin "type.__call__" ⟨.ref C::us,kw⟩)).units=A.units+1:=by
 first | rfl | simp [Around.under,Code.cUnits,Code.frames,Code.isFrame]
theorem kG {A:Around} {C:Addr} {us:List Value} {kw:List (Str×Value)}:(A.under (.builtin "type.__call__" ⟨.ref C::us,kw⟩)).guards=A.guards:=by
 first | rfl | (simp [Around.under,Code.guards,Code.isGuard,guardIds,pushGuards]; done) | (cases h:A.guards<;>simp [Around.under,Code.guards,Code.isGuard,guardIds,pushGuards,h])
theorem bR.make {k:Nat} {A:Around} (r:bR (k+1) A) (C:Addr) (us:List Value) (kw:List (Str×Value)):bR k (A.under (.builtin "type.__call__" ⟨.ref C::us,kw⟩)):=
 ⟨r.hd,by have:=r.dp; rw [mE]; omega,by have:=r.un; rw [mF]; omega,by rw [kG]; exact r.gd⟩
theorem bR.depth {k:Nat} {A:Around} (r:bR k A):A.depth < recursionLimit:=by have:=r.dp; omega
theorem bR.units {k:Nat} {A:Around} (r:bR k A):A.units+64 < cLine:=by have:=r.un; omega
noncomputable def vh:TA:=λ _ H Q=>Q [] H
noncomputable def xJ (ta:TE) (tr:TA):TA:=fun σ H Q=>ta σ H λ x H1=>tr σ H1 λ xs H2=>Q (x::xs) H2
section
variable {X:Cx} {e:Expr} {es:List Expr} {te:TE} {t:TA} {pos:Pos}
theorem cN:PA X [] vh:=λ _ _ _ _ H Q I h=>Calls.spliced_nil ⟨[],H,I,.nil,h⟩
theorem bL (ha:PE X e te) (hr:PA X es t) (hs:starEach (e::es) X.env=(false,eval e X.env)::starEach es X.env:=by rfl):PA X (e::es) (xJ te t):=by
 intro pos pins s σ H Q I h
 rw [hs]
 show wpAny _ _ (spliced ((false,eval e X.env)::backTo pos (starEach es X.env))) _ _ s
 refine Calls.spliced_cons (thn (ha pins s σ H _ I h) λ u s1 ⟨x,H1,I1,r1,q1⟩=>?_)
 exact thn (hr pos pins s1 σ H1 _ I1 q1) λ us s2 ⟨xs,H2,I2,r2,q2⟩=>⟨x::xs,H2,I2,.cons r1 r2,q2⟩
noncomputable def Dv (t:TA):TE:=fun σ H Q=>t σ H λ xs H1=>xs.length<=sizeLine/\∀p,H1 p=none->Q (.ref p) (upd H1 p (.tup xs))
noncomputable def Dw (t:TA):TE:=fun σ H Q=>t σ H λ xs H1=>xs.length<=sizeLine/\∀p,H1 p=none->Q (.ref p) (upd H1 p (.lst xs))
theorem zk {x1} (h:PA X es t):PE X (.Tuple es x1 pos) (Dv t):=by
 intro pins s σ H Q I hq
 refine wpAny_Tuple_spliced (thn (h pos pins s σ H _ I hq) λ us s1 ⟨xs,H1,I1,r,z,q⟩=>⟨by rw [<-r.length]; exact z,?_⟩)
 have hf:H1 s1.heap.objs.size=none:=I1.hok.fresh (Nat.le_refl _)
 refine ⟨.ref s1.heap.objs.size,upd H1 s1.heap.objs.size (.tup xs),I1.laid (t':=s1.toks) (λ b u e=>Heap.get?_push_of_some _ e) (Nat.le_refl _) ?_,rfl,q _ hf⟩
 exact ⟨z,us,r,⟨_,Heap.get?_push_size _ rfl,rfl,_,rfl⟩⟩
theorem zl (h:PA X es t):PE X (.List es pos) (Dw t):=by
 intro pins s σ H Q I hq
 refine wpAny_List_spliced (thn (h pos pins s σ H _ I hq) λ us s1 ⟨xs,H1,I1,r,z,q⟩=>⟨by rw [<-r.length]; exact z,?_⟩)
 have hf:H1 s1.heap.objs.size=none:=I1.hok.fresh (Nat.le_refl _)
 refine ⟨.ref s1.heap.objs.size,upd H1 s1.heap.objs.size (.lst xs),I1.laid (t':=s1.toks) (λ b u e=>Heap.get?_push_of_some _ e) (Nat.le_refl _) ?_,rfl,q _ hf⟩
 exact ⟨z,us,0,r,Heap.get?_push_size _ rfl⟩
end
abbrev Sp:=List V->Hp->VK->XK->Prop
abbrev CXT:=List Env->Hp->Shared->XK->Value->Shared->Prop
structure mG (P:Program) (w:World) (K:PySem.W.Frag) (mg:Str->Option Value) (base:Heap) (A:Around) (outer:List Env) (s:Shared) (H:Hp):Prop where
 frames:A.frames=some outer
 mod:Mod K mg base
 bs:∀b o,base.get? b=some o->s.heap.get? b=some o/\H b=none
 bsz:base.objs.size<=s.heap.objs.size
 gj:s.heap.FunFrames base outer
 frf:∀b∈frs outer,H b=none
 hok:HOk P w H s.heap
 bare:AllBare s.gens
noncomputable def CE (outer:List Env) (P:Program) (w:World) (H:Hp) (s:Shared) (Q:VK) (u:Value) (s':Shared):Prop:=
 ∃v H',s'.os=s.os/\AllBare s'.gens/\Un (frs outer) [] H H' s.heap s'.heap/\HOk P w H' s'.heap/\RelV v u/\Q v H'
noncomputable def CR (CX:CXT) (outer:List Env) (P:Program) (w:World) (H:Hp) (s:Shared) (Q:VK) (E:XK) (r:Result) (s':Shared):Prop:=
 match r with
 | .ok (.ret u)=>CE outer P w H s Q u s'
 | .ok _=>False
 | .error e=>CX outer H s E e s'
structure cV (P:Program) (w:World) (K:PySem.W.Frag) (mg:Str->Option Value) (base:Heap) (CX:CXT) (k:Nat) (f:Addr) (fd:FuncData) (ps:List Str) (sp:Sp):Prop where
 len:∀vs H Q E,sp vs H Q E->vs.length=ps.length
 run:∀(A:Around) (outer:List Env) (s:Shared) (H:Hp) (args:Args) (us:List Value) (vs:List V) (Q:VK) (E:XK),bR k A->mG P w K mg base A outer s H->BindsTo s fd args (ps.zip us)->Vals vs us->sp vs H Q E->
  codeAny (model P w) A (.call (.ref f) args) (CR CX outer P w H s Q E) s
theorem cV.imp {P:Program} {w:World} {K:PySem.W.Frag} {mg:Str->Option Value} {base:Heap} {CX:CXT} {k:Nat} {f:Addr} {fd:FuncData} {ps:List Str} {sp sp':Sp} (F:cV P w K mg base CX k f fd ps sp)
  (h:∀vs H Q E,sp' vs H Q E->sp vs H Q E):cV P w K mg base CX k f fd ps sp':=
 ⟨λ vs H Q E q=>F.len vs H Q E (h _ _ _ _ q),λ A outer s H args us vs Q E hr he hb hv hs=>F.run A outer s H args us vs Q E hr he hb hv (h _ _ _ _ hs)⟩
theorem mG.make {P:Program} {w:World} {K:PySem.W.Frag} {mg:Str->Option Value} {base:Heap} {A:Around} {outer:List Env} {s:Shared} {H:Hp} (e:mG P w K mg base A outer s H) (C:Addr) (us:List Value) (kw:List (Str×Value)) :
  mG P w K mg base (A.under (.builtin "type.__call__" ⟨.ref C::us,kw⟩)) outer s H:=⟨by first | exact e.frames | (simpa [Around.under,Code.envs,Code.isFrame,pushEnvs] using e.frames),e.mod,e.bs,e.bsz,e.gj,e.frf,e.hok,e.bare⟩
section
variable {X:Cx} {pins:List (Addr×Obj)} {σ:St} {H:Hp} {s s':Shared}
theorem Inv.Bv (I:Inv X pins σ H s):mG X.prog X.w X.K X.mg X.base X.A X.stack s H:=
 ⟨I.ok.frames,I.ok.mod,I.bs,Nat.le_trans I.ok.bsz I.sz,I.stack,I.nY,I.hok,I.bare⟩
theorem Inv.after {Q:VK} {u:Value} (I:Inv X pins σ H s) (h:CE X.stack X.prog X.w H s Q u s'):EP X pins σ Q u s':=by
 obtain ⟨v,H',os,bare,un,hok,r,q⟩:=h
 obtain ⟨hh,g,d,t,os'⟩:=s'
 obtain rfl:os'=s.os:=os
 exact ⟨v,H',I.call (h':=hh) (g':=g) (d':=d) (t':=t) (ch:=[]) un hok bare (λ b z=>absurd z (by simp)),r,q⟩
end
noncomputable def xK (sp:Sp) (dvs:List V) (E:XK) (t:TA):TE:=fun σ H Q=>t σ H λ vs H1=>sp (vs++dvs) H1 Q E
noncomputable def Bw (C:Addr) (sp:Sp) (dvs:List V) (E:XK) (t:TA):TE:=fun σ H Q=>t σ H λ vs H1=>∀x dx,H1 x=none->H1 dx=none->dx≠x->
 sp (.ref x::(vs++dvs)) (upd (upd H1 dx (.own x)) x (.ins C dx [])) (λ v H2=>v=.non/\Q (.ref x) H2) E
noncomputable def Binds (K:PySem.W.Frag) (fd:FuncData) (ps:List Str) (ds:List Value):Prop:=
 ∀(s:Shared) (us:List Value),K.In s.heap->(us++ds).length=ps.length->BindsTo s fd ⟨us,[]⟩ (ps.zip (us++ds))
theorem Binds.all {K:PySem.W.Frag} {fd:FuncData} {ps:List Str} (h:∀us:List Value,us.length=ps.length->bindArgs fd ⟨us,[]⟩=pure (ps.zip us)):Binds K fd ps []:=λ s us _ hl=>by
 rw [List.append_nil] at hl ⊢
 exact .of_eq (h us hl)
noncomputable def Passes (CX:CXT) (X:Cx) (E:XK):Prop:=∀(pins:List (Addr×Obj)) (σ:St) (H:Hp) (s:Shared) (e:Value) (s':Shared),Inv X pins σ H s->CX X.stack H s E e s'->X.xe e s'
section
variable {X:Cx} {CX:CXT} {k:Nat} {f C:Addr} {fd:FuncData} {ps:List Str} {sp:Sp} {dvs:List V} {ds:List Value} {E:XK} {x m:Str} {p pos apos:Pos} {e o:Expr} {es:List Expr} {ta:TE} {t:TA}
theorem jC {pins:List (Addr×Obj)} {σ:St} {H:Hp} {s:Shared} {Q:VK} {us:List Value} {vs:List V} (F:cV X.prog X.w X.K X.mg X.base CX k f fd ps sp) (hr:bR k X.A) (hb:Binds X.K fd ps ds) (hd:Vals dvs ds) (hx:Passes CX X E)
  (I:Inv X pins σ H s) (r:Vals vs us) (h:sp (vs++dvs) H Q E):wpAny (model X.prog X.w) X.A (call (.ref f) us) (EP X pins σ Q) X.xe s:=by
 have r2:Vals (vs++dvs) (us++ds):=r.append hd
 have hl:(us++ds).length=ps.length:=by rw [<-r2.length]; exact F.len _ _ _ _ h
 refine wpAny_call (codeAny_mono (F.run X.A X.stack s H ⟨us,[]⟩ (us++ds) (vs++dvs) Q E hr I.Bv (hb s us I.kIn hl) r2 h) λ r s' hq=>?_)
 cases r with
 | error e=>exact hx pins σ H s e s' I hq
 | ok fl=>
  cases fl with
  | ret u=>exact I.after hq
  | next=>exact False.elim hq
  | brk=>exact False.elim hq
  | cont=>exact False.elim hq
theorem vj (F:cV X.prog X.w X.K X.mg X.base CX k f fd ps sp) (hr:bR k X.A) (hg:Gl X x) (hm:X.mg x=some (.ref f)) (hk:PySem.W.keepIn X.K (.ref f)=true) (hb:Binds X.K fd ps ds) (hd:Vals dvs ds) (hx:Passes CX X E)
  (ha:PA X (e::es) t) (hdb:(x==("__debug__":Str))=false:=by decide) (he:starEach (e::es) X.env=(false,eval e X.env)::starEach es X.env:=by rfl) (hpl:(backTo pos (starEach es X.env)).any (·.1)=false:=by rfl) :
  PE X (.Call (.Name x p) (e::es) [] pos) (xK sp dvs E t):=by
 intro pins s σ H Q I h
 refine wpAny_Call_Name_kw (gy I hg hm ?_ hdb)
 refine PySem.W.callWith_K (h₀:=X.base) I.ok.mod.kin hk (thn (ha pos pins s σ H _ I h) λ us s1 ⟨vs,H1,I1,r,q⟩=>⟨I1.kIn,?_⟩) he hpl
 exact jC F hr hb hd hx I1 r q
theorem rK (F:cV X.prog X.w X.K X.mg X.base CX k f fd ps sp) (hr:bR k X.A) (hg:Gl X x) (hm:X.mg x=some (.ref f)) (hk:PySem.W.keepIn X.K (.ref f)=true) (hb:Binds X.K fd ps ds) (hd:Vals dvs ds) (hx:Passes CX X E)
  (hdb:(x==("__debug__":Str))=false:=by decide):PE X (.Call (.Name x p) [] [] pos) (xK sp dvs E vh):=by
 intro pins s σ H Q I h
 refine wpAny_Call_Name_kw (gy I hg hm ?_ hdb)
 exact PySem.W.callWith_K0 I.kIn hk (jC (us:=[]) F hr hb hd hx I .nil h)
structure Mk (K:PySem.W.Frag) (C f:Addr):Prop where
 makes:PySem.W.makesIn K C=true
 init:PySem.W.findIn K (.ref C) "__init__"=some (some (.ref f))
 fn:PySem.W.isFn K (.ref f)=true
 kp:PySem.W.keepIn K (.ref C)=true
theorem rL {pins:List (Addr×Obj)} {σ:St} {H:Hp} {s:Shared} {Q:VK} {us:List Value} {vs:List V} (M:Mk X.K C f) (F:cV X.prog X.w X.K X.mg X.base CX k f fd ps sp) (hr:bR (k+1) X.A) (hb:Binds X.K fd ps ds) (hd:Vals dvs ds)
  (hx:Passes CX X E) (I:Inv X pins σ H s) (r:Vals vs us)
  (h:∀x dx,H x=none->H dx=none->dx≠x->sp (.ref x::(vs++dvs)) (upd (upd H dx (.own x)) x (.ins C dx [])) (λ v H2=>v=.non/\Q (.ref x) H2) E) :
  wpAny (model X.prog X.w) X.A (call (.ref C) us) (EP X pins σ Q) X.xe s:=by
 have hq:=h (s.heap.objs.size+1) s.heap.objs.size (I.hok.fresh (Nat.le_succ _)) (I.hok.fresh (Nat.le_refl _)) (Nat.ne_of_lt (Nat.lt_succ_self _))
 have I2:=Inv.made (C:=C) I
 have r2:Vals (V.ref (s.heap.objs.size+1)::(vs++dvs)) (Value.ref (s.heap.objs.size+1)::(us++ds)):=.cons rfl (r.append hd)
 have hl:(Value.ref (s.heap.objs.size+1)::us++ds).length=ps.length:=by
  have e:=r2.length
  rw [F.len _ _ _ _ hq] at e
  exact e.symm
 refine wpAny_call (rJ (f:=f) I.kIn M.makes M.init (beq_iff_eq.mp M.fn) (codeAny_mono (F.run _ X.stack _ _ ⟨Value.ref (s.heap.objs.size+1)::us,[]⟩ (Value.ref (s.heap.objs.size+1)::(us++ds)) _ _ E (hr.make C us [])
  (I2.Bv.make C us []) (hb _ (Value.ref (s.heap.objs.size+1)::us) I2.kIn hl) r2 hq) λ r s' hq'=>?_))
 cases r with
 | error e=>exact hx pins σ _ _ e s' I2 hq'
 | ok fl=>
  cases fl with
  | ret u=>
   obtain ⟨v,H',I3,rv,ev,q3⟩:=I2.after hq'
   subst ev
   exact ⟨rv,⟨V.ref (s.heap.objs.size+1),H',I3,rfl,q3⟩⟩
  | next=>exact False.elim hq'
  | brk=>exact False.elim hq'
  | cont=>exact False.elim hq'
theorem vm (M:Mk X.K C f) (F:cV X.prog X.w X.K X.mg X.base CX k f fd ps sp) (hr:bR (k+1) X.A) (hg:Gl X x) (hm:X.mg x=some (.ref C)) (hb:Binds X.K fd ps ds) (hd:Vals dvs ds) (hx:Passes CX X E)
  (ha:PA X (e::es) t) (hdb:(x==("__debug__":Str))=false:=by decide) (he:starEach (e::es) X.env=(false,eval e X.env)::starEach es X.env:=by rfl) (hpl:(backTo pos (starEach es X.env)).any (·.1)=false:=by rfl) :
  PE X (.Call (.Name x p) (e::es) [] pos) (Bw C sp dvs E t):=by
 intro pins s σ H Q I h
 refine wpAny_Call_Name_kw (gy I hg hm ?_ hdb)
 refine PySem.W.callWith_K (h₀:=X.base) I.ok.mod.kin M.kp (thn (ha pos pins s σ H _ I h) λ us s1 ⟨vs,H1,I1,r,q⟩=>⟨I1.kIn,?_⟩) he hpl
 exact rL M F hr hb hd hx I1 r q
end
noncomputable def PK (X:Cx) (kws:List Keyword) (t:TA):Prop:=
 ∀(pos:Pos) (pins:List (Addr×Obj)) (s:Shared) (σ:St) (H:Hp) (Q:List V->Hp->Prop),Inv X pins σ H s->t σ H Q->wpAny (model X.prog X.w) X.A (evalAll ((backToKw pos (keywordEach kws X.env)).map (·.2))) (AP X pins σ Q) X.xe s
section
variable {X:Cx} {CX:CXT} {k:Nat} {f C:Addr} {fd:FuncData} {ps ks:List Str} {sp:Sp} {E:XK} {x m:Str} {p pos apos kpos:Pos} {e o:Expr} {es:List Expr} {kws:List Keyword} {te ta:TE} {t tk:TA} {nm:Option Str}
theorem zm:PK X [] vh:=λ _ _ _ _ H Q I h=>wpAny_evalAll_nil ⟨[],H,I,.nil,h⟩
theorem vn (ha:PE X e te) (hr:PK X kws t):PK X (⟨nm,e,kpos⟩::kws) (xJ te t):=by
 intro pos pins s σ H Q I h
 show wpAny _ _ (evalAll ((do let v <-eval e X.env; standAt pos; pure v)::(backToKw pos (keywordEach kws X.env)).map (·.2))) _ _ s
 refine wpAny_evalAll_cons (wpAny_bind (thn (ha pins s σ H _ I h) λ u s1 ⟨x,H1,I1,r1,q1⟩=>wpAny_bind (wpAny_standAt (wpAny_pure ?_))))
 exact thn (hr pos pins s1 σ H1 _ I1 q1) λ us s2 ⟨xs,H2,I2,r2,q2⟩=>⟨x::xs,H2,I2,.cons r1 r2,q2⟩
variable {g:List Value->List Value->List Value} {gV:List V->List V->List V}
end
structure gz (N P:List Str) (sc:Scope):Prop where
 kind:sc.kind=.function
 co:sc.isCoroutine=false
 gen:sc.isGenerator=false
 nd:N.Nodup
 pre:N.take P.length=P
 par:∀x∈P,sc.names.lookup x=some .local\/sc.names.lookup x=some .cell
 nofree:∀y∈sc.names,y.2≠.free
theorem i9 {kindOf:Str->Option NameKind} {x:Str}:∀{binds:List (Str×Value)} {m:Str->Option Value},(∀v,(x,v)∉binds)->bindL kindOf binds m x=m x
 | [],_,_=>rfl
 | (n,v)::r,m,h=>by
  unfold bindL
  rw [i9 λ w hw=>h w (List.mem_cons_of_mem _ hw)]
  split
  ·have:x≠n:=by rintro rfl; exact h v List.mem_cons_self
   simp [this]
  ·rfl
theorem ja {kindOf:Str->Option NameKind} {x:Str}:∀{binds:List (Str×Value)} {m:Str->Option Value},(∀v,(x,v)∉binds)->bindC kindOf binds m x=m x
 | [],_,_=>rfl
 | (n,v)::r,m,h=>by
  unfold bindC
  rw [ja λ w hw=>h w (List.mem_cons_of_mem _ hw)]
  split
  ·rfl
  ·have:x≠n:=by rintro rfl; exact h v List.mem_cons_self
   simp [this]
theorem jb {kindOf:Str->Option NameKind} {x:Str} {v:Value}:∀{P:List Str} {vs:List Value} {i:Nat} {m:Str->Option Value},P.Nodup->P[i]?=some x->vs[i]?=some v->kindOf x=some .local->
  bindL kindOf (P.zip vs) m x=some v
 | [],_,_,_,_,h,_,_=>by simp at h
 | _::_,[],_,_,_,_,h,_=>by simp at h
 | p::P,w::vs,0,m,nd,h1,h2,hk=>by
  simp at h1 h2; subst h1; subst h2
  show bindL kindOf ((p,w)::P.zip vs) m p=_
  unfold bindL
  rw [i9 λ v hv=>(List.nodup_cons.mp nd).1 (List.of_mem_zip hv).1,if_pos hk]
  simp
 | p::P,w::vs,i+1,m,nd,h1,h2,hk=>by
  show bindL kindOf ((p,w)::P.zip vs) m x=_
  unfold bindL
  exact jb (i:=i) (List.nodup_cons.mp nd).2 (by simpa using h1) (by simpa using h2) hk
theorem jc {kindOf:Str->Option NameKind} {x:Str} {v:Value}:∀{P:List Str} {vs:List Value} {i:Nat} {m:Str->Option Value},P.Nodup->P[i]?=some x->vs[i]?=some v->kindOf x≠some .local->
  bindC kindOf (P.zip vs) m x=some v
 | [],_,_,_,_,h,_,_=>by simp at h
 | _::_,[],_,_,_,_,h,_=>by simp at h
 | p::P,w::vs,0,m,nd,h1,h2,hk=>by
  simp at h1 h2; subst h1; subst h2
  show bindC kindOf ((p,w)::P.zip vs) m p=_
  unfold bindC
  rw [ja λ v hv=>(List.nodup_cons.mp nd).1 (List.of_mem_zip hv).1,if_neg hk]
  simp
 | p::P,w::vs,i+1,m,nd,h1,h2,hk=>by
  show bindC kindOf ((p,w)::P.zip vs) m x=_
  unfold bindC
  exact jc (i:=i) (List.nodup_cons.mp nd).2 (by simpa using h1) (by simpa using h2) hk
noncomputable def start (N:List Str) (vs:List V):St:=vs.map some++List.replicate (N.length - vs.length) none
noncomputable def mH (CX:CXT) (P:Program) (w:World) (K:PySem.W.Frag) (mg:Str->Option Value) (base:Heap) (N:List Str) (qual:Str) (scope:Scope) (f:Addr) (cd:Value) (A:Around) (outer:List Env) (s:Shared) (H:Hp) (E:XK):Cx where
 prog:=P
 w:=w
 K:=K
 mg:=mg
 base:=base
 A:=A.deeper (envOfC qual scope s.heap.objs.size f cd)
 N:=N
 s₀:=s
 H₀:=H
 env:=envOfC qual scope s.heap.objs.size f cd
 outer:=outer
 stack:=envOfC qual scope s.heap.objs.size f cd::outer
 ex:=[]
 calm:=true
 fn:=λ _=>true
 pn:=[]
 xe:=λ e s'=>wpAny (model P w) (A.deeper (envOfC qual scope s.heap.objs.size f cd)) (leaving (envOfC qual scope s.heap.objs.size f cd) e) (λ _ s''=>CX outer H s E e s'') (λ e' s''=>CX outer H s E e' s'') s'
theorem kH {sc:Scope} {n:Nat} {x:Str} (h:sc.names.lookup x=some .cell):∃c,(cellsFrom n sc.names []).lookup x=some c:=by
 have q:=PySem.W.cellsFrom_some sc.names n [] (.inl h)
 exact Option.isSome_iff_exists.mp q
theorem pY {CX:CXT} {P:Program} {w:World} {K:PySem.W.Frag} {mg:Str->Option Value} {base:Heap} {N ps:List Str} {qual:Str} {scope:Scope} {f:Addr} {cd:Value} {A:Around} {outer:List Env} {s s1:Shared} {H:Hp} {E:XK} {us:List Value} {vs:List V}
  (S:gz N ps scope) (hd:A.handled=none) (e0:mG P w K mg base A outer s H) (hl:vs.length=ps.length) (r:Vals vs us)
  (x:InCallC s s.heap.objs.size (bindL (envOfC qual scope s.heap.objs.size f cd).kindOf (ps.zip us) λ _=>none) (cellsFrom (s.heap.objs.size+1) scope.names []) (bindC (envOfC qual scope s.heap.objs.size f cd).kindOf (ps.zip us) λ _=>none) s1) :
  Inv (mH CX P w K mg base N qual scope f cd A outer s H E) [] (start N vs) H s1:=by
 have hpl:ps.length<=N.length:=by have:=congrArg List.length S.pre; rw [List.length_take] at this; omega
 obtain ⟨h1,tk,rfl,hk⟩:=x.done
 have noA:∀b:Addr,b∉(mH CX P w K mg base N qual scope f cd A outer s H E).ex:=λ b z=>absurd (show b∈([]:List Addr) from z) (by simp)
 refine ⟨⟨e0.mod,S.kind,rfl,rfl,Nat.le_refl _,λ y z c h1 h2=>?_,λ y hy=>?_,λ y c _ h=>?_,λ _=>hd,Around.frames_deeper e0.frames,.inr ⟨rfl,rfl⟩,λ b z=>absurd z (noA b),e0.bs,e0.bsz,λ b _ _=>noA b,λ b z=>absurd z (noA b),e0.gj,e0.frf⟩,
  rfl,e0.bare,Un.kept hk,⟨_,x.toInCall.ns,λ i y v h1 h2 h3=>?_⟩,λ y c h=>⟨_,x.cell y c h⟩,e0.hok.fresh (Nat.le_refl _),λ y c h=>?_,λ p hp=>absurd (show p∈([]:List (Addr×Obj)) from hp) (by simp),e0.hok.kept hk,?_⟩
 ·exact name_of_addr x.apart (PySem.mem_of_lookup h1) (PySem.mem_of_lookup h2)
 ·have hy:scope.names.lookup y=some .cell\/scope.names.lookup y=some .free:=hy
  rcases hy with hy | hy
  ·exact kH hy
  ·exact absurd rfl (S.nofree _ (PySem.mem_of_lookup hy))
 ·exact Nat.le_of_lt (x.above y c (PySem.mem_of_lookup h))
 ·have hi:i < vs.length:=by
   unfold start at h2
   by_cases hi:i < vs.length
   ·exact hi
   ·rw [List.getElem?_append_right (by simpa using hi)] at h2
    rw [List.getElem?_replicate] at h2
    split at h2<;>cases h2
  have ha:vs[i]?=some v:=by
   unfold start at h2
   rw [List.getElem?_append_left (by simpa using hi),List.getElem?_map] at h2
   cases e:vs[i]? with
   | none=>rw [e] at h2; cases h2
   | some a=>rw [e] at h2; cases h2; rfl
  obtain ⟨u,hu,rv⟩:=r.get ha
  have hp:ps[i]?=some y:=by
   rw [<-S.pre,List.getElem?_take_of_lt (by omega)]; exact h1
  have ndP:ps.Nodup:=by rw [<-S.pre]; exact S.nd.sublist (List.take_sublist _ _)
  refine ⟨u,rv,?_⟩
  rcases S.par y (List.mem_of_getElem? hp) with k | k
  ·exact .inl ⟨k,jb ndP hp hu k⟩
  ·obtain ⟨c,e⟩:=kH (n:=s.heap.objs.size+1) k
   refine .inr ⟨.inl k,c,e,?_⟩
   have q:=x.cell y c e
   rw [jc ndP hp hu (by show scope.names.lookup y≠_; rw [k]; decide)] at q
   exact q
 ·exact e0.hok.fresh (Nat.le_of_lt (x.above y c (PySem.mem_of_lookup h)))
 ·unfold start
  show _=N.length
  rw [List.length_append,List.length_map,List.length_replicate]
  omega
theorem Bx {CX:CXT} {P:Program} {w:World} {K:PySem.W.Frag} {mg:Str->Option Value} {base:Heap} {k:Nat} {f:Addr} {name qual:Str} {params:Arguments} {body:List Stmt} {scope:Scope} {dV kV doc pm cdv ct oc:Value} {an od:Option Addr}
  {osl:Array (Option Value)} {N ps:List Str} {sp:Sp} (lk:K.lookup f=some ⟨oc,od,.func (PySem.W.fnOf name qual params body scope dV kV doc pm an cdv ct),osl⟩) (hcd:PySem.W.codeIn K cdv qual=true) (S:gz N ps scope)
  (len:∀vs H Q E,sp vs H Q E->vs.length=ps.length)
  (hbody:∀(A:Around) (outer:List Env) (s:Shared) (H:Hp) (vs:List V) (Q:VK) (E:XK),bR k (A.deeper (envOfC qual scope s.heap.objs.size f cdv))->sp vs H Q E->
   ∃t,PSs (mH CX P w K mg base N qual scope f cdv A outer s H E) body t/\t {nx:=λ _ H'=>Q .non H',rt:=Q} (start N vs) H) :
  cV P w K mg base CX (k+1) f (PySem.W.fnOf name qual params body scope dV kV doc pm an cdv ct) ps sp:=by
 refine ⟨len,λ A outer s H args us vs Q E hr e0 hb r hsp=>?_⟩
 have hl:=len _ _ _ _ hsp
 have KX:K.In s.heap:=e0.mod.kin.keeps λ b o e=>(e0.bs b o e).1
 have lim:s.heap.NoLimit:=e0.mod.nolimit.keeps λ b o e=>(e0.bs b o e).1
 have hkind:∀y∈ps.zip us,scope.names.lookup y.1=some .local\/(scope.names.lookup y.1=some .cell/\((cellsFrom (s.heap.objs.size+1) scope.names []).lookup y.1).isSome=true):=λ ⟨n,v⟩ hy=>by
  rcases S.par n (List.of_mem_zip hy).1 with q | q
  ·exact .inl q
  ·exact .inr ⟨q,PySem.W.cellsFrom_some _ _ _ (.inl q)⟩
 refine codeAny_call_function hr.depth (KX _ _ lk) rfl S.co S.gen rfl (PySem.W.codeRec_of KX hcd) (hb _ _ _ _ ?_)
 refine wpAny_newFunctionEnv_cells S.kind hkind λ env he s1 x=>?_
 subst he
 refine ⟨lim.keeps x.toInCall.keep,codeAny_func ?_⟩
 obtain ⟨t,ht,hq⟩:=hbody A outer s H vs Q E (hr.deeper _) hsp
 have I:Inv (mH CX P w K mg base N qual scope f cdv A outer s H E) [] (start N vs) H s1:=pY S hr.hd e0 hl r x
 refine wpAny_mono (ht [] s1 (start N vs) H _ I hq) (λ fl s' hs=>?_) λ e s' hs=>hs
 have fin:∀{σ':St} {H':Hp} {v:V} {u:Value},Inv (mH CX P w K mg base N qual scope f cdv A outer s H E) [] σ' H' s'->RelV v u->Q v H'->CE outer P w H s Q u s':=
  λ {σ' H' v u} J rv q=>⟨v,H',J.os,J.bare,J.base,J.hok,rv,q⟩
 cases fl with
 | ret u=>
  obtain ⟨v,σ',H',J,rv,q⟩:=hs
  exact fin J rv q
 | next=>
  obtain ⟨σ',H',J,q⟩:=hs
  exact fin (v:=V.non) (u:=Value.none) J rfl q
 | brk=>
  obtain ⟨_,_,_,q⟩:=hs
  exact False.elim q
 | cont=>
  obtain ⟨_,_,_,q⟩:=hs
  exact False.elim q
end L2
namespace L2
open PySem PySem.Spec PyProof.Rows
section
variable {X:Cx} {x:Str} {p pos:Pos} {e:Expr} {es:List Expr} {t:TA} {id T:String} {r:List V->Hp->VK->Prop}
noncomputable def tCB (r:List V->Hp->VK->Prop) (t:TA):TE:=fun σ H Q=>t σ H λ vs H1=>r vs H1 Q
theorem gK (hc:aZ X (.builtin id) r) (hg:Gl X x) (hm:X.mg x=none) (hv:bootBuiltins x=some (.builtin id)) (ha:PA X (e::es) t) (hn:x≠"__name__":=by decide) (hdb:(x==("__debug__":Str))=false:=by decide)
  (he:starEach (e::es) X.env=(false,eval e X.env)::starEach es X.env:=by rfl) (hpl:(backTo pos (starEach es X.env)).any (·.1)=false:=by rfl):PE X (.Call (.Name x p) (e::es) [] pos) (tCB r t):=by
 intro pins s σ H Q I h
 refine wpAny_Call_Name_kw (dD I hg hm hv ?_ hn hdb)
 exact PyProof.Rows.callWith_builtin1 (thn (ha pos pins s σ H _ I h) λ us s1 ⟨vs,H1,I1,r1,q1⟩=>hc pins s1 σ H1 vs us Q I1 r1 q1) he hpl
theorem d7 (hc:aZ X (.type T) r) (hg:Gl X x) (hm:X.mg x=none) (hv:bootBuiltins x=some (.type T)) (ha:PA X (e::es) t) (hn:x≠"__name__":=by decide) (hdb:(x==("__debug__":Str))=false:=by decide)
  (he:starEach (e::es) X.env=(false,eval e X.env)::starEach es X.env:=by rfl) (hpl:(backTo pos (starEach es X.env)).any (·.1)=false:=by rfl):PE X (.Call (.Name x p) (e::es) [] pos) (tCB r t):=by
 intro pins s σ H Q I h
 refine wpAny_Call_Name_kw (dD I hg hm hv ?_ hn hdb)
 exact PyProof.Rows.callWith_type1 (thn (ha pos pins s σ H _ I h) λ us s1 ⟨vs,H1,I1,r1,q1⟩=>hc pins s1 σ H1 vs us Q I1 r1 q1) he hpl
theorem mJ (hc:aZ X (.type T) r) (hg:Gl X x) (hm:X.mg x=none) (hv:bootBuiltins x=some (.type T)) (hn:x≠"__name__":=by decide) (hdb:(x==("__debug__":Str))=false:=by decide) :
  PE X (.Call (.Name x p) [] [] pos) (tCB r vh):=by
 intro pins s σ H Q I h
 refine wpAny_Call_Name_kw (dD I hg hm hv ?_ hn hdb)
 exact PyProof.Rows.callWith_type0 (hc pins s σ H [] [] Q I .nil h)
end
end L2
namespace HT
open PySem PyProof.Rows
noncomputable def lexLt:List Int->List Int->Bool
 | [],[]=>false
 | [],_::_=>true
 | _::_,[]=>false
 | x::xs,y::ys=>if x=y then lexLt xs ys else decide (x < y)
theorem mK (x y:Int) (xs ys:List Int):lexLt (x::xs) (y::ys)=if x=y then lexLt xs ys else decide (x < y):=rfl
theorem iJ:lexLt [] []=false:=rfl
theorem gM (y:Int) (ys:List Int):lexLt [] (y::ys)=true:=rfl
theorem gO (x:Int) (xs:List Int):lexLt (x::xs) []=false:=rfl
theorem rM (A:Around) (s:Shared) (a:Int) (t:Tok) (c:Int) (u:Tok):∃e,SeqAt.EqAt A s (.int a t) (.int c u) e/\(e=true↔a=c):=
 ⟨(a==c),SeqAt.EqAt.int_int a t c u,by simp⟩
theorem rN (A:Around) (s:Shared) (a:Int) (t:Tok) (c:Int) (u:Tok) (prog:Program) (w:World) (E:Value->Shared->Prop) (Q:Value->Shared->Prop) (h:Q (.bool (decide (a < c))) s) :
  wpAny (model prog w) A (richCompare .Lt (.int a t) (.int c u)) Q E s:=
 (PyProof.Rows.lt_int h:wpAny (model prog w) A (compareOp .Lt (.int a t) (.int c u)) Q E s)
section
open PySem.SeqAt
open PySem.AutoSeq1 (wpAny_loadPart')
open PySem.MeetsSeq PySem.MeetsSeq2 PySem.MeetsSeq3
theorem iK (l b:Addr) (items items2:Array Value) (n n2:Nat) (dd dd2:Option Addr) (sl sl2:Array (Option Value)) (ns ms:List Int) (hi:IntsAre items.toList ns) (hj:IntsAre items2.toList ms) :
  Meets (Builtin.«tuple.__lt__» ⟨[.ref l,.ref b],[]⟩)
   (λ _ R s=>s.heap.get? l=some {cls:=.type "tuple",dict:=dd,data:=.seq items n,slots:=sl}/\s.heap.get? b=some {cls:=.type "tuple",dict:=dd2,data:=.seq items2 n2,slots:=sl2}/\
    R (.ok (.ret (.bool (lexLt ns ms)))) s):=
 .of_wp λ prog w A R s h=>by
  obtain ⟨hp,g,d,tk,os⟩:=s; obtain ⟨hl,hb,h⟩:=h
  have f2:=AutoSeq1.sub_tuple_tuple
  have z1:items.size=ns.length:=by rw [<-hi.length]; simp
  have z2:items2.size=ms.length:=by rw [<-hj.length]; simp
  wp_walk using wpAny_loadPart' hl,wpAny_loadPart' hb,wpAny_forIn_list _ (λ rest b s'=>b.1=none/\s'=⟨hp,g,d,tk,os⟩/\∃(vs ws:List Value) (ns' ms':List Int),rest=vs.zip ws/\
   IntsAre vs ns'/\IntsAre ws ms'/\ns'.length+items2.size=ms'.length+items.size/\R (.ok (.ret (.bool (lexLt ns' ms')))) ⟨hp,g,d,tk,os⟩) _
  case turn=>
   rintro ⟨y,x⟩ rest b s' ⟨hb',rfl,vs,ws,ns',ms',hz,hvi,hwi,hlen,hR⟩
   cases hvi with
   | nil=>rw [List.zip_nil_left] at hz; cases hz
   | cons a t hvi'=>
    cases hwi with
    | nil=>rw [List.zip_nil_right] at hz; cases hz
    | cons c u hwi'=>
     rw [List.zip_cons_cons] at hz
     injection hz with hyx hrest
     injection hyx with hy hx
     subst hy hx
     rw [mK] at hR
     simp only [List.length_cons] at hlen
     obtain ⟨e,he,hiff⟩:=rM A.in1 ⟨hp,g,d,tk,os⟩ a t c u
     refine wpAny_bind (he prog w _ _ ?_)
     cases e with
     | true=>
      rw [if_pos (hiff.mp rfl)] at hR
      wp_walk
      exact ⟨rfl,rfl,_,_,_,_,hrest,hvi',hwi',by omega,hR⟩
     | false=>
      rw [if_neg (λ q=>absurd (hiff.mpr q) Bool.false_ne_true)] at hR
      have hri:=rN A.in1 ⟨hp,g,d,tk,os⟩ a t c u prog w
      wp_walk using hri
      exact ⟨_,rfl,by simpa using hR⟩
  case fin=>
   rintro ⟨b1,b2⟩ s' ⟨hb',rfl,vs,ws,ns',ms',hz,hvi,hwi,hlen,hR⟩
   simp only at hb'
   subst hb'
   have hv:lexLt ns' ms'=decide (items.size < items2.size):=by
    cases hvi with
    | nil=>
     cases hwi with
     | nil=>
      simp only [List.length_nil] at hlen
      rw [iJ]
      exact (decide_eq_false (by omega)).symm
     | cons c u hw=>
      simp only [List.length_nil,List.length_cons] at hlen
      rw [gM]
      exact (decide_eq_true (by omega)).symm
    | cons a t hv=>
     cases hwi with
     | nil=>
      simp only [List.length_nil,List.length_cons] at hlen
      rw [gO]
      exact (decide_eq_false (by omega)).symm
     | cons c u hw=>
      rw [List.zip_cons_cons] at hz
      cases hz
   rw [hv] at hR
   wp_walk
   exact ⟨_,rfl,by simpa [Builtin.Tuple.tupleCompareSizes] using hR⟩
  case h=>
   exact ⟨rfl,rfl,items.toList,items2.toList,ns,ms,rfl,hi,hj,by omega,h⟩
end
section
variable {prog:Program} {w:World} {A:Around} {E:Value->Shared->Prop} {s:Shared}
theorem mL {l b:Addr} {items items2:Array Value} {ns ms:List Int} {Q:Value->Shared->Prop} (hl:IsTup s.heap l items) (hb:IsTup s.heap b items2) (hi:IntsAre items.toList ns) (hj:IntsAre items2.toList ms)
  (hu:A.units < cLine) (h:Q (.bool (lexLt ns ms)) s):wpAny (model prog w) A (compareOp .Lt (.ref l) (.ref b)) Q E s:=by
 obtain ⟨⟨cls,dd,data,sl⟩,ho,hc,n,hd⟩:=id hl
 obtain ⟨⟨cls2,dd2,data2,sl2⟩,ho2,hc2,n2,hd2⟩:=id hb
 simp only at hc hd hc2 hd2
 subst hc hd hc2 hd2
 exact richCompare_meets_room (op:=.Lt) ⟨_,ho,rfl⟩ ⟨_,ho2,rfl⟩ PySem.F.slot_tuple_lt PySem.F.entry_tuple_lt (PySem.F.args_tuple_lt_2 _ _) (iK l b items items2 n n2 dd dd2 sl sl2 ns ms hi hj)
  ⟨ho,ho2,show Value.bool (lexLt ns ms)≠Value.notImplemented/\Q (.bool (lexLt ns ms)) s from ⟨(λ x=>nomatch x),h⟩⟩ hu
theorem vo {t b:Addr} {vs ws:List Value} {Q:Value->Shared->Prop} (ht:IsTup s.heap t vs.toArray) (hb:IsTup s.heap b ws.toArray) (hv:vs≠[])
  (h1:ws=[]->Q (.ref t) s) (h2:ws≠[]->Q (.ref s.heap.objs.size) {s with heap:=s.heap.push {cls:=.type "tuple",data:=.seq (vs++ws).toArray}})
  (hsz:vs.length+ws.length<=sizeLine):wpAny (model prog w) A (binaryOp .Add (.ref t) (.ref b)) Q E s:=by
 obtain ⟨⟨cls,dd,data,sl⟩,ho,hc,n,hd⟩:=id ht
 obtain ⟨⟨cls2,dd2,data2,sl2⟩,ho2,hc2,n2,hd2⟩:=id hb
 simp only at hc hd hc2 hd2
 subst hc hd hc2 hd2
 have e:vs.toArray++ws.toArray=(vs++ws).toArray:=by simp
 by_cases hw:ws=[]
 ·exact concat_meets ⟨_,ho,rfl⟩ ⟨_,ho2,rfl⟩ noFill_tuple_add seq_tuple_add PySem.F.slot_tuple_add PySem.F.entry_tuple_add (PySem.F.args_tuple_add_2 _ _)
   (tuple_addW1 t b vs.toArray ws.toArray n n2 dd dd2 sl sl2 (by simpa using hv) (by simp [hw])) ⟨ho,ho2,h1 hw⟩
 ·refine concat_meets ⟨_,ho,rfl⟩ ⟨_,ho2,rfl⟩ noFill_tuple_add seq_tuple_add PySem.F.slot_tuple_add PySem.F.entry_tuple_add (PySem.F.args_tuple_add_2 _ _)
   (tuple_addW2 t b vs.toArray ws.toArray n n2 dd dd2 sl sl2 (by simpa using hv) (by simpa using hw) (by rw [List.size_toArray,List.size_toArray]; exact hsz)) ⟨ho,ho2,?_⟩
  rw [e]
  exact h2 hw
noncomputable def sIx (n d:Nat):Option Int->Nat
 | none=>d
 | some v=>if v < 0 then (v+(n:Int)).toNat else min v.toNat n
theorem zo (n d:Nat) (hd:d<=n) (o:Option Int):sIx n d o<=n:=by
 cases o with
 | none=>exact hd
 | some v=>
  show (if v < 0 then (v+(n:Int)).toNat else min v.toNat n)<=n
  by_cases hv:v < 0
  ·rw [if_pos hv]; omega
  ·rw [if_neg hv]; exact Nat.min_le_right _ _
theorem n9 (v:Int) (n d:Nat):(if v < 0 then max (v+(n:Int)) 0 else min v (n:Int))=((sIx n d (some v):Nat):Int):=by
 show (if v < 0 then max (v+(n:Int)) 0 else min v (n:Int))=(((if v < 0 then (v+(n:Int)).toNat else min v.toNat n):Nat):Int)
 by_cases hv:v < 0
 ·simp only [if_pos hv]; omega
 ·simp only [if_neg hv]; omega
theorem mO (lo hi:Option Int) (n:Nat):Builtin.Slice.sliceAdjust lo hi 1 (n:Int)=(((sIx n 0 lo:Nat):Int),((sIx n n hi:Nat):Int)):=by
 have h1:¬((1:Int) < 0):=by omega
 unfold Builtin.Slice.sliceAdjust
 simp only [h1,if_false]
 refine Prod.ext ?_ ?_
 ·cases lo with
  | none=>rfl
  | some v=>exact n9 v n 0
 ·cases hi with
  | none=>rfl
  | some v=>exact n9 v n n
theorem mP (i j:Nat):Builtin.Slice.slicePlaces (i:Int) (j:Int) 1=j - i:=by
 unfold Builtin.Slice.slicePlaces
 have h1:(1:Int)>0:=by omega
 simp only [h1,if_true,Int.ediv_one]
 split<;>omega
theorem gP {v:Value} {o:Option Int} {Q:Option Int->Shared->Prop} (p:IsPart v o) (h:Q o s):wpAny (model prog w) A (Builtin.Slice.slicePartIndex v) Q E s:=by
 cases p with
 | none=>exact slicePart_none h
 | int i t=>exact slicePart_int h
theorem cW {sl:Addr} {vl vu:Value} {lo hi:Option Int} {n:Nat} {Q:Int×Int×Nat->Shared->Prop} (hs:s.heap.IsSliceOf sl vl vu .none) (pl:IsPart vl lo) (pu:IsPart vu hi)
  (h:Q (((sIx n 0 lo:Nat):Int),1,sIx n n hi - sIx n 0 lo) s):wpAny (model prog w) A (Builtin.Slice.sliceApplied (.ref sl) (pure (n:Int))) Q E s:=by
 obtain ⟨os,hos,hcs,hds⟩:=id hs
 unfold Builtin.Slice.sliceApplied Builtin.Slice.sliceFields
 refine wpAny_bind (wpAny_bind (wpAny_field hos hds (x:=vl) rfl (wpAny_bind (wpAny_field hos hds (x:=vu) rfl (wpAny_bind (wpAny_field hos hds (x:=.none) rfl (wpAny_pure ?_)))))))
 refine wpAny_bind (slicePart_none ?_)
 show wpAny _ _ (if ((1:Int)==0)=true then _ else _) _ _ s
 rw [if_neg (by decide)]
 refine wpAny_bind (gP pl (wpAny_bind (gP pu (wpAny_bind (wpAny_pure ?_)))))
 show wpAny _ _ (match Builtin.Slice.sliceAdjust lo hi 1 (n:Int) with | (lo,hi)=>pure (lo,(1:Int),Builtin.Slice.slicePlaces lo hi 1)) _ _ s
 rw [mO lo hi n]
 show wpAny _ _ (pure (((sIx n 0 lo:Nat):Int),(1:Int),Builtin.Slice.slicePlaces ((sIx n 0 lo:Nat):Int) ((sIx n n hi:Nat):Int) 1)) _ _ s
 rw [mP]
 exact wpAny_pure h
theorem rO (xs:Array Value) (i k:Nat):((List.range k).filterMap λ (m:Nat)=>xs[((i:Int)+(m:Int)*1).toNat]?).toArray=((xs.toList.drop i).take k).toArray:=by
 have e:(λ (m:Nat)=>xs[((i:Int)+(m:Int)*1).toNat]?)=λ m=>xs[i+m]?:=by
  funext m
  have:((i:Int)+(m:Int)*1).toNat=i+m:=by omega
  rw [this]
 rw [e]
 have:=pick_run xs i k
 rw [List.filterMap_map] at this
 have e2:((λ x=>xs[x]?)∘λ x=>i+x)=λ m=>xs[i+m]?:=rfl
 rw [e2] at this
 rw [this]
theorem fh {t sl:Addr} {items:Array Value} {vl vu:Value} {lo hi:Option Int} {Q:Value->Shared->Prop} (ht:IsTup s.heap t items) (hs:s.heap.IsSliceOf sl vl vu .none) (pl:IsPart vl lo) (pu:IsPart vu hi)
  (hw:¬(sIx items.size 0 lo=0/\sIx items.size items.size hi=items.size))
  (h:Q (.ref s.heap.objs.size) {s with heap:=s.heap.push {cls:=.type "tuple",data:=.seq ((items.toList.drop (sIx items.size 0 lo)).take (sIx items.size items.size hi - sIx items.size 0 lo)).toArray}})
  (hsz:items.size<=sizeLine):wpAny (model prog w) A (getItem (.ref t) (.ref sl)) Q E s:=by
 have oh:sizeOk (.seq ((items.toList.drop (sIx items.size 0 lo)).take (sIx items.size items.size hi - sIx items.size 0 lo)).toArray):=by
  show ((items.toList.drop (sIx items.size 0 lo)).take (sIx items.size items.size hi - sIx items.size 0 lo)).toArray.size<=sizeLine
  rw [List.size_toArray,List.length_take,List.length_drop,Array.length_toList]
  omega
 have hj:sIx items.size items.size hi<=items.size:=zo _ _ (Nat.le_refl _) hi
 obtain ⟨os,hos,hcs,hds⟩:=id hs
 have hTs:s.TypeIs (.ref sl) "slice":=⟨os,hos,hcs⟩
 unfold getItem
 try with_reducible refine wpAny_holding ?_
 first | refine wpAny_bind (wpAny_pure ?_) | skip
 refine wpAny_bind (wpAny_sequenceKey ht.typeIs (by decide) ?_)
 refine wpAny_bind (wpAny_callSpecial?_slot (name:=Str.ofString "__getitem__") ht.typeIs PyProof.Rows.slot_tuple_getitem
  (wpAny_call_entry PyProof.Rows.slot_tuple_getitem ht.typeIs entry_tuple_getitem ?_ (args_tuple_getitem _ _)))
 show wpAny _ _ (Builtin.Tuple.tupleItemsOf (.ref t) >>= _) _ _ s
 refine wpAny_bind (tupleItemsOf_ ht ?_)
 refine wpAny_bind (wpAny_typeOf hTs ?_)
 rw [if_pos (by decide)]
 refine wpAny_bind (cW hs pl pu ?_)
 have hno:¬((((sIx items.size 0 lo:Nat):Int)==0&&(1:Int)==1&&(sIx items.size items.size hi - sIx items.size 0 lo)==items.size)=true):=by
  intro q
  rw [Bool.and_eq_true,Bool.and_eq_true] at q
  have q1:((sIx items.size 0 lo:Nat):Int)=0:=eq_of_beq q.1.1
  have q2:sIx items.size items.size hi - sIx items.size 0 lo=items.size:=eq_of_beq q.2
  exact hw ⟨by omega,by omega⟩
 show wpAny _ _ (if (((sIx items.size 0 lo:Nat):Int)==0&&(1:Int)==1&&(sIx items.size items.size hi - sIx items.size 0 lo)==items.size)=true then _ else _) _ _ s
 rw [if_neg hno,rO]
 first
  | exact wpAny_bind (m:=Builtin.Tuple.tupleExact _) (wpAny_newObj_type (wpAny_pure ⟨_,rfl,wpAny_pure h⟩) oh)
  | exact wpAny_bind (m:=Builtin.Tuple.tupleExact _) (wpAny_newObj_type (wpAny_bind (wpAny_pure (wpAny_pure ⟨_,rfl,wpAny_pure h⟩))) oh)
  | exact wpAny_bind (wpAny_bind (m:=Builtin.Tuple.tupleExact _) (wpAny_newObj_type (wpAny_pure (wpAny_pure ⟨_,rfl,wpAny_pure h⟩)) oh))
  | exact wpAny_bind (wpAny_bind (m:=Builtin.Tuple.tupleExact _) (wpAny_newObj_type (wpAny_pure ⟨_,rfl,wpAny_pure h⟩) oh))
end
end HT
namespace L2
open PySem PySem.Spec PyProof.Rows
abbrev TO:=St->Hp->(Option Int->Hp->Prop)->Prop
noncomputable def PO (X:Cx) (e:Option Expr) (t:TO):Prop:=
 ∀(pins:List (Addr×Obj)) (s:Shared) (σ:St) (H:Hp) (Q:Option Int->Hp->Prop),Inv X pins σ H s->t σ H Q->
  wpAny (model X.prog X.w) X.A (evalPart e X.env) (λ u s'=>∃o H',Inv X pins σ H' s'/\IsPart u o/\Q o H') X.xe s
noncomputable def vp:TO:=λ _ H Q=>Q none H
noncomputable def By (t:TE):TO:=fun σ H Q=>t σ H λ x H1=>∃i,x=.int i/\Q (some i) H1
theorem intsAre_of {ns:List Int}:∀{us:List Value},Vals (ns.map V.int) us->IntsAre us ns:=by
 induction ns with
 | nil=>intro us r; rw [List.map_nil] at r; cases r; exact .nil
 | cons n ns ih=>
  intro us r
  rw [List.map_cons] at r
  cases r with
  | cons r1 r2=>
   obtain ⟨t,e⟩:=r1
   subst e
   exact .cons n t (ih r2)
section
variable {X:Cx} {e:Expr} {te:TE} {lo hi:Option Expr} {tl th:TO} {pos p2:Pos}
theorem vq:PO X none vp:=by
 intro pins s σ H Q I h
 rw [evalPart_none]
 exact wpAny_pure ⟨none,H,I,.none,h⟩
theorem vt (h:PE X e te):PO X (some e) (By te):=by
 intro pins s σ H Q I hw
 rw [evalPart_some]
 refine thn (h pins s σ H _ I hw) λ u s1 ⟨x,H1,I1,r1,q1⟩=>?_
 obtain ⟨i,rfl,q⟩:=q1
 obtain ⟨t,rfl⟩:=r1
 exact ⟨some i,H1,I1,.int i t,q⟩
noncomputable def SlR (X:Cx) (r:V->Option Int->Option Int->Hp->VK->Prop):Prop:=
 ∀(pins:List (Addr×Obj)) (s:Shared) (σ:St) (H:Hp) (x:V) (v vl vu:Value) (lo hi:Option Int) (sl:Addr) (Q:VK),Inv X pins σ H s->RelV x v->s.heap.IsSliceOf sl vl vu .none->IsPart vl lo->IsPart vu hi->r x lo hi H Q->
  ∃T id,typeLookup (.type T) "__getitem__"=pure (some (.builtin id))/\s.TypeIs v T/\wpAny (model X.prog X.w) X.A (getItem v (.ref sl)) (EP X pins σ Q) X.xe s
noncomputable def tSl (r:V->Option Int->Option Int->Hp->VK->Prop) (te:TE) (tl th:TO):TE:=fun σ H Q=>te σ H λ x H1=>tl σ H1 λ l H2=>th σ H2 λ u H3=>r x l u H3 Q
theorem rP {r:V->Option Int->Option Int->Hp->VK->Prop} (hr:SlR X r) (he:PE X e te) (hl:PO X lo tl) (hu:PO X hi th):PE X (.Subscript e (.Slice lo hi none p2) pos) (tSl r te tl th):=by
 intro pins s σ H Q I h
 refine Subscript_ (thn (he pins s σ H _ I h) λ v s1 ⟨x,H1,I1,r1,q1⟩=>?_)
 refine wpAny_Slice (thn (hl pins s1 σ H1 _ I1 q1) λ vl s2 ⟨l,H2,I2,pl,q2⟩=>thn (hu pins s2 σ H2 _ I2 q2) λ vu s3 ⟨u,H3,I3,pu,q3⟩=>?_)
 rw [evalPart_none]
 refine wpAny_pure ?_
 have I4:Inv X pins σ H3 {s3 with heap:=s3.heap.push {cls:=.type "slice",data:=.fields #[vl,vu,.none]}}:=I3.kept (t':=s3.toks) λ b ob q=>Heap.get?_push_of_some _ q
 obtain ⟨T,id,hT,ht,hg⟩:=hr pins {s3 with heap:=s3.heap.push {cls:=.type "slice",data:=.fields #[vl,vu,.none]}} σ H3 x v vl vu l u s3.heap.objs.size Q I4 r1 (Heap.IsSliceOf.new ..) pl pu q3
 show wpAny (model X.prog X.w) X.A (subscriptTail e (.Slice lo hi none p2) v (.ref s3.heap.objs.size)) (EP X pins σ Q) X.xe {s3 with heap:=s3.heap.push {cls:=.type "slice",data:=.fields #[vl,vu,.none]}}
 exact tail_any (ops:=[.ref s3.heap.objs.size,v]) ht hT hg (by with_unfolding_all rfl)
noncomputable def jD (xs:List V) (lo hi:Option Int):List V:=(xs.drop (HT.sIx xs.length 0 lo)).take (HT.sIx xs.length xs.length hi - HT.sIx xs.length 0 lo)
theorem gf (xs:List V) (lo hi:Option Int):(jD xs lo hi).length<=xs.length:=by
 unfold jD
 rw [List.length_take,List.length_drop]
 omega
noncomputable def Dy (K:PySem.W.Frag):V->Option Int->Option Int->Hp->VK->Prop:=λ x lo hi H Q=>∃a xs,x=.ref a/\SqT K H a xs/\
 ¬(HT.sIx xs.length 0 lo=0/\HT.sIx xs.length xs.length hi=xs.length)/\∀p,H p=none->Q (.ref p) (upd H p (.tup (jD xs lo hi)))
theorem zp:SlR X (Dy X.K):=by
 intro pins s σ H x v vl vu lo hi sl Q I rx hs pl pu h
 obtain ⟨a,xs,rfl,hx,hw,q⟩:=h
 cases rx
 obtain ⟨its,r,ht,hz⟩:=I.tuple hx
 have hlen:its.toArray.size=xs.length:=by rw [List.size_toArray]; exact r.length.symm
 refine ⟨"tuple",_,PyProof.Rows.slot_tuple_getitem.lookup,ht.typeIs,?_⟩
 refine HT.fh ht hs pl pu (by rw [hlen]; exact hw) ?_ (by rw [hlen]; exact hz)
 rw [hlen]
 refine ⟨.ref s.heap.objs.size,_,I.laid (t':=s.toks) (o:=.tup (jD xs lo hi)) (λ b ob q=>Heap.get?_push_of_some _ q) (Nat.le_refl _) ?_,rfl,q _ (I.hok.fresh (Nat.le_refl _))⟩
 exact ⟨Nat.le_trans (gf xs lo hi) hz,_,(r.drop (HT.sIx xs.length 0 lo)).take (HT.sIx xs.length xs.length hi - HT.sIx xs.length 0 lo),IsTup.new _ _⟩
noncomputable def BA (K:PySem.W.Frag):R2:=λ x y H Q=>∃a b xs ys,x=.ref a/\y=.ref b/\SqT K H a xs/\SqT K H b ys/\xs≠[]/\xs.length+ys.length<=sizeLine/\
 (ys=[]->Q (.ref a) H)/\(ys≠[]->∀p,H p=none->Q (.ref p) (upd H p (.tup (xs++ys))))
theorem Vals.jE {xs:List V} {us:List Value} (r:Vals xs us):us=[]↔xs=[]:=by
 cases r with
 | nil=>simp
 | cons _ _=>simp
theorem vv:OpR X (binaryOp .Add) (BA X.K):=by
 intro pins s σ H x y v u Q I rx ry h
 obtain ⟨a,b,xs,ys,rfl,rfl,ha,hb,hx,hz,q1,q2⟩:=h
 cases rx
 cases ry
 obtain ⟨its,r1,p1,_⟩:=I.tuple ha
 obtain ⟨its2,r2,p2,_⟩:=I.tuple hb
 refine HT.vo p1 p2 (λ z=>hx (r1.jE.mp z)) (λ z=>⟨.ref a,H,I,rfl,q1 (r2.jE.mp z)⟩) (λ z=>?_) (by rw [<-r1.length,<-r2.length]; exact hz)
 refine ⟨.ref s.heap.objs.size,_,I.laid (t':=s.toks) (o:=.tup (xs++ys)) (λ b ob q=>Heap.get?_push_of_some _ q) (Nat.le_refl _) ?_,rfl,q2 (λ w=>z (r2.jE.mpr w)) _ (I.hok.fresh (Nat.le_refl _))⟩
 exact ⟨by rw [List.length_append]; exact hz,_,r1.append r2,IsTup.new _ _⟩
end
end L2
namespace L2
open PySem PySem.Spec PyProof.Rows
noncomputable def ixN (n:Nat) (i:Int):Option Nat:=if 0<=i then (if i < n then some i.toNat else none) else if -(n:Int)<=i then some (i+n).toNat else none
noncomputable def atI {α:Type} (xs:List α) (i:Int):Option α:=(ixN xs.length i).bind λ j=>xs[j]?
theorem oi {n:Nat} {i:Int} {j:Nat} (h:ixN n i=some j):seqIndex? i n=some j/\j < n/\-(n:Int)<=i/\i < n:=by
 unfold ixN at h
 by_cases h0:0<=i
 ·rw [if_pos h0] at h
  by_cases h1:i < n
  ·rw [if_pos h1] at h
   have e:i.toNat=j:=Option.some.inj h
   exact ⟨by rw [seqIndex_of h0 h1,e],by omega,by omega,h1⟩
  ·rw [if_neg h1] at h; cases h
 ·rw [if_neg h0] at h
  by_cases h1:-(n:Int)<=i
  ·rw [if_pos h1] at h
   have e:(i+n).toNat=j:=Option.some.inj h
   exact ⟨by rw [seqIndex_neg (by omega) h1,e],by omega,h1,by omega⟩
  ·rw [if_neg h1] at h; cases h
theorem jF {α:Type} {xs:List α} {i:Int} {v:α} (h:atI xs i=some v):∃j,seqIndex? i xs.length=some j/\xs[j]?=some v/\j < xs.length/\-(xs.length:Int)<=i/\i < xs.length:=by
 unfold atI at h
 cases e:ixN xs.length i with
 | none=>rw [e] at h; cases h
 | some j=>
  rw [e] at h
  obtain ⟨h1,h2,h3,h4⟩:=oi e
  exact ⟨j,h1,h,h2,h3,h4⟩
noncomputable def gA (b:Expr):Prop:=∀o i,subscripted b false o i=operate [o,i] (getItem o i)
noncomputable def IxR (X:Cx) (r:R2):Prop:=
 ∀(value slice:Expr) (pins:List (Addr×Obj)) (s:Shared) (σ:St) (H:Hp) (x y:V) (v u:Value) (Q:VK),Inv X pins σ H s->RelV x v->RelV y u->r x y H Q->
  subscripted slice false v u=operate [v,u] (getItem v u)->wpAny (model X.prog X.w) X.A (subscriptTail value slice v u) (EP X pins σ Q) X.xe s
noncomputable def MtR (X:Cx) (id:String) (r:V->List V->Hp->VK->Prop):Prop:=
 ∀(pins:List (Addr×Obj)) (s:Shared) (σ:St) (H:Hp) (x:V) (xs:List V) (v:Value) (us:List Value) (Q:VK),Inv X pins σ H s->RelV x v->Vals xs us->r x xs H Q->
  wpAny (model X.prog X.w) X.A (call (.builtin id) (v::us)) (EP X pins σ Q) X.xe s
section
variable {X:Cx} {a b:Expr} {ta tb:TE} {pos:Pos}
theorem xM {r:R2} (hr:IxR X r) (ha:PE X a ta) (hb:PE X b tb) (hs:gA b):PE X (.Subscript a b pos) (tOp r ta tb):=by
 intro pins s σ H Q I h
 exact Subscript_ (yV ha hb I h λ v u s2 x y H2 I2 rx ry q=>hr a b pins s2 σ H2 x y v u Q I2 rx ry q (hs _ _))
noncomputable def Dz (K:PySem.W.Frag):R2:=λ x y H Q=>∃p xs i v,x=.ref p/\y=.int i/\SqL K H p xs/\atI xs i=some v/\Q v H
noncomputable def DA (K:PySem.W.Frag):R2:=λ x y H Q=>∃p xs i v,x=.ref p/\y=.int i/\SqT K H p xs/\atI xs i=some v/\Q v H
noncomputable def DB:R2:=λ x y H Q=>∃z i c,x=.str z/\y=.int i/\z.length<=sizeLine/\atI z.cps.toList i=some c/\Q (.str ⟨#[c]⟩) H
theorem vz:IxR X (Dz X.K):=by
 intro value slice pins s σ H x y v u Q I rx ry h hs
 obtain ⟨p,xs,i,z,rfl,rfl,hq,he,q⟩:=h
 cases rx
 obtain ⟨t,rfl⟩:=ry
 obtain ⟨its,r,pl,hz⟩:=I.list hq
 obtain ⟨j,h1,h2,h3,h4,h5⟩:=jF he
 obtain ⟨w,ew,rw'⟩:=r.get h2
 have hl:=r.length
 have hn:=dG
 have fin:EP X pins σ Q w s:=⟨z,H,I,rw',q⟩
 by_cases h0:0<=i
 ·have hj:i.toNat=j:=by
   rw [seqIndex_of h0 h5] at h1
   exact Option.some.inj h1
  exact item_listR pl.isList h0 (by omega) (by rw [hj]; simpa using ew) fin hs
 ·have hj:(i+(its.toArray.size:Int)).toNat=j:=by
   rw [seqIndex_neg (by omega) h4] at h1
   rw [List.size_toArray,<-hl]
   exact Option.some.inj h1
  exact subscriptTail_builtinR (x:=w) pl.isList.typeIs slot_list_getitem.lookup
   (wpAny_getItem_list_neg (Q:=λ r s'=>r=w/\EP X pins σ Q r s') pl.isList (by omega) (by rw [List.size_toArray]<;>omega) (by omega) (by rw [hj]; simpa using ew) ⟨rfl,fin⟩) hs
theorem zq:IxR X (DA X.K):=by
 intro value slice pins s σ H x y v u Q I rx ry h hs
 obtain ⟨p,xs,i,z,rfl,rfl,hq,he,q⟩:=h
 cases rx
 obtain ⟨t,rfl⟩:=ry
 obtain ⟨its,r,pl,hz⟩:=I.tuple hq
 obtain ⟨j,h1,h2,h3,h4,h5⟩:=jF he
 obtain ⟨w,ew,rw'⟩:=r.get h2
 have hl:=r.length
 have hn:=dG
 have fin:EP X pins σ Q w s:=⟨z,H,I,rw',q⟩
 exact subscriptTail_builtinR (x:=w) pl.typeIs slot_tuple_getitem.lookup
  (getItem_tuple (j:=j) (Q:=λ r s'=>r=w/\EP X pins σ Q r s') pl (by omega) (by omega) (by rw [List.size_toArray,<-hl]; exact h1) (by simpa using ew) ⟨rfl,fin⟩) hs
theorem zu:IxR X DB:=by
 intro value slice pins s σ H x y v u Q I rx ry h hs
 obtain ⟨z,i,c,rfl,rfl,hz,he,q⟩:=h
 obtain ⟨t,rfl⟩:=rx
 obtain ⟨t',rfl⟩:=ry
 obtain ⟨j,h1,h2,h3,h4,h5⟩:=jF he
 have hl:z.cps.toList.length=z.length:=by simp [Str.length]
 rw [hl] at h1 h4 h5
 have hn:=dG
 exact tail_any (typeIs_str s z t) slot_str_getitem.lookup (getItem_str (c:=c) (by
  have e1:decide (i < -(2^63:Int))=false:=decide_eq_false (by omega)
  have e2:decide (i≥2^63)=false:=decide_eq_false (by omega)
  rw [e1,e2,Bool.or_false]) (by rw [h1]; simpa using h2) ⟨.str ⟨#[c]⟩,H,I.tok _,⟨_,rfl⟩,q⟩) hs
theorem mQ (its:List Value) (n j:Nat) (u:Value):Obj.mapSeq (·.setIfInBounds j u) {cls:=.type "list",data:=.seq its.toArray n}={cls:=.type "list",data:=.seq (its.set j u).toArray n}:=by
 simp [Obj.mapSeq]
theorem Inv.lst {pins:List (Addr×Obj)} {σ:St} {H:Hp} {s:Shared} {p:Addr} {xs:List V} (I:Inv X pins σ H s) (h:H p=some (.lst xs)) :
  ∃(its:List Value) (n:Nat),Vals xs its/\s.heap.get? p=some {cls:=.type "list",data:=.seq its.toArray n}/\xs.length<=sizeLine:=by
 obtain ⟨z,its,n,r,e⟩:=I.hok p _ h
 exact ⟨its,n,r,e,z⟩
theorem Inv.zv {pins:List (Addr×Obj)} {σ:St} {H:Hp} {s:Shared} {p:Addr} {xs ys:List V} {its its':List Value} {n n':Nat} {f:Obj->Obj} (I:Inv X pins σ H s) (h:H p=some (.lst xs))
  (ho:s.heap.get? p=some {cls:=.type "list",data:=.seq its.toArray n}) (hf:f {cls:=.type "list",data:=.seq its.toArray n}={cls:=.type "list",data:=.seq its'.toArray n'}) (r:Vals ys its') (hz:ys.length<=sizeLine) (t:Nat) :
  Inv X pins σ (upd H p (.lst ys)) {s with heap:=s.heap.update p f,toks:=t}:=by
 have e:(s.heap.update p f).get? p=some {cls:=.type "list",data:=.seq its'.toArray n'}:=by
  rw [Heap.get?_update_self f ho (by rw [hf]<;>rfl),hf]
 refine I.write (x:=p) (e:=p) (by rw [h]; trivial) (.inl rfl) (λ b u hb q=>(Heap.get?_update_other _ _ (Ne.symm hb)).trans q) ⟨_,e⟩ ?_
 exact ⟨hz,its',n',r,e⟩
noncomputable def BB:V->V->V->Hp->(Hp->Prop)->Prop:=λ o i v H Q=>∃p xs k j,o=.ref p/\i=.int k/\H p=some (.lst xs)/\ixN xs.length k=some j/\Q (upd H p (.lst (xs.set j v)))
theorem set_list:yN X BB:=by
 intro pins s σ H o i v ov iv u Q I ro ri rv h
 obtain ⟨p,xs,k,j,rfl,rfl,hp,hj,q⟩:=h
 cases ro
 obtain ⟨t,rfl⟩:=ri
 obtain ⟨its,n,r,ho,hz⟩:=I.lst hp
 obtain ⟨h1,h2,h3,h4⟩:=oi hj
 have hl:=r.length
 have hn:=dG
 have I':Inv X pins σ (upd H p (.lst (xs.set j v))) {s with heap:=s.heap.update p (Obj.mapSeq (·.setIfInBounds j u))}:=
  I.zv hp ho (mQ its n j u) (r.set rv j) (by rw [List.length_set]; exact hz) s.toks
 by_cases h0:0<=k
 ·have hk:k.toNat=j:=by
   rw [seqIndex_of h0 h4] at h1
   exact Option.some.inj h1
  exact PySem.W.ki_setAt ho h0 (by omega) (by rw [List.size_toArray,<-hl]; exact h4) (by rw [hk]; exact ⟨_,I',q⟩)
 ·have hk:(k+(its.toArray.size:Int)).toNat=j:=by
   rw [seqIndex_neg (by omega) h3] at h1
   rw [List.size_toArray,<-hl]
   exact Option.some.inj h1
  exact PySem.W.ki_setBack ho (by omega) (by rw [List.size_toArray,<-hl]; exact h3) (by omega) (by rw [hk]; exact ⟨_,I',q⟩)
theorem jG (lo hi:Option Int) (n:Nat):(sliceBounds lo hi none n).1=((HT.sIx n 0 lo:Nat):Int)/\(sliceBounds lo hi none n).2.1=((HT.sIx n n hi:Nat):Int)/\(sliceBounds lo hi none n).2.2=1:=by
 refine ⟨?_,?_,rfl⟩
 ·cases lo with
  | none=>simp [sliceBounds,HT.sIx]
  | some i=>
   simp only [sliceBounds,HT.sIx,Option.getD_none,show (1:Int)>0 by decide,if_true]
   by_cases h:i < 0
   ·simp only [h,if_true]<;>omega
   ·simp only [h,if_false]<;>omega
 ·cases hi with
  | none=>simp [sliceBounds,HT.sIx]
  | some i=>
   simp only [sliceBounds,HT.sIx,Option.getD_none,show (1:Int)>0 by decide,if_true]
   by_cases h:i < 0
   ·simp only [h,if_true]<;>omega
   ·simp only [h,if_false]<;>omega
theorem iL (its:List Value) (lo hi:Option Int):slicePick its.toArray lo hi none=((its.drop (HT.sIx its.length 0 lo)).take (HT.sIx its.length its.length hi - HT.sIx its.length 0 lo)).toArray:=by
 obtain ⟨h1,h2,h3⟩:=jG lo hi its.toArray.size
 unfold slicePick
 rw [h1,h2,h3]
 simp only [sliceRange_one,pick_run,List.size_toArray]<;>rfl
noncomputable def DC (K:PySem.W.Frag):V->Option Int->Option Int->Hp->VK->Prop:=λ x lo hi H Q=>∃a xs,x=.ref a/\SqL K H a xs/\∀p,H p=none->Q (.ref p) (upd H p (.lst (jD xs lo hi)))
theorem vA:SlR X (DC X.K):=by
 intro pins s σ H x v vl vu lo hi sl Q I rx hs pl pu h
 obtain ⟨a,xs,rfl,hx,q⟩:=h
 cases rx
 obtain ⟨its,r,ht,hz⟩:=I.list hx
 have hlen:=r.length
 refine ⟨"list",_,slot_list_getitem.lookup,ht.isList.typeIs,?_⟩
 refine wpAny_getItem_list_slice ht.isList hs pl pu .none (by simp) ?_ (by rw [List.size_toArray]<;>omega)
 rw [iL,<-hlen]
 refine ⟨.ref s.heap.objs.size,_,I.laid (t':=s.toks) (o:=.lst (jD xs lo hi)) (λ b ob q=>Heap.get?_push_of_some _ q) (Nat.le_refl _) ?_,rfl,q _ (I.hok.fresh (Nat.le_refl _))⟩
 exact ⟨Nat.le_trans (gf xs lo hi) hz,_,0,(r.drop (HT.sIx xs.length 0 lo)).take (HT.sIx xs.length xs.length hi - HT.sIx xs.length 0 lo),Heap.get?_push_size _ rfl⟩
noncomputable def gg:V->Bool
 | .non=>true
 | .bl _=>true
 | .int _=>true
 | .str _=>true
 | _=>false
noncomputable def eqV:V->V->Bool
 | .non,.non=>true
 | .bl a,.bl b=>a==b
 | .bl a,.int b=>(if a then 1 else 0)==b
 | .int a,.bl b=>a==(if b then 1 else 0)
 | .int a,.int b=>a==b
 | .str a,.str b=>a==b
 | _,_=>false
theorem zw {A:Around} {s:Shared} {y x:V} {u v:Value} (ry:RelV y u) (rx:RelV x v) (fy:gg y=true) (fx:gg x=true):SeqAt.EqAt A s u v (eqV y x):=by
 cases y with
 | non=>
  cases ry
  cases x with
  | non=>cases rx; exact SeqAt.EqAt.same _
  | bl b=>cases rx; exact SeqAt.EqAt.none_bool b
  | int b=>obtain ⟨t,rfl⟩:=rx; exact SeqAt.EqAt.none_int b t
  | str b=>obtain ⟨t,rfl⟩:=rx; exact SeqAt.EqAt.none_str b t
  | _=>exact absurd (show false=true from fx) Bool.false_ne_true
 | bl a=>
  cases ry
  cases x with
  | non=>cases rx; exact SeqAt.EqAt.bool_none a
  | bl b=>cases rx; exact SeqAt.EqAt.bool_bool a b
  | int b=>obtain ⟨t,rfl⟩:=rx; exact SeqAt.EqAt.bool_int a b t
  | str b=>obtain ⟨t,rfl⟩:=rx; exact SeqAt.EqAt.bool_str a b t
  | _=>exact absurd (show false=true from fx) Bool.false_ne_true
 | int a=>
  obtain ⟨t',rfl⟩:=ry
  cases x with
  | non=>cases rx; exact SeqAt.EqAt.int_none a t'
  | bl b=>cases rx; exact SeqAt.EqAt.int_bool a t' b
  | int b=>obtain ⟨t,rfl⟩:=rx; exact SeqAt.EqAt.int_int a t' b t
  | str b=>obtain ⟨t,rfl⟩:=rx; exact SeqAt.EqAt.int_str a t' b t
  | _=>exact absurd (show false=true from fx) Bool.false_ne_true
 | str a=>
  obtain ⟨t',rfl⟩:=ry
  cases x with
  | non=>cases rx; exact SeqAt.EqAt.str_none a t'
  | bl b=>cases rx; exact SeqAt.EqAt.str_bool a t' b
  | int b=>obtain ⟨t,rfl⟩:=rx; exact SeqAt.EqAt.str_int a t' b t
  | str b=>obtain ⟨t,rfl⟩:=rx; exact SeqAt.EqAt.str_str a t' b t
  | _=>exact absurd (show false=true from fx) Bool.false_ne_true
 | _=>exact absurd (show false=true from fy) Bool.false_ne_true
noncomputable def eqU (x:V) (u:Value):Bool:=match u with
 | .none=>eqV .non x
 | .bool b=>eqV (.bl b) x
 | .int i _=>eqV (.int i) x
 | .str z _=>eqV (.str z) x
 | _=>false
theorem rQ {x y:V} {u:Value} (r:RelV y u) (f:gg y=true):eqU x u=eqV y x:=by
 cases y with
 | non=>cases r; rfl
 | bl b=>cases r; rfl
 | int i=>obtain ⟨t,rfl⟩:=r; rfl
 | str z=>obtain ⟨t,rfl⟩:=r; rfl
 | _=>exact absurd (show false=true from f) Bool.false_ne_true
theorem kI {A:Around} {s:Shared} {x:V} {v:Value} (rx:RelV x v) (fx:gg x=true):∀{xs:List V} {us:List Value},Vals xs us->xs.all gg=true->∀u∈us,SeqAt.EqAt A s u v (eqU x u)
 | _,_,.nil,_=>λ u hu=>by cases hu
 | y::xs,u::us,.cons r t,f=>λ u' hu=>by
  rw [List.all_cons,Bool.and_eq_true] at f
  rcases List.mem_cons.mp hu with rfl | hu
  ·rw [rQ r f.1]; exact zw r rx f.1 fx
  ·exact kI rx fx t f.2 u' hu
theorem jH:aZ X (.builtin "len") (λ xs H Q=>∃p ys,xs=[.ref p]/\(SqL X.K H p ys\/SqT X.K H p ys)/\Q (.int ys.length) H):=by
 intro pins s σ H xs us Q I r h
 obtain ⟨p,ys,rfl,hq,q⟩:=h
 obtain ⟨u,rfl,rx⟩:=vals1 r
 cases rx
 have hn:=dG
 rcases hq with hq | hq
 ·obtain ⟨its,r',pl,hz⟩:=I.list hq
  have hlen:=r'.length
  exact Calls.call_len_list pl.isList (by simp only [List.size_toArray]<;>omega) ⟨.int ys.length,H,I.tok _,⟨s.toks+1,by rw [List.size_toArray,hlen]⟩,q⟩
 ·obtain ⟨its,r',pl,hz⟩:=I.tuple hq
  have hlen:=r'.length
  exact len_tuple pl (by simp only [List.size_toArray]<;>omega) ⟨.int ys.length,H,I.tok _,⟨s.toks+1,by rw [List.size_toArray,hlen]⟩,q⟩
theorem jI:aZ X (.builtin "len") (λ xs H Q=>∃z,xs=[.str z]/\z.length<=sizeLine/\Q (.int z.length) H):=by
 intro pins s σ H xs us Q I r h
 obtain ⟨z,rfl,hz,q⟩:=h
 obtain ⟨u,rfl,t,rfl⟩:=vals1 r
 have hn:=dG
 exact len_str (by omega) ⟨.int z.length,H,I.tok _,⟨_,rfl⟩,q⟩
theorem jJ:aZ X (.type "list") (λ xs H Q=>∃p ys,xs=[.ref p]/\(SqL X.K H p ys\/SqT X.K H p ys)/\∀l,H l=none->Q (.ref l) (upd H l (.lst ys))):=by
 intro pins s σ H xs us Q I r h
 obtain ⟨p,ys,rfl,hq,q⟩:=h
 obtain ⟨u,rfl,rx⟩:=vals1 r
 cases rx
 have fin:∀(its:List Value),Vals ys its->ys.length<=sizeLine->∀(h':Heap) (c':Nat),(∀b o',s.heap.get? b=some o'->h'.get? b=some o')->
   h'.get? s.heap.objs.size=some {cls:=.type "list",dict:=none,data:=.seq its.toArray c',slots:=#[]}->EP X pins σ Q (.ref s.heap.objs.size) {s with heap:=h'}:=λ its r' hz h' c' kp e=>
  ⟨.ref s.heap.objs.size,_,I.laid (t':=s.toks) kp (Nat.le_refl _) (show aT X.prog X.w _ h' _ (.lst ys) from ⟨hz,its,c',r',e⟩),rfl,q _ (I.hok.fresh (Nat.le_refl _))⟩
 rcases hq with hq | hq
 ·obtain ⟨its,r',pl,hz⟩:=I.list hq
  have hlen:=r'.length
  obtain ⟨o,ho,hc,n,hd⟩:=pl.isList
  exact call_list_seq p (.inl rfl) ho hc hd (λ h' c' kp e=>fin its r' hz h' c' kp e) (by simp only [List.size_toArray]<;>omega)
 ·obtain ⟨its,r',pl,hz⟩:=I.tuple hq
  have hlen:=r'.length
  obtain ⟨o,ho,hc,n,hd⟩:=pl
  exact call_list_seq p (.inr rfl) ho hc hd (λ h' c' kp e=>fin its r' hz h' c' kp e) (by simp only [List.size_toArray]<;>omega)
theorem iM:aZ X (.type "tuple") (λ xs H Q=>∃p ys,xs=[.ref p]/\((SqL X.K H p ys/\∀l,H l=none->Q (.ref l) (upd H l (.tup ys)))\/(SqT X.K H p ys/\Q (.ref p) H))):=by
 intro pins s σ H xs us Q I r h
 obtain ⟨p,ys,rfl,h⟩:=h
 obtain ⟨u,rfl,rx⟩:=vals1 r
 cases rx
 rcases h with ⟨hq,q⟩ | ⟨hq,q⟩
 ·obtain ⟨its,r',pl,hz⟩:=I.list hq
  have hlen:=r'.length
  refine call_tuple_list pl.isList (λ h' kp=>?_) (by simp only [List.size_toArray]<;>omega)
  have I1:Inv X pins σ H {s with heap:=h'}:=I.kept (t':=s.toks) kp
  have I2:Inv X pins σ (upd H h'.objs.size (.tup ys)) {s with heap:=h'.push {cls:=.type "tuple",data:=.seq its.toArray}}:=
   I1.laid (t':=s.toks) (λ b o e=>Heap.get?_push_of_some _ e) (Nat.le_refl _) (show aT X.prog X.w _ _ _ (.tup ys) from ⟨hz,its,r',IsTup.new _ _⟩)
  exact ⟨.ref h'.objs.size,_,I2,rfl,q _ (I1.hok.fresh (Nat.le_refl _))⟩
 ·obtain ⟨its,r',pl,hz⟩:=I.tuple hq
  exact call_tuple_same pl ⟨.ref p,H,I,rfl,q⟩
noncomputable def tyV (K:PySem.W.Frag) (T:String) (x:V) (H:Hp):Prop:=match x with
 | .str _=>T="str"
 | .int _=>T="int"
 | .ref p=>(T="list"/\∃xs,SqL K H p xs)\/(T="tuple"/\∃o,K.lookup p=some o/\o.cls=.type "tuple"/\o.dict=none)\/
   (T="dict"/\((∃kvs,H p=some (.dK kvs))\/∃kvs,H p=some (.dT kvs)))\/(T="set"/\∃S n,H p=some (.set S n))
 | _=>False
theorem rR {pins:List (Addr×Obj)} {σ:St} {H:Hp} {s:Shared} {T:String} {x:V} {v:Value} (I:Inv X pins σ H s) (r:RelV x v) (ty:tyV X.K T x H) :
  s.TypeIs v T/\∀a,v=.ref a->∃ob,s.heap.get? a=some ob/\ob.dict=none:=by
 cases x with
 | str z=>
  obtain ⟨t,rfl⟩:=r
  cases (show T="str" from ty)
  exact ⟨typeIs_str s z t,λ _ e=>nomatch e⟩
 | int i=>
  obtain ⟨t,rfl⟩:=r
  cases (show T="int" from ty)
  exact ⟨typeIs_int s i t,λ _ e=>nomatch e⟩
 | ref p=>
  cases r
  rcases ty with ⟨rfl,xs,hq⟩ | ⟨rfl,o,hk,hc,hd⟩ | ⟨rfl,hk⟩ | ⟨rfl,S,n,hk⟩
  ·obtain ⟨its,_,pl,_⟩:=I.list hq
   refine ⟨pl.isList.typeIs,λ a e=>?_⟩
   cases e
   obtain ⟨o,n,e,c,hd,_⟩:=pl
   exact ⟨o,e,hd⟩
  ·refine ⟨⟨o,I.kIn p o hk,hc⟩,λ a e=>?_⟩
   cases e
   exact ⟨o,I.kIn _ o hk,hd⟩
  ·have z:∃o,s.heap.get? p=some o/\o.ExactDict:=by
    rcases hk with ⟨kvs,hk⟩ | ⟨kvs,hk⟩
    ·obtain ⟨_,_,_,_,o,_,_,e,ex,_⟩:=I.hok p _ hk
     exact ⟨o,e,ex⟩
    ·obtain ⟨_,_,_,_,o,_,_,e,ex,_⟩:=I.hok p _ hk
     exact ⟨o,e,ex⟩
   obtain ⟨o,e,ex⟩:=z
   refine ⟨⟨o,e,ex.1⟩,λ a e2=>?_⟩
   cases e2
   exact ⟨o,e,ex.2.1⟩
  ·obtain ⟨o,_,_,_,e,ex,_⟩:=I.hok p _ hk
   refine ⟨⟨o,e,ex.1⟩,λ a e2=>?_⟩
   cases e2
   exact ⟨o,e,ex.2.1⟩
 | _=>exact False.elim ty
variable {o e:Expr} {es:List Expr} {to:TE} {t:TA} {name:Str} {apos cpos:Pos} {T id:String} {r:V->List V->Hp->VK->Prop}
end
end L2
namespace L2
open PySem PySem.Spec PyProof.Rows
noncomputable def MtM (X:Cx) (id:String) (r:V->List V->Hp->VK->Prop):Prop:=
 ∀(pins:List (Addr×Obj)) (s:Shared) (σ:St) (H:Hp) (x:V) (xs:List V) (v:Value) (us:List Value) (Q:VK),Inv X pins σ H s->RelV x v->Vals xs us->r x xs H Q->
  wpAny (model X.prog X.w) X.A (call (.builtin id) (v::us)) (EP X pins σ Q) X.xe s
theorem Vals.one:∀{x:V} {us:List Value},Vals [x] us->∃u,us=[u]/\RelV x u
 | _,_,.cons r .nil=>⟨_,rfl,r⟩
theorem Vals.two:∀{x y:V} {us:List Value},Vals [x,y] us->∃u v,us=[u,v]/\RelV x u/\RelV y v
 | _,_,_,.cons r (.cons q .nil)=>⟨_,_,rfl,r,q⟩
theorem Vals.zero:∀{us:List Value},Vals [] us->us=[]
 | _,.nil=>rfl
theorem Vals.dropLast {xs:List V} {us:List Value} (h:Vals xs us):Vals xs.dropLast us.dropLast:=by
 induction h with
 | nil=>exact .nil
 | cons r t ih=>
  cases t with
  | nil=>exact .nil
  | cons q t'=>exact .cons r ih
theorem Vals.eraseIdx:∀{xs:List V} {us:List Value} (i:Nat),Vals xs us->Vals (xs.eraseIdx i) (us.eraseIdx i)
 | _,_,_,.nil=>.nil
 | _,_,0,.cons _ t=>t
 | _,_,i+1,.cons r t=>.cons r (Vals.eraseIdx i t)
theorem Vals.reverse {xs:List V} {us:List Value} (h:Vals xs us):Vals xs.reverse us.reverse:=by
 induction h with
 | nil=>exact .nil
 | cons r t ih=>rw [List.reverse_cons,List.reverse_cons]; exact Vals.append ih (.cons r .nil)
theorem mR {α:Type} (l:List α):l.eraseIdx (l.length - 1)=l.dropLast:=by
 induction l with
 | nil=>rfl
 | cons a r ih=>
  cases r with
  | nil=>rfl
  | cons b r=>
   have e:(a::b::r).length - 1=((b::r).length - 1)+1:=by
    have h1:(a::b::r).length=r.length+2:=rfl
    have h2:(b::r).length=r.length+1:=rfl
    omega
   rw [e,List.eraseIdx_cons_succ,ih]
   all_goals rfl
theorem jd {α:Type}:∀(l:List α) (i:Nat),(l.eraseIdx i).length<=l.length
 | [],_=>Nat.le_refl _
 | _::_,0=>Nat.le_succ _
 | _::r,i+1=>Nat.succ_le_succ (jd r i)
section
variable {X:Cx} {pins:List (Addr×Obj)} {σ:St} {H:Hp} {s:Shared} {l b:Addr} {xs ys zs:List V}
theorem Inv.gm {its its':List Value} {n:Nat} {f:Array Value->Array Value} {t':Nat} (I:Inv X pins σ H s) (hH:H l=some (.lst xs))
  (e:s.heap.get? l=some {cls:=.type "list",data:=.seq its.toArray n}) (hf:f its.toArray=its'.toArray) (hv:Vals ys its') (hz:ys.length<=sizeLine) :
  Inv X pins σ (upd H l (.lst ys)) {s with heap:=s.heap.update l (Obj.mapSeq f),toks:=t'}:=by
 have q:=PySem.IsL.update e f
 rw [hf] at q
 refine I.write (x:=l) (e:=l) (by rw [hH]; exact trivial) (.inl rfl) (λ b' u hb hu=>(Heap.get?_update_other s.heap (Obj.mapSeq f) (Ne.symm hb)).trans hu) ⟨_,q⟩ ?_
 exact ⟨hz,its',_,hv,q⟩
theorem Inv.BC {its:List Value} {t':Nat} (I:Inv X pins σ H s) (hv:Vals ys its) (hz:ys.length<=sizeLine) :
  Inv X pins σ (upd H s.heap.objs.size (.lst ys)) {s with heap:=s.heap.push {cls:=.type "list",data:=.seq its.toArray},toks:=t'}:=
 I.laid (λ _ _ q=>Heap.get?_push_of_some _ q) (Nat.le_refl _) ⟨hz,its,0,hv,Heap.get?_push_size _ rfl⟩
theorem Inv.fresh (I:Inv X pins σ H s):H s.heap.objs.size=none:=I.hok.fresh (Nat.le_refl _)
theorem Inv.mS (I:Inv X pins σ H s) (hH:H l=some (.lst xs)):xs.length<=sizeLine/\∃(its:List Value) (n:Nat),Vals xs its/\xs.length=its.length/\s.heap.get? l=some {cls:=.type "list",data:=.seq its.toArray n}:=by
 obtain ⟨z,its,n,r,e⟩:=I.hok l _ hH
 exact ⟨z,its,n,r,r.length,e⟩
end
section
variable {X:Cx}
noncomputable def vB:V->List V->Hp->VK->Prop:=λ x vs H Q=>∃l xs y,x=.ref l/\vs=[y]/\H l=some (.lst xs)/\xs.length < sizeLine/\Q .non (upd H l (.lst (xs++[y])))
theorem je:MtM X "list.append" vB:=by
 intro pins s σ H x vs v us Q I rx rv h
 obtain ⟨l,xs,y,rfl,rfl,hH,hz,q⟩:=h
 cases rx
 obtain ⟨u,rfl,ru⟩:=rv.one
 obtain ⟨z,its,n,r,hl,e⟩:=I.mS hH
 refine call_meets F.slot_list_append ⟨_,e,rfl⟩ F.entry_list_append (F.args_list_append_2 _ _) (PySem.list_append l its.toArray n u (by rw [List.size_toArray]; omega)) ⟨e,?_⟩
 refine ⟨.non,_,I.gm (its':=its++[u]) hH e (by simp) (r.append (.cons ru .nil)) ?_,rfl,q⟩
 rw [List.length_append,List.length_singleton]
 omega
noncomputable def DE:V->List V->Hp->VK->Prop:=λ x vs H Q=>∃l xs y,x=.ref l/\vs=[]/\H l=some (.lst xs)/\xs[xs.length - 1]?=some y/\Q y (upd H l (.lst xs.dropLast))
theorem zx:MtM X "list.pop" DE:=by
 intro pins s σ H x vs v us Q I rx rv h
 obtain ⟨l,xs,y,rfl,rfl,hH,hy,q⟩:=h
 cases rx
 have hus:=rv.zero
 subst hus
 obtain ⟨z,its,n,r,hl,e⟩:=I.mS hH
 obtain ⟨u,hu,ru⟩:=r.get hy
 have hy':its.toArray[its.toArray.size - 1]?=some u:=by
  show its.toArray[its.length - 1]?=some u
  rw [<-Array.getElem?_toList,<-hl]
  exact hu
 refine call_meets F.slot_list_pop ⟨_,e,rfl⟩ F.entry_list_pop (F.args_list_pop_1 _) (MeetsSeq.list_pop_last l its.toArray n u hy' (by rw [List.size_toArray]; omega)) ⟨e,?_⟩
 refine ⟨y,_,I.gm (its':=its.dropLast) hH e ?_ r.dropLast ?_,ru,q⟩
 ·show its.toArray.eraseIdxIfInBounds (its.toArray.size - 1)=its.dropLast.toArray
  rw [List.size_toArray,List.eraseIdxIfInBounds_toArray,mR]
 ·rw [List.length_dropLast]
  omega
noncomputable def zy:V->List V->Hp->VK->Prop:=λ x vs H Q=>∃l xs i k y,x=.ref l/\vs=[.int i]/\H l=some (.lst xs)/\-(2^63)<=i/\i < 2^63/\seqIndex? i xs.length=some k/\xs[k]?=some y/\Q y (upd H l (.lst (xs.eraseIdx k)))
theorem rS:MtM X "list.pop" zy:=by
 intro pins s σ H x vs v us Q I rx rv h
 obtain ⟨l,xs,i,k,y,rfl,rfl,hH,h1,h2,hk,hy,q⟩:=h
 cases rx
 obtain ⟨u,rfl,ru⟩:=rv.one
 obtain ⟨t,rfl⟩:=ru
 obtain ⟨z,its,n,r,hl,e⟩:=I.mS hH
 obtain ⟨w,hw,rw'⟩:=r.get hy
 refine call_meets F.slot_list_pop ⟨_,e,rfl⟩ F.entry_list_pop (F.args_list_pop_2 _ _)
  (MeetsSeq.list_pop_at l its.toArray n i t k w (fitsIndex_both h1 h2) (by rw [List.size_toArray,<-hl]; exact hk) (by rw [<-Array.getElem?_toList]; exact hw) (by rw [List.size_toArray]; omega)) ⟨e,?_⟩
 refine ⟨y,_,I.gm (its':=its.eraseIdx k) hH e ?_ (r.eraseIdx k) ?_,rw',q⟩
 ·show its.toArray.eraseIdxIfInBounds k=(its.eraseIdx k).toArray
  rw [List.eraseIdxIfInBounds_toArray]
 ·have:=jd xs k
  omega
noncomputable def rT:V->List V->Hp->VK->Prop:=λ x vs H Q=>∃l xs,x=.ref l/\vs=[]/\H l=some (.lst xs)/\Q .non (upd H l (.lst xs.reverse))
theorem mT:MtM X "list.reverse" rT:=by
 intro pins s σ H x vs v us Q I rx rv h
 obtain ⟨l,xs,rfl,rfl,hH,q⟩:=h
 cases rx
 have hus:=rv.zero
 subst hus
 obtain ⟨z,its,n,r,hl,e⟩:=I.mS hH
 refine call_meets F.slot_list_reverse ⟨_,e,rfl⟩ F.entry_list_reverse (F.args_list_reverse_1 _) (AutoSeq1.list_reverse_list_0 l its.toArray n (by rw [List.size_toArray]; omega)) ⟨e,?_⟩
 refine ⟨.non,_,I.gm (its':=its.reverse) hH e (by simp) r.reverse ?_,rfl,q⟩
 rw [List.length_reverse]
 omega
noncomputable def zz:V->List V->Hp->VK->Prop:=λ x vs H Q=>∃l xs,x=.ref l/\vs=[]/\H l=some (.lst xs)/\Q .non (upd H l (.lst []))
theorem rV:MtM X "list.clear" zz:=by
 intro pins s σ H x vs v us Q I rx rv h
 obtain ⟨l,xs,rfl,rfl,hH,q⟩:=h
 cases rx
 have hus:=rv.zero
 subst hus
 obtain ⟨z,its,n,r,hl,e⟩:=I.mS hH
 refine call_meets F.slot_list_clear ⟨_,e,rfl⟩ F.entry_list_clear (F.args_list_clear_1 _) (AutoSeq1.list_clear_list_0 l its.toArray n (by rw [List.size_toArray]; omega)) ⟨e,?_⟩
 exact ⟨.non,_,I.gm (its':=[]) (ys:=[]) hH e rfl .nil (Nat.zero_le _),rfl,q⟩
end
section
variable {prog:Program} {w:World} {A:Around} {E:Value->Shared->Prop} {s:Shared}
end
section
variable {X:Cx}
end
end L2
namespace L2
open PySem PySem.Spec PyProof.Rows
section
variable {κ:Type} [DecidableEq κ]
noncomputable def gn (kvs:List (κ×V)) (k:κ):Option V:=(kvs.find? λ kv=>decide (kv.1=k)).map (·.2)
noncomputable def putK (kvs:List (κ×V)) (k:κ) (v:V):List (κ×V):=
 if (kvs.any λ kv=>decide (kv.1=k))=true then kvs.map (λ kv=>if kv.1=k then (kv.1,v) else kv) else kvs++[(k,v)]
theorem kJ {p:κ×V} {r:List (κ×V)} {k:κ} (e:p.1=k):gn (p::r) k=some p.2:=by simp [gn,List.find?_cons,e]
theorem kK {p:κ×V} {r:List (κ×V)} {k:κ} (e:¬p.1=k):gn (p::r) k=gn r k:=by simp [gn,List.find?_cons,e]
theorem kL (kvs:List (κ×V)) (k:κ) (v:V):(putK kvs k v).length<=kvs.length+1:=by
 unfold putK
 split
 ·rw [List.length_map]; omega
 ·rw [List.length_append,List.length_cons,List.length_nil]; omega
theorem cU.d8 {o:Option V} {u:Option Value} (r:cU o u):o.isSome=u.isSome:=by
 cases o with
 | none=>cases u with
  | none=>rfl
  | some _=>exact (show False from r).elim
 | some _=>cases u with
  | none=>exact (show False from r).elim
  | some _=>rfl
theorem KV.val {kvs:List (κ×V)} {vs:List (κ×Value)} (r:KV kvs vs) (k:κ):cU (gn kvs k) (valueAt vs k):=by
 unfold KV at r
 induction r with
 | nil=>exact True.intro
 | @cons p q ps qs h t ih=>
  obtain ⟨h1,h2⟩:=h
  by_cases e:p.1=k
  ·have e':q.1=k:=h1.symm.trans e
   have b:valueAt (q::qs) k=some q.2:=by simp [valueAt,List.find?_cons,e']
   rw [kJ e,b]; exact h2
  ·have e':¬q.1=k:=λ z=>e (h1.trans z)
   have b:valueAt (q::qs) k=valueAt qs k:=by simp [valueAt,List.find?_cons,e']
   rw [kK e,b]; exact ih
theorem KV.any {kvs:List (κ×V)} {vs:List (κ×Value)} (r:KV kvs vs) (k:κ):(kvs.any λ kv=>decide (kv.1=k))=vs.any λ kv=>decide (kv.1=k):=by
 unfold KV at r
 induction r with
 | nil=>rfl
 | cons h t ih=>rw [List.any_cons,List.any_cons,ih,h.1]
theorem KV.repl {kvs:List (κ×V)} {vs:List (κ×Value)} (r:KV kvs vs) (k:κ) {y:V} {u:Value} (ry:RelV y u) :
  KV (kvs.map λ kv=>if kv.1=k then (kv.1,y) else kv) (vs.map λ kv=>if kv.1=k then (kv.1,u) else kv):=by
 unfold KV at r ⊢
 induction r with
 | nil=>exact .nil
 | @cons p q ps qs h t ih=>
  rw [List.map_cons,List.map_cons]
  refine .cons ?_ ih
  obtain ⟨h1,h2⟩:=h
  by_cases e:p.1=k
  ·rw [if_pos e,if_pos (h1.symm.trans e)]; exact ⟨h1,ry⟩
  ·rw [if_neg e,if_neg (λ z=>e (h1.trans z))]; exact ⟨h1,h2⟩
theorem KV.put {kvs:List (κ×V)} {vs:List (κ×Value)} (r:KV kvs vs) (k:κ) {y:V} {u:Value} (ry:RelV y u):KV (putK kvs k y) (stored vs k u):=by
 unfold putK stored
 rw [r.any k]
 by_cases e:(vs.any λ kv=>decide (kv.1=k))=true
 ·rw [if_pos e,if_pos e]; exact r.repl k ry
 ·rw [if_neg e,if_neg e]; exact Paired.snoc r ⟨rfl,ry⟩
end
theorem kM {P:Program} {w:World} {k:Key} {u:Value} (r:RelV (kV k) u):(aR P w).is k u=true:=by
 cases k with
 | inl i=>obtain ⟨t,e⟩:=(show ∃t,u=Value.int i t from r); subst e; exact ko P w i t
 | inr x=>obtain ⟨t,e⟩:=(show ∃t,u=Value.str x t from r); subst e; exact kq P w x t
theorem jf {P:Program} {w:World}:∀{ks:List Key} {us:List Value},Vals (ks.map kV) us->ItemsAre (aR P w) ks us
 | [],_,r=>by rw [List.map_nil] at r; cases r; exact .nil
 | k::ks,_,r=>by
  rw [List.map_cons] at r
  cases r with
  | cons h t=>exact .cons (kM h) (jf t)
abbrev KT (H:Hp):List (List Key×V)->List (List Key×Addr×Value)->Prop:=Paired λ p q=>p.1=q.1/\H q.2.1=some (.tup (p.1.map kV))/\RelV p.2 q.2.2
theorem KT.val {H:Hp} {kvs:List (List Key×V)} {xs:List (List Key×Addr×Value)} (r:KT H kvs xs) (k:List Key):cU (gn kvs k) ((atKey xs k).map (·.2)):=by
 induction r with
 | nil=>exact True.intro
 | @cons p q ps qs h t ih=>
  obtain ⟨h1,_,h2⟩:=h
  by_cases e:p.1=k
  ·have e':q.1=k:=h1.symm.trans e
   have b:atKey (q::qs) k=some q.2:=by simp [atKey,List.find?_cons,e']
   rw [kJ e,b]; exact h2
  ·have e':¬q.1=k:=λ z=>e (h1.trans z)
   have b:atKey (q::qs) k=atKey qs k:=by simp [atKey,List.find?_cons,e']
   rw [kK e,b]; exact ih
section
variable {P:Program} {w:World} {H:Hp} {h:Heap} {a:Addr}
theorem xN {u:HO} (ok:HOk P w H h) (e:Rd H a u):aT P w H h a u:=e.ok ok
theorem oj {kvs:List (Key×V)} (ok:HOk P w H h) (e:Rd H a (.dK kvs)):kvs.length<=sizeLine/\(a==sysModules)=false/\∃vs,KV kvs vs/\h.DictOf (aR P w) a vs:=
 show aT P w H h a (.dK kvs) from xN ok e
theorem BD {kvs:List (Key×V)} (ok:HOk P w H h) (e:H a=some (.dK kvs)):kvs.length<=sizeLine/\(a==sysModules)=false/\∃vs,KV kvs vs/\h.DictOf (aR P w) a vs:=oj ok (.inl e)
theorem mU {ks:List Key} (ok:HOk P w H h) (e:H a=some (.tup (ks.map kV))):(tupleKind (aR P w)).is h ks a:=by
 obtain ⟨_,its,r,o,h1,h2,n,h3⟩:=(show aT P w H h a (.tup (ks.map kV)) from ok a _ e)
 exact ⟨o,its.toArray,n,h1,h2,h3,by simpa using jf r⟩
theorem xO {kvs:List (List Key×V)} (ok:HOk P w H h) (e:Rd H a (.dT kvs)):kvs.length<=sizeLine/\(a==sysModules)=false/\
  ∃xs,KT H kvs xs/\h.DictOfH (tupleKind (aR P w)) a xs:=by
 obtain ⟨z,y,xs,r,o,es,ep,h1,h2,h3,h4,h5⟩:=(show aT P w H h a (.dT kvs) from xN ok e)
 refine ⟨z,y,xs,r,o,es,ep,h1,h2,h3,h4,λ x hx=>?_,h5⟩
 have all:∀{l:List (List Key×V)} {m:List (List Key×Addr×Value)},KT H l m->∀x∈m,(tupleKind (aR P w)).is h x.1 x.2.1:=by
  intro l m q
  induction q with
  | nil=>intro x hx; exact nomatch hx
  | @cons p q ps qs hq t ih=>
   intro x hx
   rcases List.mem_cons.mp hx with e | hx
   ·subst e
    exact mU ok (by rw [<-hq.1]; exact hq.2.1)
   ·exact ih x hx
 exact all r x hx
end
noncomputable def vC (H:Hp) (a:Addr) (y:V) (r:Option V):Prop:=
 (∃kvs k,Rd H a (.dK kvs)/\y=kV k/\r=gn kvs k)\/∃kvs k b,Rd H a (.dT kvs)/\y=.ref b/\H b=some (.tup (k.map kV))/\r=gn kvs k
theorem vC.k {H:Hp} {a:Addr} {kvs:List (Key×V)} {k:Key} (e:H a=some (.dK kvs)):vC H a (kV k) (gn kvs k):=.inl ⟨kvs,k,.inl e,rfl,rfl⟩
section
variable {X:Cx} {pins:List (Addr×Obj)} {σ:St} {H:Hp} {s:Shared} {a:Addr} {y v:V} {u r:Value} {o:Option V} {A:Around} {E:Value->Shared->Prop}
theorem Inv.big (I:Inv X pins σ H s):sysModules < s.heap.objs.size:=by
 have h:mainGlobals < s.heap.objs.size:=(I.mod.glob.keeps I.bk).lt
 exact Nat.lt_trans (by decide) h
theorem DF {Q:Value->Shared->Prop} (hu:A.units+1 < cLine) (I:Inv X pins σ H s) (g:vC H a y o) (ry:RelV y u) (h:∀s',Inv X pins σ H s'->Q (.bool o.isSome) s') :
  wpAny (model X.prog X.w) A (compareOp .In u (.ref a)) Q E s:=by
 rcases g with ⟨kvs,k,e,ey,l⟩ | ⟨kvs,k,b,e,ey,eb,l⟩
 ·subst ey
  obtain ⟨z,hd,vs,rel,dd⟩:=oj I.hok e
  refine wpAny_in_of (kM ry) hd dd.mapOf ?_
  rw [<-(rel.val k).d8,<-l]
  exact h _ (I.tok _)
 ·subst ey
  cases (show u=Value.ref b from ry)
  obtain ⟨z,hd,xs,rel,dd⟩:=xO I.hok e
  refine wpAny_in_heap (tupleKind_room_in1 hu) (mU I.hok eb) hd dd ?_
  have q:=(rel.val k).d8
  rw [Option.isSome_map] at q
  rw [<-q,<-l]
  exact h _ (I.tok _)
theorem vD {Q:Value->Shared->Prop} (hu:A.units+1 < cLine) (I:Inv X pins σ H s) (g:vC H a y o) (ry:RelV y u) (h:∀s',Inv X pins σ H s'->Q (.bool (!o.isSome)) s') :
  wpAny (model X.prog X.w) A (compareOp .NotIn u (.ref a)) Q E s:=by
 rcases g with ⟨kvs,k,e,ey,l⟩ | ⟨kvs,k,b,e,ey,eb,l⟩
 ·subst ey
  obtain ⟨z,hd,vs,rel,dd⟩:=oj I.hok e
  refine wpAny_notIn_of (kM ry) hd dd.mapOf ?_
  rw [<-(rel.val k).d8,<-l]
  exact h _ (I.tok _)
 ·subst ey
  cases (show u=Value.ref b from ry)
  obtain ⟨z,hd,xs,rel,dd⟩:=xO I.hok e
  refine wpAny_notIn_heap (tupleKind_room_in1 hu) (mU I.hok eb) hd dd ?_
  have q:=(rel.val k).d8
  rw [Option.isSome_map] at q
  rw [<-q,<-l]
  exact h _ (I.tok _)
theorem vE {h':Heap} {t':Nat} {ob:HO} (I:Inv X pins σ H s) (mu:Mut (H a)) (hs:Heap.SameBut a s.heap h') (he:∃q,h'.get? a=some q) (new:aT X.prog X.w (upd H a ob) h' a ob) :
  Inv X pins σ (upd H a ob) {s with heap:=h',toks:=t'}:=
 I.write (x:=a) (e:=a) mu (.inl rfl) (λ b q hb z=>(hs.2 b hb).trans z) he new
theorem zA {P:Program} {w:World} {H':Hp} {h':Heap} {kvs:List (Key×V)} {vs:List (Key×Value)} (z:kvs.length<=sizeLine) (hd:(a==sysModules)=false) (rel:KV kvs vs) (dd:h'.DictOf (aR P w) a vs) :
  aT P w H' h' a (.dK kvs):=⟨z,hd,vs,rel,dd⟩
end
section
variable {X:Cx} {pins:List (Addr×Obj)} {σ:St} {H:Hp} {s:Shared} {a:Addr} {kvs:List (Key×V)} {k:Key} {u:Value} {A:Around} {E:Value->Shared->Prop}
end
section
variable {X:Cx} {o i e value:Expr} {pos pos' tpos:Pos} {td ty tv:TE}
end
theorem rW {P:Program} {w:World} {H:Hp} (h:Heap) (hb:sysModules < h.objs.size):aT P w H (h.push {cls:=.type "dict",data:=.dict #[]}) h.objs.size (.dK []):=
 ⟨Nat.zero_le _,beq_eq_false_iff_ne.mpr (Ne.symm (Nat.ne_of_lt hb)),[],.nil,Heap.DictOf.new h⟩
section
variable {X:Cx} {pos:Pos}
end
noncomputable def jK:List (TE×TE)->St->Hp->(List (V×V)->Hp->Prop)->Prop
 | [],_,H,Q=>Q [] H
 | (tk,tv)::r,σ,H,Q=>tk σ H λ x H1=>tv σ H1 λ y H2=>jK r σ H2 λ ps H3=>Q ((x,y)::ps) H3
abbrev VV:List (V×V)->List (Value×Value)->Prop:=Paired λ p q=>RelV p.1 q.1/\RelV p.2 q.2
noncomputable def PPs (X:Cx) (pos:Pos) (keys:List (Option Expr)) (values:List Expr) (trs:List (TE×TE)):Prop:=
 ∀(pins:List (Addr×Obj)) (s:Shared) (σ:St) (H:Hp) (Q:List (V×V)->Hp->Prop),Inv X pins σ H s->jK trs σ H Q->
  wpAny (model X.prog X.w) X.A (evalPairs (pairTrees keys values X.env pos)) (λ vs s'=>∃ps H',Inv X pins σ H' s'/\VV ps vs/\Q ps H') X.xe s
theorem vF {X:Cx} {pos:Pos}:PPs X pos [] [] []:=λ pins s σ H Q I h=>pairTrees_nil_walk ⟨[],H,I,.nil,h⟩
theorem rX {X:Cx} {pos:Pos} {k v:Expr} {ks:List (Option Expr)} {vs:List Expr} {tk tv:TE} {trs:List (TE×TE)} (hk:PE X k tk) (hv:PE X v tv) (hr:PPs X pos ks vs trs) :
  PPs X pos (some k::ks) (v::vs) ((tk,tv)::trs):=λ pins s σ H Q I h=>
 pairTrees_cons_walk (thn (hk pins s σ H _ I h) λ u s1 ⟨x,H1,I1,rx,q1⟩=>thn (hv pins s1 σ H1 _ I1 q1) λ w2 s2 ⟨y,H2,I2,ry,q2⟩=>
  thn (hr pins s2 σ H2 _ I2 q2) λ ws s3 ⟨ps,H3,I3,rel,q3⟩=>⟨(x,y)::ps,H3,I3,.cons ⟨rx,ry⟩ rel,q3⟩)
noncomputable def dj (kvs more:List (Key×V)):List (Key×V):=more.foldl (λ acc kv=>putK acc kv.1 kv.2) kvs
theorem KV.merge:∀{more:List (Key×V)} {rs:List (Key×Value)} {kvs:List (Key×V)} {vs:List (Key×Value)},KV more rs->KV kvs vs->KV (dj kvs more) (merged vs rs):=by
 intro more rs kvs vs r
 unfold KV at r
 induction r generalizing kvs vs with
 | nil=>intro q; exact q
 | @cons p q ps qs h t ih=>
  intro r0
  have e:KV (putK kvs p.1 p.2) (stored vs q.1 q.2):=by
   have:=r0.put p.1 h.2
   rw [<-h.1]; exact this
  exact ih e
theorem eK:∀(more kvs:List (Key×V)),(dj kvs more).length<=kvs.length+more.length
 | [],kvs=>by show kvs.length<=kvs.length+0; omega
 | p::r,kvs=>by
  have h1:=eK r (putK kvs p.1 p.2)
  have h2:=kL kvs p.1 p.2
  show (dj (putK kvs p.1 p.2) r).length<=_
  rw [List.length_cons]; omega
theorem gQ {P:Program} {w:World}:∀{kvs:List (Key×V)} {ws:List (Value×Value)},VV (kvs.map λ kv=>(kV kv.1,kv.2)) ws->∃rs,Carries (aR P w) ws rs/\KV kvs rs
 | [],_,r=>by rw [List.map_nil] at r; cases r; exact ⟨[],True.intro,.nil⟩
 | p::kvs,_,r=>by
  rw [List.map_cons] at r
  cases r with
  | @cons a b as bs h t=>
   obtain ⟨rs,c,q⟩:=gQ (P:=P) (w:=w) t
   obtain ⟨b1,b2⟩:=b
   exact ⟨(p.1,b2)::rs,⟨kM h.1,rfl,c⟩,.cons ⟨rfl,h.2⟩ q⟩
noncomputable def BE (trs:List (TE×TE)):TE:=fun σ H Q=>∀p,H p=none->jK trs σ (upd H p (.dK [])) λ ps H2=>H2 p=some (.dK [])/\∃kvs:List (Key×V),ps=kvs.map (λ kv=>(kV kv.1,kv.2))/\kvs.length<=15/\Q (.ref p) (upd H2 p (.dK (dj [] kvs)))
theorem vG {X:Cx} {pos:Pos} {keys:List (Option Expr)} {values:List Expr} {trs:List (TE×TE)} (h:PPs X pos keys values trs) (hall:keys.all (·.isSome)=true) (hl:keys.length=values.length) (h0:keys≠[])
  (h15:keys.length<=15):PE X (.Dict keys values pos) (BE trs):=by
 intro pins s σ H Q I q
 have hn:=I.hok.fresh (Nat.le_refl s.heap.objs.size)
 have I1:=I.laid (a:=s.heap.objs.size) (o:=.dK []) (h':=s.heap.push {cls:=.type "dict",data:=.dict #[]}) (t':=s.toks) (λ _ _ q=>Heap.get?_push_of_some _ q) (Nat.le_refl _) (rW s.heap I.big)
 refine wpAny_Dict_walk (knd:=aR X.prog X.w) hall hl h0 h15 (thn (h pins _ σ _ _ I1 (q _ hn)) λ ws s2 ⟨ps,H2,I2,rel,e,kvs,ep,lk,q2⟩=>?_)
 subst ep
 obtain ⟨rs,c,rk⟩:=gQ (P:=X.prog) (w:=X.w) rel
 obtain ⟨z,hd,vs0,r0,dd⟩:=BD I2.hok e
 cases r0
 refine ⟨rs,c,dd,λ h' dd' hs=>⟨.ref s.heap.objs.size,_,?_,rfl,q2⟩⟩
 have hz:(dj [] kvs).length<=sizeLine:=by
  have h1:=eK kvs []
  rw [List.length_nil] at h1
  rw [sizeLine_eq]; omega
 have he:∃q,h'.get? s.heap.objs.size=some q:=let ⟨q,_,_,hq,_⟩:=dd'; ⟨q,hq⟩
 exact vE I2 (by rw [e]; exact True.intro) hs he (zA hz hd (rk.merge .nil) dd')
section
variable {X:Cx} {pins:List (Addr×Obj)} {σ:St} {H:Hp} {s:Shared} {a:Addr} {y d:V} {u r:Value} {o:Option V} {A:Around} {E:Value->Shared->Prop}
end
section
variable {X:Cx} {o e f:Expr} {apos cpos:Pos} {td ty tx:TE}
end
section
variable {X:Cx} {pins:List (Addr×Obj)} {σ:St} {H:Hp} {s:Shared} {a:Addr} {kvs:List (Key×V)} {A:Around} {E:Value->Shared->Prop}
end
section
variable {X:Cx} {pins:List (Addr×Obj)} {σ:St} {H:Hp} {s:Shared} {a:Addr} {y:V} {u:Value} {A:Around} {E:Value->Shared->Prop}
end
end L2
namespace Att
open PySem PySem.W PySem.Calls PyProof.Rows
theorem gp {P:Params} {h:Heap}:∀(ns:List Int) (vs:List Value),WellAll P h vs (ns.map WData.int)->IntsAre vs ns:=by
 intro ns
 induction ns with
 | nil=>
  intro vs w
  rw [List.map_nil] at w
  cases w
  exact .nil
 | cons n ns ih=>
  intro vs w
  rw [List.map_cons] at w
  cases w with
  | cons a b=>
   cases a
   exact .cons _ _ (ih _ b)
theorem pZ {l:OpenLaw} {n:Nat} (hn:l.most=some n) {P:Params} {h:Heap} {args:List WData} {vals:List Value}
  (hpre:l.row.toRowW.claim.pre args=true) (hwl:WellAll P h vals args) :
  ∃a vs ns,vals=[Value.ref a]/\args=[WData.list (ns.map WData.int)]/\h.get? a=some {cls:=.type "list",data:=.seq vs.toArray}/\IntsAre vs ns/\ns.length<=n:=by
 have hsh:WShape.hasAll [] args [.list .int]=true:=(pre_splitW hpre).1
 have hc:l.pre.holds [] {args:=args}=true:=(pre_splitW hpre).2
 obtain ⟨d,r,rfl,h1,h2⟩:=hasAllW_cons hsh
 obtain rfl:=hasAllW_nil h2
 obtain ⟨xs,rfl,h3⟩:=hasW_list h1
 obtain ⟨ns,rfl⟩:=items_int h3
 have hlen:ns.length<=n:=by
  unfold OpenLaw.pre at hc
  have h4:(WTm.not (.lt (.lit (.int (n:Int))) (.len (.arg 0)))).holds [] {args:=[.list (ns.map .int)]}=true:=by
   have h4:=(holds_andW hc).1
   rw [hn] at h4
   exact h4
  have h5:=condW_of h4 (w_not (w_lt w_lit (w_len_list (w_arg rfl))))
  rw [List.length_map] at h5
  refine Nat.le_of_not_lt λ q=>?_
  have q':(n:Int) < ((ns.length:Nat):Int):=by omega
  first
   | (rw [decide_eq_true q'] at h5; exact absurd h5 (by decide))
   | (simp at h5; omega)
 cases hwl with
 | cons w1 w2=>
  cases w2
  cases w1 with
  | list ho hall=>exact ⟨_,_,ns,rfl,rfl,ho,gp ns _ hall,hlen⟩
theorem p5 (l:OpenLaw) (args:List WData):l.row.toRowW.claim.post args (.bool true) args=true:=
 postW_of (r:=l.row.toRowW) (X:=(true==true))
  (show WShape.has [] (.bool true) .bool=true by first | rfl | decide | simp [WShape.has,WShape.arms,WShape.armsAll])
  (show (WTm.eq .res (.lit (.bool true))).value [] {args:=args,res:=some (.bool true),after:=args}=some (.bool (true==true)) from w_eq_bool (w_res rfl) w_lit) rfl
theorem kN {l:OpenLaw} {n:Nat} {q:Program} {loose:List Str} {XP:(Str->Option Value)->Heap->Prop} {YP:World->Heap->Prop} {d:DefRec}
  (hn:l.most=some n) (hdf:d.params.defaults=[])
  (call:∀(w:World) (s₀ s₁:Shared) (mg mb:Str->Option Value) (fa:Addr) (o:Obj) (pm cd doc:Value) (a:Addr) (vs:List Value) (ns:List Int),
   Ground q loose [] XP w s₀ mg mb s₁.heap->YP w s₁.heap->
   s₁.heap.get? fa=some o->o.data=.func (docDef d.name d.params d.body d.scope pm cd doc)->s₁.heap.CodeRec cd d.name->mg d.name=some (.ref fa)->
   s₁.heap.get? a=some {cls:=.type "list",data:=.seq vs.toArray}->IntsAre vs ns->ns.length<=n->s₁.gens=#[]->
   codeAny (model l.prog w) callerA (.call (.ref fa) ⟨[.ref a],[]⟩) (λ r s'=>r=.ok (.ret (.bool true))/\OldK s₁.heap s'.heap/\s'.os=s₁.os/\AllBare s'.gens) s₁) :
  WalkO q loose XP YP l.row.toRowW d [] (λ f vs=>PySem.call f vs):=by
 intro w s₀ s₁ mg mb G Y fa o pm cd doc dV kV ho hd hcd hD hmg hg args vals as hpre hlay hrd hwl hlo
 obtain rfl:dV=.none:=Dflts.none hD hdf
 obtain rfl:kV=.none:=Dflts.noKw hD
 obtain ⟨a,vs,ns,rfl,rfl,hobj,hints,hlen⟩:=pZ hn hpre hwl
 refine enter_call (codeAny_mono (call w s₀ s₁ mg mb fa o pm cd doc a vs ns G Y ho (fd_plain hd) hcd hmg hobj hints hlen hg) λ r s' hq=>?_)
 obtain ⟨rfl,h2,h3,h4⟩:=hq
 exact ⟨.inl ⟨.bool true,.bool true,[],rfl,λ _=>rfl,.bool true,p5 l _,λ _=>⟨List.Pairwise.nil,λ _ hm=>(nomatch hm)⟩⟩,h2,h3,h4⟩
section
variable {prog:Program} {w:World} {A:Around} {E:Value->Shared->Prop} {s:Shared} {K:Frag}
end
end Att
namespace L2
open PySem PySem.Spec PyProof.Rows
theorem jg:∀{vs:List Value} {ns:List Int},IntsAre vs ns->Vals (ns.map V.int) vs
 | _,_,.nil=>.nil
 | _,_,.cons n t h=>.cons ⟨t,rfl⟩ (jg h)
noncomputable def zB (H:Hp):Prop:=∀b,H b=none\/∃o xs,H b=some (.frz o (.lst xs))
theorem rY {P:Program} {w:World} {K:PySem.W.Frag} {mg mb:Str->Option Value} {CX:CXT} {k:Nat} {fa a:Addr} {fd:FuncData} {x:Str} {sp:Sp} {s₁:Shared} {vs:List Value} {ns:List Int}
  (KX:K.In s₁.heap) (hns:s₁.heap.Ns mainGlobals mg) (hb:s₁.heap.Ns builtinsNs mb) (hbb:∀x:Str,x≠"__name__"->mb x=bootBuiltins x) (hlim:s₁.heap.NoLimit) (hg:s₁.gens=#[])
  (ha:s₁.heap.get? a=some {cls:=.type "list",data:=.seq vs.toArray}) (hi:IntsAre vs ns) (hl:ns.length<=sizeLine) (hr:bR k callerA)
  (F:∀base:Heap,K.In base->base.Ns mainGlobals mg->cV P w K mg base CX k fa fd [x] sp) (hbind:∀(s:Shared) (u:Value),BindsTo s fd ⟨[u],[]⟩ [(x,u)])
  (hsp:∀H:Hp,zB H->SqL K H a (ns.map V.int)->sp [.ref a] H (λ v _=>v=.bl true) λ _ _ _=>False)
  (hCX:∀H e s',CX [] H s₁ (λ _ _ _=>False) e s'->False) :
  codeAny (model P w) callerA (.call (.ref fa) ⟨[.ref a],[]⟩) (λ r s'=>r=.ok (.ret (.bool true))/\OldK s₁.heap s'.heap/\s'.os=s₁.os/\AllBare s'.gens) s₁:=by
 have rv:=jg hi
 have DG:=hi.length
 have core:∀H:Hp,zB H->SqL K H a (ns.map V.int)->HOk P w H s₁.heap->(∀b,H b≠none->b=a)->(H a≠none->K.lookup a=none)->
   codeAny (model P w) callerA (.call (.ref fa) ⟨[.ref a],[]⟩) (λ r s'=>r=.ok (.ret (.bool true))/\OldK s₁.heap s'.heap/\s'.os=s₁.os/\AllBare s'.gens) s₁:=by
  intro H hO hS hok hA hK
  have om:∀{b:Addr} {o:Obj},s₁.heap.get? b=some o->H b=none->(jy s₁.heap H).get? b=some o:=λ e n=>qX e n
  have noA:∀{b:Addr} {o:Obj} {es:Array DictEntry} {ep:Nat},s₁.heap.get? b=some o->o.data=.dict es ep->H b=none:=λ {b o es ep} e d=>by
   cases q:H b with
   | none=>rfl
   | some u=>
    have e':b=a:=hA b (by rw [q]; simp)
    subst e'
    rw [ha] at e; cases e
    have d':Data.seq vs.toArray _=Data.dict es ep:=d
    cases d'
  have nsK:∀{b:Addr} {m:Str->Option Value},s₁.heap.Ns b m->(jy s₁.heap H).Ns b m:=λ {b m} ⟨o,es,ep,e,d,r⟩=>⟨o,es,ep,om e (noA e d),d,r⟩
  have hKb:K.In (jy s₁.heap H):=λ b o e=>om (KX b o e) (by
   cases q:H b with
   | none=>rfl
   | some u=>
    have e':b=a:=hA b (by rw [q]; simp)
    subst e'
    rw [hK (by rw [q]; simp)] at e; cases e)
  have hM:Mod K mg (jy s₁.heap H):=⟨hKb,nsK hns,⟨mb,nsK hb,hbb⟩,let ⟨mc,h1,h2⟩:=hlim; ⟨mc,nsK h1,h2⟩⟩
  have e0:mG P w K mg (jy s₁.heap H) callerA [] s₁ H:=⟨rfl,hM,λ b o e=>uU e,Nat.le_of_eq (pO _ _),trivial,λ b hb=>absurd (show b∈([]:List Addr) from hb) (by simp),hok,.of_eq hg⟩
  refine codeAny_mono ((F _ hKb (nsK hns)).run callerA [] s₁ H ⟨[.ref a],[]⟩ [.ref a] [.ref a] _ _ hr e0 (hbind s₁ (.ref a)) (.cons rfl .nil) (hsp H hO hS)) λ r s' h=>?_
  cases r with
  | error e=>exact (hCX H e s' h).elim
  | ok fl=>
   cases fl with
   | next=>exact False.elim h
   | brk=>exact False.elim h
   | cont=>exact False.elim h
   | ret u=>
    obtain ⟨v,H',os,bare,un,hok',r',q⟩:=h
    have q':v=.bl true:=q
    subst q'
    obtain rfl:u=Value.bool true:=r'
    refine ⟨rfl,OldK.of_keep λ b o e=>?_,os,bare⟩
    cases q:H b with
    | none=>exact un.keep b o e q (by intro z; exact absurd (show b∈([]:List Addr) from z) (by simp)) (by simp)
    | some u=>
     rcases hO b with z | ⟨ob,xs,z⟩
     ·rw [q] at z; cases z
     ·have z2:=un.gi b ob _ z
      obtain ⟨e1,_⟩:=hok b _ z
      obtain ⟨e2,_⟩:=hok' b _ z2
      rw [e] at e1; cases e1
      exact e2
 cases hk:K.lookup a with
 | some o=>
  have e:=KX a o hk
  rw [ha] at e
  cases e
  refine core (λ _=>none) (λ _=>.inl rfl) (.inr ⟨_,vs.toArray,_,hk,rfl,rfl,rfl,by rw [List.size_toArray,DG]; exact hl,by simpa using rv⟩) (λ b u z=>by have z':(none:Option HO)=some u:=z; cases z') (λ b z=>absurd rfl z) λ z=>absurd rfl z
 | none=>
  refine core (λ b=>if b=a then some (.frz {cls:=.type "list",data:=.seq vs.toArray} (.lst (ns.map V.int))) else none) (λ b=>?_) (.inl (.inr ⟨{cls:=.type "list",data:=.seq vs.toArray},if_pos rfl⟩)) (λ b u z=>?_) (λ b z=>?_) λ _=>hk
  ·by_cases hb:b=a
   ·exact .inr ⟨_,_,if_pos hb⟩
   ·exact .inl (if_neg hb)
  ·by_cases hb:b=a
   ·have z':=(if_pos hb).symm.trans z
    cases z'
    subst hb
    exact ⟨ha,by rw [List.length_map]; exact hl,vs,_,rv,ha⟩
   ·have z':=(if_neg hb).symm.trans z
    cases z'
  ·by_cases hb:b=a
   ·exact hb
   ·exact absurd (if_neg hb) z
end L2
namespace L2
open PySem PySem.Spec PyProof.Rows
theorem vH {l:PySem.W.OpenLaw} {n k:Nat} {q:Program} {loose:List Str} {XP:(Str->Option Value)->Heap->Prop} {YP:World->Heap->Prop} {d:DefRec} {K:Params->PySem.W.Frag} {CX:World->CXT} {sp:World->Sp} {x:Str}
  (hn:l.most=some n) (hn2:n<=sizeLine) (hdf:d.params.defaults=[]) (hr:bR k callerA)
  (hY:∀(w:World) (h:Heap),YP w h->(K w.params).In h)
  (F:∀(w:World) (mg:Str->Option Value) (fa:Addr) (h:Heap),(K w.params).In h->h.Ns mainGlobals mg->mg d.name=some (.ref fa)->
   ∃fd:FuncData,(∀(s:Shared) (u:Value),BindsTo s fd ⟨[u],[]⟩ [(x,u)])/\
    ∀base:Heap,(K w.params).In base->base.Ns mainGlobals mg->cV l.prog w (K w.params) mg base (CX w) k fa fd [x] (sp w))
  (hsp:∀(w:World) (H:Hp) (a:Addr) (ns:List Int),ns.length<=n->zB H->SqL (K w.params) H a (ns.map V.int)->sp w [.ref a] H (λ v _=>v=.bl true) λ _ _ _=>False)
  (hCX:∀(w:World) (H:Hp) (s:Shared) (e:Value) (s':Shared),CX w [] H s (λ _ _ _=>False) e s'->False) :
  PySem.W.WalkO q loose XP YP l.row.toRowW d [] (λ f vs=>PySem.call f vs):=by
 refine Att.kN hn hdf λ w s₀ s₁ mg mb fa o pm cd doc a vs ns G Y ho hd hcd hmg hobj hints hlen hg=>?_
 have KX:=hY w _ Y
 obtain ⟨fd,hb,hF⟩:=F w mg fa _ KX G.T.g hmg
 exact rY KX G.T.g G.T.b G.T.builtins G.T.nolimit hg hobj hints (Nat.le_trans hlen hn2) hr hF hb (λ H hO hS=>hsp w H a ns hlen hO hS) λ H e s'=>hCX w H s₁ e s'
end L2
namespace L2
open PySem PySem.Spec PyProof.Rows
noncomputable def inClass (s:Stmt) (j:Nat):Stmt:=match s with
 | .ClassDef _ _ _ body _ _ _ _ _ _ _=>body.getD j (.Pass ⟨0,0,0,0⟩)
 | _=>.Pass ⟨0,0,0,0⟩
noncomputable def d9 (s:Stmt):Arguments:=match s with
 | .FunctionDef _ a _ _ _ _ _ _ _ _=>a
 | _=>{posonlyargs:=[],args:=[],vararg:=none,kwonlyargs:=[],kw_defaults:=[],kwarg:=none,defaults:=[]}
noncomputable def cy (s:Stmt):List Stmt:=match s with
 | .FunctionDef _ _ b _ _ _ _ _ _ _=>b
 | _=>[]
noncomputable def aP (s:Stmt):Scope:=match s with
 | .FunctionDef _ _ _ _ _ _ sc _ _ _=>sc
 | _=>{kind:=.function,names:=[],isGenerator:=false,isCoroutine:=false}
abbrev CX0:CXT:=λ _ _ _ _ _ _=>False
abbrev E0:XK:=λ _ _ _=>False
theorem kO {X:Cx}:Passes CX0 X E0:=λ _ _ _ _ _ _ _ h=>h.elim
structure Fun (K:PySem.W.Frag) (x qual:Str) (st:Stmt) (f:Addr) (fd:FuncData):Prop where
 ex:∃(oc:Value) (od:Option Addr) (kV doc pm:Value) (an:Option Addr) (cdv ct:Value) (osl:Array (Option Value)),
  fd=PySem.W.fnOf x qual (d9 st) (cy st) (aP st) .none kV doc pm an cdv ct/\K.lookup f=some ⟨oc,od,.func fd,osl⟩/\PySem.W.codeIn K cdv qual=true
 kp:PySem.W.keepIn K (.ref f)=true
section
variable {P:Program} {w:World} {K:PySem.W.Frag} {mg:Str->Option Value} {base:Heap}
theorem Fun.ok {x qual:Str} {st:Stmt} {f:Addr} {fd:FuncData} {N ps:List Str} {k:Nat} {sp:Sp} (F:Fun K x qual st f fd) (S:gz N ps (aP st)) (len:∀vs H Q E,sp vs H Q E->vs.length=ps.length)
  (hbody:∀(cdv:Value) (A:Around) (outer:List Env) (s:Shared) (H:Hp) (vs:List V) (Q:VK) (E:XK),bR k (A.deeper (envOfC qual (aP st) s.heap.objs.size f cdv))->sp vs H Q E->
   ∃t,PSs (mH CX0 P w K mg base N qual (aP st) f cdv A outer s H E).nox (cy st) t/\t {nx:=λ _ H'=>Q .non H',rt:=Q} (start N vs) H):cV P w K mg base CX0 (k+1) f fd ps sp:=by
 obtain ⟨oc,od,kV,doc,pm,an,cdv,ct,osl,rfl,lk,hcd⟩:=F.ex
 refine Bx lk hcd S len λ A outer s H vs Q E hr hsp=>?_
 obtain ⟨t,h,q⟩:=hbody cdv A outer s H vs Q E hr hsp
 exact ⟨t,h.nox,q⟩
theorem zC {x qual:Str} {st:Stmt} {f:Addr} {oc:Value} {od an:Option Addr} {osl:Array (Option Value)} {kV doc pm cdv ct:Value} (l:K.lookup f=some ⟨oc,od,.func (PySem.W.fnOf x qual (d9 st) (cy st) (aP st) .none kV doc pm an cdv ct),osl⟩)
  (c:PySem.W.codeIn K cdv qual=true) (k:PySem.W.keepIn K (.ref f)=true):Fun K x qual st f (PySem.W.fnOf x qual (d9 st) (cy st) (aP st) .none kV doc pm an cdv ct):=⟨⟨oc,od,kV,doc,pm,an,cdv,ct,osl,rfl,l,c⟩,k⟩
end
section
variable {X:Cx}
end
section
variable {κ:Type} [DecidableEq κ]
end
end L2
end
section
namespace L2
open PySem PySem.Spec PyProof.Rows
section
variable {prog:Program} {w:World} {A:Around} {R:Result->Shared->Prop} {s:Shared}
end
noncomputable def clr:List Nat->St->St
 | [],σ=>σ
 | j::r,σ=>clr r (σ.set j none)
theorem oq:∀(js:List Nat) (σ:St),(clr js σ).length=σ.length
 | [],_=>rfl
 | j::r,σ=>by rw [clr,oq r,List.length_set]
theorem kP:∀{js:List Nat} {σ:St} {i:Nat} {v:V},(clr js σ)[i]?=some (some v)->σ[i]?=some (some v)/\i∉js
 | [],_,_,_,h=>⟨h,by simp⟩
 | j::r,σ,i,v,h=>by
  obtain ⟨h1,h2⟩:=kP (js:=r) h
  by_cases e:j=i
  ·subst e
   rw [List.getElem?_set] at h1
   rw [if_pos rfl] at h1
   split at h1<;>cases h1
  ·rw [List.getElem?_set_ne e] at h1
   exact ⟨h1,λ hm=>(List.mem_cons.mp hm).elim (λ q=>e q.symm) h2⟩
noncomputable def bS (env:Env):List (Str×NameKind)->List (Str×Addr)->List (Str×Addr)
 | [],acc=>acc
 | (n,k)::r,acc=>bS env r (if k==.free then (match env.cells.lookup n with | some c=>(n,c)::acc | none=>acc) else acc)
theorem eL {env:Env}:∀(names:List (Str×NameKind)) (acc:List (Str×Addr)),(∀y∈names,y.2=.free->∃c,env.cells.lookup y.1=some c)->
  (forIn (m:=Sem) names acc λ x r=>match x with | (name,kind)=>if (kind==NameKind.free)=true then do let a <-cellOf env name; pure (ForInStep.yield ((name,a)::r)) else pure (ForInStep.yield r))=pure (bS env names acc)
 | [],acc,_=>rfl
 | (n,k)::r,acc,h=>by
  rw [List.forIn_cons]
  have hr:=λ acc=>eL r acc λ y hy=>h y (List.mem_cons_of_mem _ hy)
  by_cases hk:k=.free
  ·subst hk
   obtain ⟨c,e⟩:=h (n,.free) List.mem_cons_self rfl
   have e:env.cells.lookup n=some c:=e
   simp only [beq_self_eq_true,if_true,cellOf,e,pure_bind,bS]
   exact hr _
  ·have hb:(k==NameKind.free)=false:=by simpa using hk
   simp only [hb,Bool.false_eq_true,if_false,pure_bind,bS]
   exact hr _
theorem iN {scope:Scope} {env:Env} (h:∀y∈scope.names,y.2=.free->∃c,env.cells.lookup y.1=some c):closureFor scope env=pure (bS env scope.names []):=by
 have q:=eL (env:=env) scope.names [] h
 simp only [closureFor]
 first
  | (rw [q]; rfl)
  | (simp only [pure_bind,bind_pure_comp,map_pure] at q ⊢; rw [q]; rfl)
  | exact (congrArg (· >>= pure) q)
  | trace_state
theorem fN {env:Env} {x:Str} {c:Addr}:∀(names:List (Str×NameKind)) (acc:List (Str×Addr)),(∀c,acc.lookup x=some c->env.cells.lookup x=some c)->(bS env names acc).lookup x=some c->env.cells.lookup x=some c
 | [],acc,h,e=>h _ e
 | (n,k)::r,acc,h,e=>by
  refine fN r _ ?_ e
  intro c' e'
  split at e'
  ·split at e'
   ·rename_i c2 e2
    by_cases hx:x=n
    ·subst hx
     simp only [List.lookup_cons,beq_self_eq_true] at e'
     cases e'
     exact e2
    ·have hb:(x==n)=false:=by simpa using hx
     simp only [List.lookup_cons,hb] at e'
     exact h _ e'
   ·exact h _ e'
  ·exact h _ e'
theorem jh {env:Env} {x:Str}:∀(names:List (Str×NameKind)) (acc:List (Str×Addr)),(∃c,acc.lookup x=some c)->∃c,(bS env names acc).lookup x=some c
 | [],acc,h=>h
 | (n,k)::r,acc,h=>by
  refine jh r _ ?_
  split
  ·split
   ·rename_i c2 e2
    by_cases hx:x=n
    ·subst hx
     exact ⟨c2,by simp [List.lookup_cons]⟩
    ·have hb:(x==n)=false:=by simpa using hx
     obtain ⟨c,e⟩:=h
     exact ⟨c,by simp only [List.lookup_cons,hb]; exact e⟩
   ·exact h
  ·exact h
theorem fO {env:Env} {x:Str}:∀(names:List (Str×NameKind)) (acc:List (Str×Addr)),(x,NameKind.free)∈names->(∃c,env.cells.lookup x=some c)->∃c,(bS env names acc).lookup x=some c
 | (n,k)::r,acc,hm,⟨c,e⟩=>by
  rcases List.mem_cons.mp hm with q | q
  ·cases q
   refine jh r _ ⟨c,?_⟩
   simp only [beq_self_eq_true,if_true,e,List.lookup_cons]
  ·exact fO r _ q ⟨c,e⟩
structure eT (N:List Str) (js:List Nat) (scope osc:Scope):Prop where
 kind:scope.kind=.function
 cell:∀y∈scope.names,y.2=.cell->scope.names.lookup y.1=some .cell
 loc:∀y∈scope.names,y.2=.local->scope.names.lookup y.1=some .local
 own:∀p∈N.zipIdx,(scope.names.lookup p.1=some .local\/scope.names.lookup p.1=some .cell)->p.2∈js
 free:∀y∈scope.names,y.2=.free->osc.names.lookup y.1=some .cell\/osc.names.lookup y.1=some .free
theorem cC {env:Env}:∀{names:List (Str×NameKind)} {x:Str} {k':NameKind},
  (names.map λ (n,k)=>if (k==NameKind.free&&env.scope.kind==.function&&env.kindOf n==some .cell) then (n,NameKind.cell) else (n,k)).lookup x=some k'->
  ∃k,names.lookup x=some k/\(k'=k\/(k=.free/\k'=.cell))
 | [],_,_,h=>by simp at h
 | (n,k)::r,x,k',h=>by
  have ih:=@cC env r x k'
  have h:List.lookup x ((if (k==NameKind.free&&env.scope.kind==.function&&env.kindOf n==some .cell)=true then (n,NameKind.cell) else (n,k))::(r.map λ (n,k)=>if (k==NameKind.free&&env.scope.kind==.function&&env.kindOf n==some .cell) then (n,NameKind.cell) else (n,k)))=some k':=h
  by_cases hc:(k==NameKind.free&&env.scope.kind==.function&&env.kindOf n==some .cell)=true
  ·rw [if_pos hc] at h
   have hk:k=.free:=by
    simp only [Bool.and_eq_true] at hc
    simpa using hc.1.1
   cases hx:x==n with
   | true=>
    simp only [List.lookup_cons,hx] at h
    cases h
    exact ⟨k,by simp [List.lookup_cons,hx],.inr ⟨hk,rfl⟩⟩
   | false=>
    simp only [List.lookup_cons,hx] at h
    obtain ⟨k2,e,r2⟩:=ih h
    exact ⟨k2,by simp only [List.lookup_cons,hx]; exact e,r2⟩
  ·rw [if_neg hc] at h
   cases hx:x==n with
   | true=>
    simp only [List.lookup_cons,hx] at h
    cases h
    exact ⟨k,by simp [List.lookup_cons,hx],.inl rfl⟩
   | false=>
    simp only [List.lookup_cons,hx] at h
    obtain ⟨k2,e,r2⟩:=ih h
    exact ⟨k2,by simp only [List.lookup_cons,hx]; exact e,r2⟩
abbrev Cx.comp (X:Cx) (scope:Scope) (cl:List (Str×Addr)) (s₀:Shared) (H₀:Hp) (fp:List Addr) (pins:List (Addr×Obj)):Cx:=
 {X with s₀:=s₀,H₀:=H₀,env:=compEnvC scope cl s₀.heap.objs.size X.env,outer:=X.stack,stack:=X.stack,ex:=fp,fn:=λ x=>scope.names.lookup x==some .cell,pn:=X.pn++pins,xe:=λ _ _=>False}
section
variable {X:Cx} {pins:List (Addr×Obj)} {σ:St} {H:Hp} {s:Shared} {scope:Scope} {js:List Nat} {fp:List Addr}
theorem gR (ok:eT X.N js scope X.env.scope) {x:Str} (hx:(relabel scope X.env).names.lookup x=some .cell\/(relabel scope X.env).names.lookup x=some .free) :
  scope.names.lookup x=some .cell\/(scope.names.lookup x=some .free/\(x,NameKind.free)∈scope.names/\(X.env.kindOf x=some .cell\/X.env.kindOf x=some .free)):=by
 have k:∃k',(relabel scope X.env).names.lookup x=some k'/\(k'=.cell\/k'=.free):=by
  rcases hx with h | h
  ·exact ⟨_,h,.inl rfl⟩
  ·exact ⟨_,h,.inr rfl⟩
 obtain ⟨k',h,hk⟩:=k
 obtain ⟨k,e,r⟩:=cC h
 have fr:k=.free->scope.names.lookup x=some .cell\/(scope.names.lookup x=some .free/\(x,NameKind.free)∈scope.names/\(X.env.kindOf x=some .cell\/X.env.kindOf x=some .free)):=λ hf=>by
  subst hf
  exact .inr ⟨e,PySem.mem_of_lookup e,ok.free _ (PySem.mem_of_lookup e) rfl⟩
 rcases r with r | r
 ·subst r
  rcases hk with z | z
  ·subst z; exact .inl e
  ·exact fr z
 ·exact fr r.1
theorem zD {x:Str}:∀{names:List (Str×NameKind)} {n:Nat} {acc:List (Str×Addr)},(∀y∈names,y.2=.cell->y.1≠x)->(cellsFrom n names acc).lookup x=acc.lookup x:=by
 intro names
 induction names with
 | nil=>intro n acc _; rw [cellsFrom.eq_def]
 | cons y r ih=>
  intro n acc h
  rw [cellsFrom.eq_def]
  obtain ⟨nm,k⟩:=y
  have hr:=λ y hy=>h y (List.mem_cons_of_mem _ hy)
  by_cases hk:k=.cell
  ·have hb:(k==NameKind.cell)=true:=by simpa using hk
   simp only [hb,if_true]
   rw [ih hr]
   have:=h (nm,k) List.mem_cons_self hk
   have hx:(x==nm)=false:=by simpa using this.symm
   simp only [List.lookup_cons,hx]
  ·have hb:(k==NameKind.cell)=false:=by simpa using hk
   simp only [hb,Bool.false_eq_true,if_false]
   exact ih hr
structure rZ (n:Nat) (h:Heap) (cells:List (Str×Addr)):Prop where
 below:∀x c,cells.lookup x=some c->c < n
 inj:∀x y c,cells.lookup x=some c->cells.lookup y=some c->x=y
 cell:∀x c,cells.lookup x=some c->∃v,h.IsCell c v
theorem BF {lo:Nat} {base:List (Str×Addr)}:∀{names:List (Str×NameKind)} {h:Heap} {acc:List (Str×Addr)},rZ h.objs.size h acc->lo<=h.objs.size->(∀x c,acc.lookup x=some c->base.lookup x=some c\/lo<=c)->
  rZ (pushCells h names).objs.size (pushCells h names) (cellsFrom h.objs.size names acc)/\∀x c,(cellsFrom h.objs.size names acc).lookup x=some c->base.lookup x=some c\/lo<=c:=by
 intro names
 induction names with
 | nil=>intro h acc F _ hb; rw [cellsFrom.eq_def,pushCells.eq_def]; exact ⟨F,hb⟩
 | cons y r ih=>
  intro h acc F hlo hb
  rw [cellsFrom.eq_def,pushCells.eq_def]
  obtain ⟨nm,k⟩:=y
  by_cases hk:k=.cell
  ·have hbk:(k==NameKind.cell)=true:=by simpa using hk
   simp only [hbk,if_true]
   have hsz:(h.push {cls:=.type "cell",data:=.cell none}).objs.size=h.objs.size+1:=Heap.size_push ..
   rw [<-hsz]
   refine ih ⟨λ x c e=>?_,λ x y c e1 e2=>?_,λ x c e=>?_⟩ (by rw [hsz]; omega) λ x c e=>?_
   ·rw [hsz]
    by_cases hx:x=nm
    ·subst hx; simp only [List.lookup_cons,beq_self_eq_true] at e; cases e; exact Nat.lt_succ_self _
    ·have hx:(x==nm)=false:=by simpa using hx
     simp only [List.lookup_cons,hx] at e
     exact Nat.lt_succ_of_lt (F.below x c e)
   ·by_cases hx:x=nm
    ·by_cases hy:y=nm
     ·exact hx.trans hy.symm
     ·subst hx
      have hy:(y==x)=false:=by simpa using hy
      simp only [List.lookup_cons,beq_self_eq_true] at e1
      simp only [List.lookup_cons,hy] at e2
      cases e1
      exact absurd (F.below y _ e2) (Nat.lt_irrefl _)
    ·have hx':(x==nm)=false:=by simpa using hx
     simp only [List.lookup_cons,hx'] at e1
     by_cases hy:y=nm
     ·subst hy
      simp only [List.lookup_cons,beq_self_eq_true] at e2
      cases e2
      exact absurd (F.below x _ e1) (Nat.lt_irrefl _)
     ·have hy:(y==nm)=false:=by simpa using hy
      simp only [List.lookup_cons,hy] at e2
      exact F.inj x y c e1 e2
   ·by_cases hx:x=nm
    ·subst hx; simp only [List.lookup_cons,beq_self_eq_true] at e; cases e
     exact ⟨none,_,Heap.get?_push_size _ rfl,rfl⟩
    ·have hx:(x==nm)=false:=by simpa using hx
     simp only [List.lookup_cons,hx] at e
     obtain ⟨v,o,ho,hd⟩:=F.cell x c e
     exact ⟨v,o,Heap.get?_push_of_some _ ho,hd⟩
   ·by_cases hx:x=nm
    ·subst hx; simp only [List.lookup_cons,beq_self_eq_true] at e; cases e; exact .inr hlo
    ·have hx:(x==nm)=false:=by simpa using hx
     simp only [List.lookup_cons,hx] at e
     exact hb x c e
  ·have hbk:(k==NameKind.cell)=false:=by simpa using hk
   simp only [hbk,Bool.false_eq_true,if_false]
   exact ih F hlo hb
theorem zE {x:Str} {lo:Nat}:∀{names:List (Str×NameKind)} {n:Nat} {acc:List (Str×Addr)} {c:Addr},lo<=n->((x,NameKind.cell)∈names\/∀c,acc.lookup x=some c->lo<=c)->(cellsFrom n names acc).lookup x=some c->lo<=c:=by
 intro names
 induction names with
 | nil=>intro n acc c _ h e; rw [cellsFrom.eq_def] at e; exact (h.resolve_left (by simp)) c e
 | cons y r ih=>
  intro n acc c hn h e
  rw [cellsFrom.eq_def] at e
  obtain ⟨nm,k⟩:=y
  by_cases hk:k=.cell
  ·have hb:(k==NameKind.cell)=true:=by simpa using hk
   simp only [hb,if_true] at e
   refine ih (Nat.le_succ_of_le hn) ?_ e
   by_cases hx:x=nm
   ·subst hx
    refine .inr λ c e=>?_
    simp only [List.lookup_cons,beq_self_eq_true] at e
    cases e; exact hn
   ·rcases h with h | h
    ·rcases List.mem_cons.mp h with q | q
     ·cases q; exact absurd rfl hx
     ·exact .inl q
    ·refine .inr λ c e=>h c ?_
     have hx:(x==nm)=false:=by simpa using hx
     simpa only [List.lookup_cons,hx] using e
  ·have hb:(k==NameKind.cell)=false:=by simpa using hk
   simp only [hb,Bool.false_eq_true,if_false] at e
   refine ih hn ?_ e
   rcases h with h | h
   ·rcases List.mem_cons.mp h with q | q
    ·cases q; exact absurd rfl hk
    ·exact .inl q
   ·exact .inr h
structure CF (X:Cx) (scope:Scope) (n:Nat) (h:Heap) (cells:List (Str×Addr)):Prop where
 inj:∀x y c,cells.lookup x=some c->cells.lookup y=some c->x=y
 cell:∀x c,cells.lookup x=some c->∃v,h.IsCell c v
 old:∀x c,cells.lookup x=some c->X.env.cells.lookup x=some c\/n < c
 has:∀x,scope.names.lookup x=some .cell->∃c,cells.lookup x=some c
 out:∀x,scope.names.lookup x=some .free->cells.lookup x=(bS X.env scope.names []).lookup x
 own:∀x c,scope.names.lookup x=some .cell->cells.lookup x=some c->n<=c
theorem Inv.comp (I:Inv X pins σ H s) (ok:eT X.N js scope X.env.scope) (hf:∀b∈fp,fL X pins H b) {h₁:Heap} {m₁:Str->Option Value} {tk:Nat} {cells:List (Str×Addr)}
  (hfs:∀b∈fp,b < s.heap.objs.size) (hn:h₁.Ns s.heap.objs.size m₁) (hk:∀b o,s.heap.get? b=some o->h₁.get? b=some o) (hm:∀x,m₁ x=none) (F:CF X scope s.heap.objs.size h₁ cells) :
  Inv (X.comp scope cells s H fp pins) [] (clr js σ) H {s with heap:=h₁,toks:=tk}:=by
 have has:∀x,(x,NameKind.free)∈scope.names->∃c,X.env.cells.lookup x=some c:=λ x hx=>I.ok.has x (ok.free _ hx rfl)
 have sub:∀x c,(bS X.env scope.names []).lookup x=some c->X.env.cells.lookup x=some c:=λ x c e=>fN _ _ (by simp) e
 have stk:=I.jz
 have hlt:=I.lt
 refine ⟨⟨I.mod,ok.kind,I.ok.glob,I.ok.blt,Nat.le_refl _,F.inj,λ x hx=>?_,λ x c z e=>F.own x c (by simpa using z) e,I.ok.hd,I.ok.frames,.inl rfl,λ b hb=>⟨Nat.ne_of_lt (hfs b hb),λ x c e=>?_⟩,
  λ b o e=>I.bs b o e,Nat.le_trans I.ok.bsz I.sz,λ b o e hb=>?_,λ b hb z=>?_,I.stack,λ b hb=>I.nY b hb⟩,rfl,I.bare,Un.kept hk,⟨m₁,hn,λ i x v e1 e2 e3=>?_⟩,λ x c e=>F.cell x c e,I.hok.fresh (Nat.le_refl _),λ x c e=>?_,λ p hp=>?_,I.hok.kept hk,?_⟩
 ·rcases gR ok hx with h1 | ⟨h1,h2,h3⟩
  ·exact F.has x h1
  ·show ∃c,cells.lookup x=some c
   rw [F.out x h1]
   exact fO _ _ h2 (has x h2)
 ·rcases F.old x c e with e | e
  ·exact (hf b hb).2.2.2.2.1 x c e
  ·exact Nat.ne_of_gt (Nat.lt_trans (hfs b hb) e)
 ·have q:=(hf b hb).2.2.2.1
  rcases q with q | q
  ·exact I.ok.noex b o e q
  ·exact absurd (Heap.lt_size e) (Nat.not_lt.mpr (Nat.le_trans I.ok.bsz q))
 ·rcases List.mem_cons.mp (stk b z) with q | q
  ·exact (hf b hb).2.1 q
  ·exact (hf b hb).2.2.1 q
 ·obtain ⟨c1,c2⟩:=kP e2
  have e3:(relabel scope X.env).names.lookup x=some .local\/(relabel scope X.env).names.lookup x=some .cell\/(relabel scope X.env).names.lookup x=some .free:=e3
  have xP:∀{P:Prop},(scope.names.lookup x=some .local\/scope.names.lookup x=some .cell)->P:=λ ek=>absurd (ok.own (x,i) (by rw [List.mem_zipIdx_iff_getElem?]; exact e1) ek) c2
  rcases e3 with e3 | e3
  ·obtain ⟨k,ek,r⟩:=cC e3
   have:k=.local:=by
    rcases r with r | ⟨_,r⟩
    ·exact r.symm
    ·cases r
   subst this
   exact xP (.inl ek)
  ·rcases gR ok e3 with h1 | ⟨h1,h2,h3⟩
   ·exact xP (.inr h1)
   obtain ⟨m,hm0,hl⟩:=I.loc
   obtain ⟨u,ru,lu⟩:=hl i x v e1 c1 (.inr h3)
   refine ⟨u,ru,.inr ⟨e3,?_⟩⟩
   rcases lu with ⟨q,_⟩ | ⟨_,c,q1,q2⟩
   ·rcases h3 with z | z<;>(rw [z] at q; cases q)
   ·obtain ⟨c',ec⟩:=fO _ [] h2 (has x h2)
    have:=sub _ _ ec
    rw [q1] at this
    cases this
    exact ⟨c,(F.out x h1).trans ec,q2.keeps hk⟩
 ·rcases F.old x c e with e | e
  ·exact I.freeC x c e
  ·exact I.hok.fresh (Nat.le_of_lt e)
 ·rw [List.append_nil] at hp
  obtain ⟨h1,h2,h3,h4,h5⟩:=I.pin p hp
  refine ⟨hk _ _ h1,h2,Nat.ne_of_lt (Heap.lt_size h1),λ z=>?_,h5⟩
  rcases List.mem_cons.mp (stk _ z) with q | q
  ·exact h3 q
  ·exact h4 q
 ·rw [oq]; exact I.len
theorem Inv.enter (I:Inv X pins σ H s) (ok:eT X.N js scope X.env.scope) (hf:∀b∈fp,fL X pins H b) (hfs:∀b∈fp,b < s.heap.objs.size) {Q:Env->Shared->Prop} {E:Value->Shared->Prop}
  (h:∀(cells:List (Str×Addr)) (h₁:Heap),(∀b o,s.heap.get? b=some o->h₁.get? b=some o)->CF X scope s.heap.objs.size h₁ cells->Inv (X.comp scope cells s H fp pins) [] (clr js σ) H {s with heap:=h₁}->
   Q {scope:=scope,locals:=s.heap.objs.size,globals:=X.env.globals,cells:=cells,qual:=X.env.qual,func:=none,code:=X.env.code,frame:=X.env.frame,builtins:=X.env.builtins} {s with heap:=h₁}) :
  wpAny (model X.prog X.w) X.A (newFunctionEnv scope X.env.globals (bS X.env scope.names []) [] X.env.qual none .none (some X.env)) Q E s:=by
 unfold newFunctionEnv
 refine wpAny_bind (wpAny_alloc ?_)
 refine wpAny_bind (wpAny_layCells _ (λ _ _ _=>rfl) _ _ _ _ ?_)
 refine wpAny_bind (wpAny_pure (wpAny_pure ?_))
 have hsz:(s.heap.push {cls:=.type (if (some X.env).isSome=true then "dict" else "frame"),data:=.dict #[]}).objs.size=s.heap.objs.size+1:=Heap.size_push ..
 have sub:∀x c,(bS X.env scope.names []).lookup x=some c->X.env.cells.lookup x=some c:=λ x c e=>fN _ _ (by simp) e
 have cl:∀x c,(bS X.env scope.names []).lookup x=some c->∃v,s.heap.IsCell c v:=λ x c e=>I.cell x c (sub x c e)
 have F0:rZ (s.heap.push {cls:=.type (if (some X.env).isSome=true then "dict" else "frame"),data:=.dict #[]}).objs.size (s.heap.push {cls:=.type (if (some X.env).isSome=true then "dict" else "frame"),data:=.dict #[]}) (bS X.env scope.names []):=by
  refine ⟨λ x c e=>?_,λ x y c e1 e2=>I.ok.inj x y c (sub _ _ e1) (sub _ _ e2),λ x c e=>?_⟩
  ·obtain ⟨v,o,ho,_⟩:=cl x c e
   rw [hsz]; exact Nat.lt_succ_of_lt (Heap.lt_size ho)
  ·obtain ⟨v,o,ho,hd⟩:=cl x c e
   exact ⟨v,o,Heap.get?_push_of_some _ ho,hd⟩
 obtain ⟨F1,F2⟩:=BF (lo:=s.heap.objs.size+1) (base:=X.env.cells) (names:=scope.names) F0 (by rw [hsz]; exact Nat.le_refl _) (λ x c e=>.inl (sub x c e))
 have old:∀b o,s.heap.get? b=some o->(pushCells (s.heap.push {cls:=.type (if (some X.env).isSome=true then "dict" else "frame"),data:=.dict #[]}) scope.names).get? b=some o:=λ b o e=>pushCells_keeps _ _ _ _ (Heap.get?_push_of_some _ e)
 have own:∀x,scope.names.lookup x=some .cell->∀c,(cellsFrom (s.heap.push {cls:=.type (if (some X.env).isSome=true then "dict" else "frame"),data:=.dict #[]}).objs.size scope.names (bS X.env scope.names [])).lookup x=some c->s.heap.objs.size<=c:=λ x hx c e=>zE (by rw [hsz]; exact Nat.le_succ _) (.inl (PySem.mem_of_lookup hx)) e
 have F:CF X scope s.heap.objs.size (pushCells (s.heap.push {cls:=.type (if (some X.env).isSome=true then "dict" else "frame"),data:=.dict #[]}) scope.names) (cellsFrom (s.heap.push {cls:=.type (if (some X.env).isSome=true then "dict" else "frame"),data:=.dict #[]}).objs.size scope.names (bS X.env scope.names [])):=by
  refine ⟨F1.inj,F1.cell,λ x c e=>?_,λ x hx=>?_,λ x hx=>?_,λ x c hx e=>own x hx c e⟩
  ·rcases F2 x c e with q | q
   ·exact .inl q
   ·exact .inr q
  ·have:=PySem.W.cellsFrom_some scope.names (s.heap.push {cls:=.type (if (some X.env).isSome=true then "dict" else "frame"),data:=.dict #[]}).objs.size (bS X.env scope.names []) (.inl hx)
   exact Option.isSome_iff_exists.mp this
  ·refine zD λ y hy hk e=>?_
   have:=ok.cell y hy hk
   rw [e,hx] at this
   cases this
 have hns:(pushCells (s.heap.push {cls:=.type (if (some X.env).isSome=true then "dict" else "frame"),data:=.dict #[]}) scope.names).Ns s.heap.objs.size λ _=>none:=by
  have g:(s.heap.push {cls:=.type (if (some X.env).isSome=true then "dict" else "frame"),data:=.dict #[]}).get? s.heap.objs.size=some {cls:=.type (if (some X.env).isSome=true then "dict" else "frame"),data:=.dict #[]}:=Heap.get?_push_size _ rfl
  refine ⟨_,_,_,pushCells_keeps _ _ _ _ g,rfl,?_,?_⟩
  ·intro e he; simp at he
  ·intro nm; rfl
 exact h _ _ old F (I.comp (tk:=s.toks) ok hf hfs hns old (λ _=>rfl) F)
theorem HOk.off {P:Program} {w:World} {H:Hp} {h h':Heap} {C:Addr} (x:HOk P w H h) (hn:H C=none) (k:∀b o,b≠C->h.get? b=some o->h'.get? b=some o):HOk P w H h':=λ a o e=>
 (x a o e).stay (λ b u hb q=>k b u (by
  rintro rfl
  rcases hb with z | z
  ·rw [z,e] at hn; cases hn
  ·rw [z] at hn; cases hn) q) (λ _ q=>q) λ _ _ q=>q
theorem Inv.zF (I:Inv X pins σ H s) {σ':St} {H':Hp} {s':Shared} {cl:List (Str×Addr)} (hf:∀b∈fp,fL X pins H b) (J:Inv (X.comp scope cl s H fp pins) [] σ' H' s') {h':Heap}
  (hk:∀b o,b≠s.heap.objs.size->s'.heap.get? b=some o->h'.get? b=some o):Inv X pins σ H' {s' with heap:=h'}:=by
 have nC:H' s.heap.objs.size=none:=J.free
 have nb:∀b o,s.heap.get? b=some o->b≠s.heap.objs.size:=λ b o e=>Nat.ne_of_lt (Heap.lt_size e)
 have u:=J.base
 refine I.A6 (ch:=fp) J.os ⟨λ b o e n h1 h2=>hk b o (nb b o e) (u.keep b o e n h1 h2),λ b o e n h1 h2=>?_,u.free,λ b o e h2=>?_,u.tups,u.gi,u.gG⟩ (J.hok.off nC hk) J.bare λ b hb=>⟨(hf b hb).2.2.2.1,(hf b hb).2.1,(hf b hb).2.2.2.2.1,(hf b hb).2.2.2.2.2⟩
 ·obtain ⟨sl,q⟩:=u.slot b o e n h1 h2
  exact ⟨sl,hk _ _ (nb b o e) q⟩
 ·obtain ⟨o',q⟩:=u.there b o e h2
  exact ⟨o',hk _ _ (nb b o e) q⟩
end
noncomputable def iO (X:Cx) (ifs:List Expr) (t:TT):Prop:=
 ∀(pins:List (Addr×Obj)) (s:Shared) (σ:St) (H:Hp) (Q:Bool->Hp->Prop),Inv X pins σ H s->t σ H Q->
  wpAny (model X.prog X.w) X.A (forIn ifs true λ c r=>if r=true then do let ok <-isTrue c X.env (eval c X.env); pure (ForInStep.yield ok) else pure (ForInStep.yield r)) (TP X pins σ Q) X.xe s
noncomputable def DH:TT:=λ _ H Q=>Q true H
theorem r8 {X:Cx}:iO X [] DH:=λ pins s σ H Q I h=>wpAny_tests_nil ⟨H,I,h⟩
theorem r9 {X:Cx} {c:Expr} {t:TT} (h:PT X c t):iO X [c] t:=λ pins s σ H Q I q=>wpAny_tests_one (h pins s σ H Q I q)
end L2
end
section
namespace L2
open PySem PySem.Spec PyProof.Rows
mutual
inductive Dt (K:PySem.W.Frag) (H:Hp):V->PyData->Prop
 | non:Dt K H .non .none
 | bl (b):Dt K H (.bl b) (.bool b)
 | int (i):Dt K H (.int i) (.int i)
 | str (x):Dt K H (.str x) (.str x)
 | lst {a xs ds}:SqL K H a xs->Dts K H xs ds->Dt K H (.ref a) (.list ds)
 | tup {a xs ds}:SqT K H a xs->Dts K H xs ds->Dt K H (.ref a) (.tuple ds)
inductive Dts (K:PySem.W.Frag) (H:Hp):List V->List PyData->Prop
 | nil:Dts K H [] []
 | cons {x xs d ds}:Dt K H x d->Dts K H xs ds->Dts K H (x::xs) (d::ds)
end
section
variable {X:Cx} {pins:List (Addr×Obj)} {σ:St} {H:Hp} {s:Shared}
mutual
theorem Inv.reads (I:Inv X pins σ H s):∀{v:V} {d:PyData} {u:Value},Dt X.K H v d->RelV v u->∃as,Reads s.heap u d as
 | _,_,_,.non,r=>by cases r; exact ⟨_,.none⟩
 | _,_,_,.bl b,r=>by cases r; exact ⟨_,.bool b⟩
 | _,_,_,.int i,r=>by obtain ⟨t,rfl⟩:=r; exact ⟨_,.int i t⟩
 | _,_,_,.str x,r=>by obtain ⟨t,rfl⟩:=r; exact ⟨_,.str x t⟩
 | _,_,_,.lst h t,r=>by
  cases r
  obtain ⟨its,rv,p,hz⟩:=I.list h
  obtain ⟨o,ho,hc,n,hd⟩:=p.isList
  obtain ⟨as,ra⟩:=I.readsAll t rv
  exact ⟨_,.list ho hc hd (by simpa using ra)⟩
 | _,_,_,.tup h t,r=>by
  cases r
  obtain ⟨its,rv,p,hz⟩:=I.tuple h
  obtain ⟨o,ho,hc,n,hd⟩:=p
  obtain ⟨as,ra⟩:=I.readsAll t rv
  exact ⟨_,.tuple ho hc hd (by simpa using ra)⟩
theorem Inv.readsAll (I:Inv X pins σ H s):∀{v:List V} {d:List PyData} {u:List Value},Dts X.K H v d->Vals v u->∃as,ReadsAll s.heap u d as
 | _,_,_,.nil,.nil=>⟨_,.nil⟩
 | _,_,_,.cons h t,.cons r rs=>by
  obtain ⟨as,a⟩:=I.reads h r
  obtain ⟨bs,b⟩:=I.readsAll t rs
  exact ⟨_,.cons a b⟩
end
theorem p6 (hg:X.A.guards=some []) (hu:X.A.units+64 < cLine):aZ X (.builtin "repr") (λ xs H Q=>∃a d,xs=[.ref a]/\Dt X.K H (.ref a) d/\d.layable0=true/\d.intsShort 13=true/\d.showable=true/\d.hasDict=false/\d.depth<=60/\Q (.str d.shown) H):=by
 intro pins s σ H xs us Q I r h
 obtain ⟨a,d,rfl,hd,h1,h2,h3,h4,h5,q⟩:=h
 obtain ⟨u,rfl,rx⟩:=vals1 r
 obtain ⟨as,ra⟩:=I.reads hd rx
 cases rx
 refine repr_of_reads' ra h3 (by rw [h4]; simp) hg (by omega) (λ _ _ e=>e) (λ h' u tk hk=>⟨.str d.shown,H,I.kept hk,⟨_,rfl⟩,q⟩) ?_
 have:=shown_le13 h1 h2
 exact Nat.le_trans this (by decide)
noncomputable def DI (K:PySem.W.Frag):R2:=λ x y H Q=>∃d e,Dt K H x d/\Dt K H y e/\d.canLay0=true/\e.canLay0=true/\d.depth<=60/\Q (.bl (PyData.eqv d e)) H
noncomputable def DJ (K:PySem.W.Frag):R2:=λ x y H Q=>∃d e,Dt K H x d/\Dt K H y e/\d.canLay0=true/\e.canLay0=true/\d.depth<=60/\Q (.bl (!PyData.eqv d e)) H
theorem zG (hu:X.A.units+64 < cLine):OpR X (compareOp .Eq) (DI X.K):=by
 intro pins s σ H x y v u Q I rx ry h
 obtain ⟨d,e,h1,h2,h3,h4,h5,q⟩:=h
 obtain ⟨as,ra⟩:=I.reads h1 rx
 obtain ⟨bs,rb⟩:=I.reads h2 ry
 exact PySem.SeqAt.compareEq_reads ra rb h3 h4 (by have:min d.depth e.depth<=d.depth:=Nat.min_le_left _ _; omega) ⟨.bl _,H,I,rfl,q⟩
theorem zH (hu:X.A.units+64 < cLine):OpR X (compareOp .NotEq) (DJ X.K):=by
 intro pins s σ H x y v u Q I rx ry h
 obtain ⟨d,e,h1,h2,h3,h4,h5,q⟩:=h
 obtain ⟨as,ra⟩:=I.reads h1 rx
 obtain ⟨bs,rb⟩:=I.reads h2 ry
 exact PySem.SeqAt.compareNe_reads ra rb h3 h4 (by have:min d.depth e.depth<=d.depth:=Nat.min_le_left _ _; omega) ⟨.bl _,H,I,rfl,q⟩
end
end L2
end
section
namespace L2
open PySem PySem.Spec PyProof.Rows
section
variable {X:Cx}
theorem sd (bs:List Bool):((List.range bs.length).all λ i=>bs.getD i true)=bs.all id:=by
 induction bs with
 | nil=>rfl
 | cons b r ih=>
  rw [List.length_cons,List.range_succ_eq_map,List.all_cons,List.all_map,List.all_cons]
  show (b&&_)=(b&&_)
  rw [<-ih]
  rfl
theorem se (hh:X.A.handled=none):aZ X (.builtin "all") (λ xs H Q=>∃(p:Addr) (bs:List Bool),xs=[.ref p]/\SqL X.K H p (bs.map V.bl)/\Q (.bl (bs.all id)) H):=by
 intro pins s σ H xs us Q I r h
 obtain ⟨p,bs,rfl,hq,q⟩:=h
 obtain ⟨u,rfl,rx⟩:=vals1 r
 cases rx
 obtain ⟨its,rv,pl,hz⟩:=I.list hq
 have hl:=pl.isList
 have hlt:p < s.heap.objs.size:=by obtain ⟨_,e,_⟩:=hl; exact Heap.lt_size e
 have len:=rv.length
 rw [List.length_map] at len
 refine call_all_walk (wpAny_pyIter_list hl ?_)
 refine ⟨_,_,_,_,_,_,(λ i=>bs.getD i true),rfl,Walks.list (A:=X.A.in1) hh s.heap.objs.size p (Nat.ne_of_lt hlt) its.toArray,⟨⟨_,Heap.get?_push_size _ rfl,rfl,rfl⟩,hl.push _⟩,?_,?_⟩
 ·intro i v s' Q' E' hv hq'
  have hv:its[i]?=some v:=by simpa using hv
  have hi:i < its.length:=(List.getElem?_eq_some_iff.mp hv).1
  have hb:i < bs.length:=by omega
  have e:(bs.map V.bl)[i]?=some (V.bl (bs[i])):=by simp [hb]
  obtain ⟨u,hu,ru⟩:=rv.get e
  rw [hv] at hu
  cases hu
  cases ru
  have:bs.getD i true=bs[i]:=by simp [List.getD,hb]
  dsimp only at hq'
  rw [this] at hq'
  exact wpAny_truthy_bool hq'
 ·intro h' tk hk
  have e:((List.range its.toArray.size).all λ i=>bs.getD i true)=bs.all id:=by
   rw [List.size_toArray,<-len]
   exact sd bs
  rw [e]
  refine ⟨.bl _,H,I.kept (t':=tk) λ b o eb=>hk b o (λ z=>?_) (Heap.get?_push_of_some _ eb),rfl,q⟩
  rw [List.mem_singleton] at z
  exact Nat.ne_of_lt (Heap.lt_size eb) z
noncomputable def zI:V->List V->Hp->VK->Prop:=λ x vs H Q=>∃l xs y,x=.ref l/\vs=[y]/\H l=some (.lst xs)/\gg y=true/\xs.all gg=true/\Q (.int (xs.countP λ z=>eqV z y)) H
theorem ji {x:V}:∀{xs:List V} {us:List Value},Vals xs us->xs.all gg=true->us.countP (eqU x)=xs.countP λ y=>eqV y x
 | _,_,.nil,_=>rfl
 | _,_,.cons r t,h=>by
  simp only [List.all_cons,Bool.and_eq_true] at h
  rw [List.countP_cons,List.countP_cons,ji t h.2,rQ r h.1]
theorem sj:MtM X "list.count" zI:=by
 intro pins s σ H x vs v us Q I rx rv h
 obtain ⟨l,xs,y,rfl,rfl,hH,fy,fx,q⟩:=h
 cases rx
 obtain ⟨u,rfl,ru⟩:=rv.one
 obtain ⟨z,its,n,r,hl,e⟩:=I.mS hH
 refine call_meets F.slot_list_count ⟨_,e,rfl⟩ F.entry_list_count (F.args_list_count_2 _ _) (SeqAt.list_countAt l its.toArray n none #[] u (eqU y)) ⟨e,λ w hw=>kI ru fy r fx w (by simpa using hw),?_⟩
 refine ⟨.int _,H,I.tok _,⟨_,rfl⟩,?_⟩
 rw [show its.toArray.toList=its by simp,ji r fx]
 exact q
noncomputable def vI:V->List V->Hp->VK->Prop:=λ x vs H Q=>∃l xs i y,x=.ref l/\vs=[.int i,y]/\H l=some (.lst xs)/\0<=i/\i<=xs.length/\xs.length < sizeLine/\Q .non (upd H l (.lst (xs.take i.toNat++[y]++xs.drop i.toNat)))
theorem p7:MtM X "list.insert" vI:=by
 intro pins s σ H x vs v us Q I rx rv h
 obtain ⟨l,xs,i,y,rfl,rfl,hH,h0,h1,hz,q⟩:=h
 cases rx
 obtain ⟨u,v,rfl,ru,rw'⟩:=rv.two
 obtain ⟨t,rfl⟩:=ru
 obtain ⟨z,its,n,r,hl,e⟩:=I.mS hH
 have sl:(sizeLine:Nat) < 2^63:=dG
 refine call_meets F.slot_list_insert ⟨_,e,rfl⟩ F.entry_list_insert (F.args_list_insert_3 _ _ _) (PySem.AutoListH.list_insert_list_int_val_1 l its.toArray n i t v ?_ (by rw [List.size_toArray]; omega)) ⟨e,?_⟩
 ·simp [Builtin.List.listFitsIndex]
  omega
 ·refine ⟨.non,_,I.gm (its':=its.take i.toNat++[v]++its.drop i.toNat) hH e ?_ (((r.take _).append (.cons rw' .nil)).append (r.drop _)) ?_,rfl,q⟩
  ·have hi:¬i < 0:=by omega
   simp only [hi,if_false,List.size_toArray]
   have:min i.toNat its.length=i.toNat:=by omega
   rw [this]
   apply Array.ext'
   simp [List.take_of_length_le]
  ·simp only [List.length_append,List.length_take,List.length_drop,List.length_singleton]
   omega
theorem mV {ns:List Str}:∀{us:List Value},Vals (ns.map V.str) us->StrsAre us ns:=by
 induction ns with
 | nil=>intro us r; cases r; exact .nil
 | cons n r ih=>intro us rv; cases rv with | cons q t=>obtain ⟨k,rfl⟩:=q; exact .cons _ _ (ih t)
noncomputable def rJoin (K:PySem.W.Frag):V->List V->Hp->VK->Prop:=λ x vs H Q=>∃z l ys,x=.str z/\vs=[.ref l]/\SqL K H l (ys.map V.str)/\(ys.map (·.length)).sum+ys.length*z.length<=16777216/\Q (.str (Txt.join z ys)) H
theorem vJ:MtM X "str.join" (rJoin X.K):=by
 intro pins s σ H x vs v us Q I rx rv h
 obtain ⟨z,l,ys,rfl,rfl,hq,hz,q⟩:=h
 obtain ⟨t,rfl⟩:=rx
 obtain ⟨u,rfl,ru⟩:=rv.one
 cases ru
 obtain ⟨its,r,pl,hl⟩:=I.list hq
 exact join_list pl.isList (by simpa using mV r) hz λ t' k=>⟨.str _,H,I.tok _,⟨_,rfl⟩,q⟩
end
end L2
end
section
namespace L2
open PySem PySem.Spec PyProof.Rows
noncomputable def asc (z:Str):Bool:=z.cps.all (· < 128)
noncomputable def Its (z:Str):It:=⟨λ i _=>i < z.cps.size,λ i H x H'=>H'=H/\∃c,z.cps[i]?=some c/\x=.str ⟨#[c]⟩,λ i _=>z.cps.size<=i⟩
theorem sr {P:Program} {w:World} {K:PySem.W.Frag} {tg:Expr} (z:Str) (t:Tok) (it:Addr):Turn P w K tg (Its z) [it] it (λ i h=>h.IsStrIter it "str_ascii_iterator" z t i) where
 mem:=by simp
 obj:=λ i h st b hb=>by
  obtain rfl:b=it:=by simpa using hb
  obtain ⟨o,e,c,d⟩:=st
  exact ⟨o,e,λ v q=>by rw [d] at q; cases q⟩
 keep:=λ i h h' st k=>let ⟨o,e,r⟩:=st; ⟨o,k it (by simp) o e,r⟩
 item:=by
  intro X hP hw hK hc i pins s σ H E I hf st hg
  subst hP hw hK
  have hg:i < z.cps.size:=hg
  obtain ⟨f0,f1,f2,f3,f4,f5⟩:=hf it (by simp)
  refine wpAny_pyNext_ascii_item st (c:=z.cps[i]) (by simp [hg]) λ h' st' sb=>?_
  have I1:Inv X pins σ H {s with heap:=h',toks:=s.toks+1}:=I.turned (λ b o hb e=>(sb.2 b hb).trans e) f0 f1 f3 f4 f5
  obtain ⟨o,e,c,d⟩:=id st'
  exact ⟨_,rfl,n5 (s:={s with heap:=h',toks:=s.toks+1}) e c d (by decide) ⟨.str ⟨#[z.cps[i]]⟩,H,I1,⟨_,rfl⟩,⟨rfl,_,by simp [hg],rfl⟩,st',λ b hb=>(hf b hb).1⟩⟩
 done:=by
  intro X hP hw hK hc i pins s σ H E I hf st hg
  subst hP hw hK
  have hg:z.cps.size<=i:=hg
  obtain ⟨f0,f1,f2,f3,f4,f5⟩:=hf it (by simp)
  exact wpAny_pyNext_ascii_end (I.ok.hd hc) st (by simp [hg]) λ h' eb=>⟨rfl,I.turned (t':=s.toks) (λ b o hb e=>eb b o hb e) f0 f1 f3 f4 f5⟩
 self:=λ _ _ _ _ _ st h=>wpAny_pyIter_striter_ascii st h
section
variable {X:Cx} {tg:Expr}
noncomputable def DK (tl:TE):TI:=fun σ H R=>tl σ H λ x H1=>∃z,x=.str z/\asc z=true/\R (Its z) H1
theorem zJ {l:Expr} {tl:TE} (hl:PE X l tl):PI X tg l (DK tl):=by
 intro pins s σ H R I h
 refine thn (hl pins s σ H _ I h) λ v s1 ⟨x,H1,I1,r1,q1⟩=>?_
 obtain ⟨z,rfl,ha,q⟩:=q1
 obtain ⟨t,rfl⟩:=r1
 refine wpAny_pyIter_ascii ha ?_
 refine ⟨s1.heap.objs.size,[s1.heap.objs.size],_,_,H1,rfl,I1.kept (t':=s1.toks) λ b o e=>Heap.get?_push_of_some _ e,sr z t _,⟨_,Heap.get?_push_size _ rfl,rfl,rfl⟩,λ b hb=>?_,q⟩
 obtain rfl:b=s1.heap.objs.size:=by simpa using hb
 exact I1.kC (Nat.le_refl _) (I1.hok.fresh (Nat.le_refl _))
end
noncomputable def Iel (K:PySem.W.Frag) (a:Addr):It:=
 ⟨λ i H=>∃xs x,SqL K H a xs/\xs[i]?=some x,λ i H x H'=>∃p v,H p=none/\x=.ref p/\H'=upd H p (.tup [.int i,v])/\∀xs,SqL K H a xs->xs[i]?=some v,λ i H=>∃xs,SqL K H a xs/\xs.length<=i⟩
theorem p9 {P:Program} {w:World} {K:PySem.W.Frag} {elts:List Expr} {x1} {pos:Pos} (a e it:Addr) (hne:e≠it) :
  Turn P w K (.Tuple elts x1 pos) (Iel K a) [e,it] e (λ i h=>(∃old,IsEnum h e it (i:Int) old)/\h.IsListIter it a i) where
 mem:=by simp
 obj:=λ i h st b hb=>by
  obtain ⟨⟨old,he⟩,o,ho,hc,hd⟩:=st
  rcases List.mem_cons.mp hb with rfl | hb
  ·refine ⟨_,he,λ v q=>?_⟩
   have q':Data.fields _=Data.cell v:=q
   cases q'
  ·obtain rfl:b=it:=by simpa using hb
   exact ⟨o,ho,λ v q=>by rw [hd] at q; cases q⟩
 keep:=λ i h h' st k=>by
  obtain ⟨⟨old,he⟩,o,ho,r⟩:=st
  exact ⟨⟨old,k e (by simp) _ he⟩,o,k it (by simp) o ho,r⟩
 item:=by
  intro X hP hw hK hc i pins s σ H E I hf st hg
  subst hP hw hK
  obtain ⟨xs,x,hq,hx⟩:=hg
  obtain ⟨⟨old,he⟩,hit⟩:=st
  obtain ⟨its,rv,p,hz⟩:=I.list hq
  obtain ⟨u,hu,ru⟩:=rv.get hx
  obtain ⟨f0,f1,f2,f3,f4,f5⟩:=hf e (by simp)
  obtain ⟨g0,g1,g2,g3,g4,g5⟩:=hf it (by simp)
  refine wpAny_pyNext_enum_item he hit p.isList (x:=u) (by simpa using hu) hne λ h1 ho hi ht hs k1=>⟨_,rfl,?_⟩
  have he':e < s.heap.objs.size:=Heap.lt_size he
  have hi':it < s.heap.objs.size:=by obtain ⟨o,q,_⟩:=hit; exact Heap.lt_size q
  refine wpAny_letOwnedTupleGo_enum (s:={s with heap:=h1,toks:=s.toks+1}) ho λ h2 hE sb=>?_
  have k2:∀b o,b≠e->b≠it->s.heap.get? b=some o->h2.get? b=some o:=λ b o n1 n2 q=>sb.extBut b o n1 (k1 b o n1 n2 q)
  have ht2:h2.get? s.heap.objs.size=some {cls:=.type "tuple",data:=.seq #[.int i s.toks,u]}:=sb.extBut _ _ (Nat.ne_of_gt he') ht
  have hsz2:h2.objs.size=s.heap.objs.size+1:=by rw [sb.1]; exact hs
  have hHs:H s.heap.objs.size=none:=I.hok.fresh (Nat.le_refl _)
  have nt:∀b o,H b=some o->b≠e/\b≠it:=λ b o q=>⟨(λ z=>by rw [z,f0] at q; cases q),(λ z=>by rw [z,g0] at q; cases q)⟩
  have hok:HOk X.prog X.w (upd H s.heap.objs.size (.tup [.int i,x])) h2:=by
   have lift:∀b o,H b=some o->aT X.prog X.w (upd H s.heap.objs.size (.tup [.int i,x])) h2 b o:=λ b o q=>
    (I.hok b o q).stay (λ c v hcv r=>k2 c v (by
     rcases hcv with z | z
     ·rw [z]; exact (nt b o q).1
     ·exact (nt c _ z).1) (by
     rcases hcv with z | z
     ·rw [z]; exact (nt b o q).2
     ·exact (nt c _ z).2) r) (λ c r=>by rw [ai (aq r hHs)]; exact r) λ c ys r=>by rw [ai (aq r hHs)]; exact r
   intro b o q
   by_cases eb:b=s.heap.objs.size
   ·subst eb
    rw [aA] at q
    cases q
    exact ⟨by show 2<=sizeLine; decide,[.int i s.toks,u],.cons ⟨_,rfl⟩ (.cons ru .nil),⟨_,ht2,rfl,_,rfl⟩⟩
   ·rw [ai eb] at q
    exact lift b o q
  have I2:Inv X pins σ (upd H s.heap.objs.size (.tup [.int i,x])) {s with heap:=h2,toks:=s.toks+1}:=by
   refine I.step (g':=s.gens) (d':=s.drawn) (ch:=[e,it]) (λ b hb=>?_) (λ b o hL hb hcb q n=>?_) (λ b o hL hb hcb q n=>?_) (λ b o hcb q n=>?_) (λ b o hcb q=>?_) (λ b ys q=>by rw [ai (aq q hHs)]; exact q) (λ b o u q=>by rw [ai (aq q hHs)]; exact q)
    (λ b ps q=>⟨#[],by rw [ai (aq q hHs),q]; simp⟩) (λ m hm=>?_) hok I.bare
   ·rcases List.mem_cons.mp hb with rfl | hb
    ·exact ⟨f3,f1,f4,f5⟩
    ·obtain rfl:b=it:=by simpa using hb
     exact ⟨g3,g1,g4,g5⟩
   ·simp only [List.mem_cons,List.not_mem_nil,or_false,not_or] at hcb
    exact k2 b o hcb.1 hcb.2 q
   ·simp only [List.mem_cons,List.not_mem_nil,or_false,not_or] at hcb
    exact ⟨o.slots,k2 b o hcb.1 hcb.2 q⟩
   ·rw [ai (Nat.ne_of_lt (Heap.lt_size q))]; exact n
   ·simp only [List.mem_cons,List.not_mem_nil,or_false,not_or] at hcb
    exact ⟨o,k2 b o hcb.1 hcb.2 q⟩
   ·obtain ⟨o,es,ep,q,r⟩:=hm
    exact ⟨o,es,ep,k2 _ o (Ne.symm f1) (Ne.symm g1) q,r⟩
  refine ⟨.ref s.heap.objs.size,_,I2,rfl,⟨_,x,hHs,rfl,rfl,λ ys hy=>by rw [I.ku hy hq]; exact hx⟩,⟨⟨_,by have:=hE; rw [show ((i:Int)+1)=((i+1:Nat):Int) by omega] at this; exact this⟩,?_⟩,λ b hb=>?_⟩
  ·obtain ⟨o,q,r⟩:=hi
   exact ⟨o,sb.extBut _ _ (Ne.symm hne) q,r⟩
  ·rcases List.mem_cons.mp hb with rfl | hb
   ·rw [ai (Nat.ne_of_lt he')]; exact f0
   ·obtain rfl:b=it:=by simpa using hb
    rw [ai (Nat.ne_of_lt hi')]; exact g0
 done:=by
  intro X hP hw hK hc i pins s σ H E I hf st hg
  subst hP hw hK
  obtain ⟨xs,hq,hx⟩:=hg
  obtain ⟨⟨old,he⟩,hit⟩:=st
  obtain ⟨its,rv,p,hz⟩:=I.list hq
  obtain ⟨g0,g1,g2,g3,g4,g5⟩:=hf it (by simp)
  have hl:=rv.length
  exact wpAny_pyNext_enum_end (I.ok.hd hc) he hit p.isList (by simp; omega) λ h' eb=>⟨rfl,I.turned (t':=s.toks) (λ b o hb q=>eb b o hb q) g0 g1 g3 g4 g5⟩
 self:=λ _ _ _ _ _ st h=>by
  obtain ⟨⟨old,he⟩,_⟩:=st
  exact wpAny_pyIter_enum he h
section
variable {X:Cx}
noncomputable def BG (K:PySem.W.Frag) (ta:TA):TI:=fun σ H R=>ta σ H λ vs H1=>∃a,vs=[.ref a]/\(∃xs,SqL K H1 a xs)/\R (Iel K a) H1
theorem vK {l:Expr} {ta:TA} {p pos tpos:Pos} {elts:List Expr} {x1} (hg:Gl X "enumerate") (hm:X.mg "enumerate"=none) (ha:PA X [l] ta) (hs:starEach [l] X.env=[(false,eval l X.env)]:=by rfl) :
  PI X (.Tuple elts x1 tpos) (.Call (.Name "enumerate" p) [l] [] pos) (BG X.K ta):=by
 intro pins s σ H R I h
 refine Call_ (dD I hg hm (u:=.type "enumerate") (by decide +kernel) (PyProof.Rows.callWith_type1 (thn (ha pos pins s σ H _ I h) λ us s1 ⟨vs,H1,I1,r1,q1⟩=>?_) hs rfl))
 obtain ⟨a,rfl,⟨xs,hq⟩,q⟩:=q1
 obtain ⟨u,rfl,ru⟩:=vals1 r1
 cases ru
 obtain ⟨its,rv,pl,hz⟩:=I1.list hq
 refine call_enumerate_list pl.isList λ h' he hit hsz hk=>?_
 refine wpAny_pyIter_enum he ?_
 have I2:Inv X pins σ H1 {s1 with heap:=h'}:=I1.kept (t':=s1.toks) hk
 refine ⟨_,_,_,_,H1,rfl,I2,p9 a (s1.heap.objs.size+1) s1.heap.objs.size (Nat.succ_ne_self _),⟨⟨_,he⟩,hit⟩,λ b hb=>?_,q⟩
 rcases List.mem_cons.mp hb with rfl | hb
 ·exact I1.kC (Nat.le_succ _) (I1.hok.fresh (Nat.le_succ _))
 ·obtain rfl:b=s1.heap.objs.size:=by simpa using hb
  exact I1.kC (Nat.le_refl _) (I1.hok.fresh (Nat.le_refl _))
end
end L2
end
section
namespace L2
open PySem PySem.Spec PyProof.Rows
theorem BH:isSubtype (.type "tuple") (.type "set")=pure false:=by rw [isSubtype_type]; kernel_rfl
theorem BI:isSubtype (.type "tuple") (.type "frozenset")=pure false:=by rw [isSubtype_type]; kernel_rfl
section
variable {prog:Program} {w:World} {A:Around} {E:Value->Shared->Prop} {s:Shared}
set_option maxHeartbeats 3200000 in
theorem gU {l:Addr} {its:Array Value} {ns:List Int} {Q:Value->Shared->Prop}
  (hh:A.handled=none) (hl:s.heap.IsTuple l its) (hi:IntsAre its.toList ns) (hb:its.size+1 < scanBound)
  (h:∀(h':Heap) (tk:Nat),h'.SetOf (intKind prog w) s.heap.objs.size (λ j=>(firstMet (λ i=>ns.getD i 0) its.size).any (·==j)) (firstMet (λ i=>ns.getD i 0) its.size).length->
   (∀b o,b < s.heap.objs.size->s.heap.get? b=some o->h'.get? b=some o)->Q (.ref s.heap.objs.size) {s with heap:=h',toks:=tk}) :
  wpAny (model prog w) A (call (.type "set") [.ref l]) Q E s:=by
 obtain ⟨cc,tl,hmro⟩:=F.called_set.mro
 have hmade:=F.called_set.made
 have hsub:=F.called_set.sub
 refine wpAny_call (codeAny_of_tree ?_)
 show wpAny _ _ (callAny (.type "set") _) _ _ _
 refine wpAny_pure ⟨Code.quiet_builtin _ (by decide +kernel),codeAny_builtin F.entry_type_call ?_⟩
 rw [Around.under_plain (weight_type_call_type "set" [.ref l] []) rfl]
 have k1:=F.called_set.notType
 have k2:=F.called_set.canCreate
 have k3:=F.typeCall_set_1 (.ref l)
 repeat (any_goals (first | assumption | wp_step))
 refine codeAny_mono (code_set_new_1 (.ref l) (E:=E) (Q₁:=λ ob t₁=>∃led:Bool,ob=.ref s.heap.objs.size/\t₁={s with heap:=s.heap.push {cls:=.type "set",dict:=none,data:=.set #[] 0 (.fresh 0 0 led)}}) λ led=>⟨led,rfl,rfl⟩) λ r t₁ hr=>?_
 cases r with
 | error e=>exact hr
 | ok fl=>
  cases fl with
  | ret ob=>
   obtain ⟨led,rfl,rfl⟩:=hr
   have gS:(s.heap.push {cls:=.type "set",dict:=none,data:=.set #[] 0 (.fresh 0 0 led)}).get? s.heap.objs.size=some {cls:=.type "set",dict:=none,data:=.set #[] 0 (.fresh 0 0 led)}:=Heap.get?_push_size _ rfl
   have gT:Shared.TypeIs {s with heap:=s.heap.push {cls:=.type "set",dict:=none,data:=.set #[] 0 (.fresh 0 0 led)}} (.ref s.heap.objs.size) "set":=⟨_,gS,rfl⟩
   have k4:=F.called_set.init.lookup
   have k5:=F.called_set.init.bind (.ref s.heap.objs.size)
   repeat (any_goals (first | assumption | wp_step))
   refine codeAny_mono (codeAny_call_builtin (R:=wants (λ r t₂=>r=.none/\∃h' tk,t₂={s with heap:=h',toks:=tk}/\
     h'.SetOf (intKind prog w) s.heap.objs.size (λ j=>(firstMet (λ i=>ns.getD i 0) its.size).any (·==j)) (firstMet (λ i=>ns.getD i 0) its.size).length/\
     (∀b o,b < s.heap.objs.size->s.heap.get? b=some o->h'.get? b=some o)) E) F.called_set.init.plain F.entry_set_init (check_set_init_1 gT ?_)) λ r₂ t₂ hr₂=>?_
   ·obtain ⟨ol,hol,hcl,nl,hdl⟩:=hl
    obtain ⟨ocls,odict,odata,oslots⟩:=ol
    simp only at hcl hdl
    subst hcl; subst hdl
    have gol:(s.heap.push {cls:=.type "set",dict:=none,data:=.set #[] 0 (.fresh 0 0 led)}).get? l=some {cls:=.type "tuple",dict:=odict,data:=.seq its nl,slots:=oslots}:=Heap.get?_push_of_some _ hol
    have k6:=BH
    have k7:=BI
    have k8:(Value.type "tuple"==Value.type "dict")=false:=by decide
    have gl:(s.heap.push {cls:=.type "set",dict:=none,data:=.set #[] 0 (.fresh 0 0 led)}).IsTuple l its:=⟨_,gol,rfl,nl,rfl⟩
    unfold Builtin.«set.__init__» noKeywords Builtin.Frozenset.updateFrom
    generalize gPI:pyIter=PI
    wp_walk
    subst gPI
    refine wpAny_pyIter_tuple gl ?_
    refine wpAny_bind (wpAny_runValue ?_)
    have lS:l < s.heap.objs.size:=Heap.lt_size hol
    have h3:A.in1.in1.in1.handled=none:=by simp [hh]
    have nI:l≠(s.heap.push {cls:=.type "set",dict:=none,data:=.set #[] 0 (.fresh 0 0 led)}).objs.size:=by
     rw [Heap.size_push]; exact Nat.ne_of_lt (Nat.lt_succ_of_lt lS)
    have nS:s.heap.objs.size∉[(s.heap.push {cls:=.type "set",dict:=none,data:=.set #[] 0 (.fresh 0 0 led)}).objs.size,l]:=by
     rw [Heap.size_push]; simp only [List.mem_cons,List.mem_singleton,List.not_mem_nil,or_false,not_or]
     exact ⟨Nat.ne_of_lt (Nat.lt_succ_self _),Nat.ne_of_gt lS⟩
    have hv:∀(i:Nat) (v:Value),its[i]?=some v->∃t,v=.int ((λ i=>ns.getD i 0) i) t:=λ i v hv=>
     IntsAre.int_at hi i v (by rw [Array.getElem?_toList]; exact hv)
    refine codeAny_set_update_loopS ((Walks.tuple h3 _ l nI its).toS) s.heap.objs.size
     nS (λ i=>ns.getD i 0) hv hb (its.size - 0) 0 _ (by omega) (Nat.zero_le _)
     ⟨⟨_,Heap.get?_push_size _ rfl,rfl,rfl⟩,(gl.push _)⟩ ?hS0 ?hR
    case hS0=>
     have hget:((s.heap.push {cls:=.type "set",dict:=none,data:=.set #[] 0 (.fresh 0 0 led)}).push {cls:=.type "tuple_iterator",data:=.fields #[.ref l,.int 0 0]}).get? s.heap.objs.size
       = some {cls:=.type "set",dict:=none,data:=.set #[] 0 (.fresh 0 0 led)}:=Heap.get?_push_of_some _ gS
     exact SetOf_congr ((setObjOf_fresh (knd:=intKind prog w) led).setOf hget (by unfold scanBound; omega)) (λ _=>rfl) rfl
    case hR=>
     intro s' hm hS'
     obtain ⟨h',g',d',tk',os'⟩:=s'
     have eg:g'=s.gens:=hm.gens
     have ed:d'=s.drawn:=hm.drawn
     have eo:os'=s.os:=hm.os
     subst eg; subst ed; subst eo
     show wpAny _ _ _ _ _ _
     refine wpAny_pure ?_
     show wpAny _ _ (ret Value.none) _ _ _
     refine wpAny_pure ⟨rfl,h',tk',rfl,hS',λ b o hb e=>?_⟩
     have hb1:b≠s.heap.objs.size:=Nat.ne_of_lt hb
     have hb2:b≠(s.heap.push {cls:=.type "set",dict:=none,data:=.set #[] 0 (.fresh 0 0 led)}).objs.size:=by
      rw [Heap.size_push]; exact Nat.ne_of_lt (Nat.lt_succ_of_lt hb)
     exact hm.heap b o (by simp only [List.mem_cons,List.mem_singleton,List.not_mem_nil,or_false,not_or]; exact ⟨hb1,hb2⟩) (Heap.get?_push_of_some _ (Heap.get?_push_of_some _ e))
   ·cases r₂ with
    | error e=>exact hr₂
    | ok fl₂=>
     cases fl₂ with
     | ret r=>
      obtain ⟨rfl,h',tk,rfl,hS',hk'⟩:=hr₂
      repeat (any_goals (first | assumption | wp_step))
      exact h _ _ hS' hk'
     | _=>exact hr₂.elim
  | _=>exact hr.elim
end
end L2
end
section
namespace L2
open PySem PySem.Spec PyProof.Rows
section
variable {X:Cx}
noncomputable def unlike (ns:List Int):Nat:=(firstMet (λ i=>ns.getD i 0) ns.length).length
theorem qa (hh:X.A.handled=none):aZ X (.type "set") (λ xs H Q=>∃(a:Addr) (ns:List Int),xs=[.ref a]/\SqT X.K H a (ns.map V.int)/\ns.length<=4000/\∀p S,H p=none->Q (.ref p) (upd H p (.set S (unlike ns)))):=by
 intro pins s σ H xs us Q I r h
 obtain ⟨a,ns,rfl,hq,hz,q⟩:=h
 obtain ⟨u,rfl,rx⟩:=vals1 r
 cases rx
 obtain ⟨its,rv,ht,hl⟩:=I.tuple hq
 have len:=rv.length
 rw [List.length_map] at len
 refine gU hh (show s.heap.IsTuple a its.toArray from ht) (by simpa using intsAre_of rv) (by rw [List.size_toArray]; unfold scanBound; omega) λ h' tk hS hk=>?_
 rw [show its.toArray.size=ns.length by simp [len]] at hS
 have kp:∀b o,s.heap.get? b=some o->h'.get? b=some o:=λ b o e=>hk b o (Heap.lt_size e) e
 exact ⟨.ref s.heap.objs.size,_,I.laid (t':=tk) (o:=.set _ (unlike ns)) kp (Nat.le_refl _) hS,rfl,q _ _ (I.hok.fresh (Nat.le_refl _))⟩
theorem iP:aZ X (.builtin "len") (λ xs H Q=>∃(a:Addr) (S:Int->Bool) (n:Nat),xs=[.ref a]/\H a=some (.set S n)/\Q (.int n) H):=by
 intro pins s σ H xs us Q I r h
 obtain ⟨a,S,n,rfl,hq,q⟩:=h
 obtain ⟨u,rfl,rx⟩:=vals1 r
 cases rx
 obtain ⟨o,es,ep,t,h1,h2,h3,h4,h5,h6,h7,h8⟩:=I.hok _ _ hq
 subst h8
 refine call_len_set h1 h2 h3 h7 (by have:es.size < 4096:=h6; omega) ⟨.int _,H,I.tok _,⟨_,rfl⟩,q⟩
noncomputable def gW (P:Program) (w:World) (a:Addr) (S:Key->Bool) (n:Nat):HO:=.ext λ h=>h.SetOf (aR P w) a S n
theorem ou {P:Program} {w:World} {H:Hp} {h:Heap} {a:Addr} {S:Key->Bool} {n:Nat} (x:h.SetOf (aR P w) a S n):aT P w H h a (gW P w a S n):=by
 obtain ⟨o,r⟩:=id x
 obtain ⟨es,ep,t,e,r⟩:=r
 refine ⟨x,⟨o,e⟩,λ h1 h2 ⟨o1,es1,ep1,t1,e1,r1⟩ k=>⟨o1,es1,ep1,t1,k _ e1,r1⟩⟩
theorem qb:aZ X (.type "set") (λ xs H Q=>xs=[]/\∀p,H p=none->Q (.ref p) (upd H p (gW X.prog X.w p (λ _=>false) 0))):=by
 intro pins s σ H xs us Q I r h
 obtain ⟨rfl,q⟩:=h
 cases r
 refine call_set_0 λ led=>?_
 have hget:(s.heap.push {cls:=.type "set",dict:=none,data:=.set #[] 0 (.fresh 0 0 led)}).get? s.heap.objs.size=some {cls:=.type "set",dict:=none,data:=.set #[] 0 (.fresh 0 0 led)}:=Heap.get?_push_size _ rfl
 refine ⟨.ref s.heap.objs.size,_,I.laid (t':=s.toks) (o:=gW X.prog X.w s.heap.objs.size (λ _=>false) 0) (λ b o e=>Heap.get?_push_of_some _ e) (Nat.le_refl _) (ou ?_),rfl,q _ (I.hok.fresh (Nat.le_refl _))⟩
 letI:BEq Key:=⟨λ a b=>decide (a=b)⟩
 haveI:LawfulBEq Key:={eq_of_beq:=λ h=>of_decide_eq_true h,rfl:=decide_eq_true rfl}
 exact SetOf_congr ((setObjOf_fresh (knd:=aR X.prog X.w) led).setOf hget (by unfold scanBound; omega)) (λ _=>rfl) rfl
theorem su {k:Key} {u:Value} (r:RelV (kV k) u):gF k u=true/\u.scannable=true:=by
 cases k with
 | inl i=>obtain ⟨t,rfl⟩:=r; exact ⟨iY i t,rfl⟩
 | inr x=>obtain ⟨t,rfl⟩:=r; exact ⟨iZ x t,rfl⟩
noncomputable def zK (P:Program) (w:World):R2:=λ x y H Q=>∃a S n k,y=.ref a/\x=kV k/\H a=some (gW P w a S n)/\Q (.bl (S k)) H
theorem qc:OpR X (compareOp .In) (zK X.prog X.w):=by
 intro pins s σ H x y v u Q I rx ry h
 obtain ⟨a,S,n,k,rfl,rfl,ha,q⟩:=h
 cases ry
 obtain ⟨h1,h2⟩:=su rx
 obtain ⟨hS,_⟩:=I.hok _ _ ha
 exact wpAny_inSet_of (knd:=aR X.prog X.w) h1 h2 hS ⟨.bl _,H,I.tok _,rfl,q⟩
noncomputable def vL (P:Program) (w:World):V->List V->Hp->VK->Prop:=λ x vs H Q=>∃a S n k,x=.ref a/\vs=[kV k]/\H a=some (gW P w a S n)/\n < 4000/\Q .non (upd H a (gW P w a (λ j=>S j||decide (j=k)) (if S k then n else n+1)))
theorem mW:MtM X "set.add" (vL X.prog X.w):=by
 intro pins s σ H x vs v us Q I rx rv h
 obtain ⟨a,S,n,k,rfl,rfl,ha,hz,q⟩:=h
 cases rx
 obtain ⟨u,rfl,ru⟩:=rv.one
 obtain ⟨h1,h2⟩:=su ru
 obtain ⟨hS,_⟩:=id (I.hok _ _ ha)
 refine call_set_add (knd:=aR X.prog X.w) h1 h2 hS (by unfold scanBound; omega) λ h' sb hS'=>?_
 have he:∃u,h'.get? a=some u:=by obtain ⟨o,es,ep,t,e,_⟩:=hS'; exact ⟨o,e⟩
 exact ⟨.non,_,I.write (x:=a) (e:=a) (t':=s.toks+1) (by rw [ha]; trivial) (.inl rfl) (λ b o hb e=>sb.extBut b o hb e) he (ou hS'),rfl,q⟩
end
end L2
end
section
namespace L2
open PySem PySem.Spec PyProof.Rows
section
variable {prog:Program} {w:World} {A:Around} {E:Value->Shared->Prop}
theorem xQ {it l:Addr} {its:Array Value} (ne:l≠it):∀(n i:Nat) (s:Shared) (Q:List Value->Shared->Prop),s.heap.IsListIter it l i->s.heap.IsList l its->i+n<=its.size->
  (∀h',h'.IsListIter it l (i+n)->Heap.SameBut it s.heap h'->Q ((its.toList.drop i).take n) {s with heap:=h'})->wpAny (model prog w) A (draw (.ref it) n) Q E s
 | 0,i,s,Q,a,_,_,q=>by
  show wpAny _ _ (pure []) Q E s
  exact wpAny_pure (by simpa using q s.heap a (Heap.SameBut.refl ..))
 | n+1,i,s,Q,a,b,le,q=>by
  have lt:i < its.size:=by omega
  show wpAny _ _ (pyNext (.ref it) >>= _) Q E s
  refine wpAny_bind (wpAny_pyNext_list_item a b (x:=its[i]) (by simp [lt]) λ h1 a1 s1=>?_)
  refine wpAny_bind (wpAny_holding (xQ ne n (i+1) _ _ a1 (b.extBut s1.extBut ne) (by omega) λ h2 a2 s2=>wpAny_pure ?_))
  have e:its.toList.drop i=its[i]::its.toList.drop (i+1):=by simp [List.drop_eq_getElem_cons,lt]
  have z:=q h2 (by rw [show i+(n+1)=i+1+n by omega]; exact a2) (s1.trans s2)
  rw [e,List.take_succ_cons] at z
  exact z
theorem vM {s:Shared} {t:Addr} {its:Array Value} {tgs:List (Bool×(Value->Sem Unit))} {Q:Unit->Shared->Prop} (hh:A.handled=none) (ht:s.heap.IsList t its)
  (hn:tgs.length=its.size) (hst:tgs.findIdx? (·.1)=none)
  (h:∀h',Heap.ExtBut s.heap.objs.size s.heap h'->wpAny (model prog w) A (assignInOrder (tgs.map (·.2)) its.toList) Q E {s with heap:=h'}) :
  wpAny (model prog w) A (unpack (.ref t) tgs) Q E s:=by
 have ne:t≠s.heap.objs.size:=by obtain ⟨o,ho,_⟩:=ht; exact Nat.ne_of_lt (Heap.lt_size ho)
 unfold unpack
 rw [hn,hst]
 refine wpAny_bind (wpAny_holding ?_)
 unfold unpackItems
 refine wpAny_bind ?_
 ·unfold notIterableAtAll
  refine wpAny_bind (wpAny_specialOf ht.typeIs slot_list_iter.lookup (wpAny_pure ?_))
  simp only [Bool.false_eq_true,if_false]
  refine wpAny_bind (wpAny_holding (wpAny_pyIter_list ht ?_))
  refine wpAny_bind (wpAny_holding (xQ ne its.size 0 _ _ ⟨_,Heap.get?_push_size _ rfl,rfl,rfl⟩ (ht.push _) (by omega) λ h1 a1 s1=>?_))
  have all:List.take its.size (List.drop 0 its.toList)=its.toList:=by rw [List.drop_zero]; exact List.take_of_length_le (by simp)
  rw [all,if_neg (by simp)]
  have b1:h1.IsList t its:=(ht.push _).extBut s1.extBut ne
  refine wpAny_bind (wpAny_holding (wpAny_pyNext_list_end hh a1 b1 (by simp) λ h2 e2=>?_))
  simp only [Option.isSome_none,Bool.false_eq_true,if_false]
  exact wpAny_pure (h h2 λ b o hb e=>e2 b o hb (s1.extBut b o hb (Heap.get?_push_of_some _ e)))
end
section
variable {X:Cx} {pos:Pos}
noncomputable def DL (K:PySem.W.Frag) (n:Nat) (t:TGs):TG:=λ v σ H Q=>∃a xs,v=.ref a/\SqL K H a xs/\xs.length=n/\t xs σ H Q
theorem zL {es:List Expr} {k:Nat} {t:TGs} {n:Nat} (hc:X.calm=true) (h:PGs X es t)
  (hn:(assignEach es X.env).length=n:=by rfl) (hst:(assignEach es X.env).findIdx? (·.1)=none:=by rfl):PG X (.Tuple es k pos) (DL X.K n t):=by
 intro pins s σ H v u Q I r hw
 obtain ⟨a,xs,rfl,hq,hl,hw⟩:=hw
 cases r
 obtain ⟨its,rv,pl,hz⟩:=I.list hq
 rw [assign_Tuple]
 refine wpAny_bind (wpAny_standAt (vM (I.ok.hd hc) pl.isList (by simp [hn,<-hl,rv.length]) hst λ h' hx=>?_))
 have I1:Inv X pins σ H {s with heap:=h'}:=I.kept (t':=s.toks) λ b o e=>hx b o (Nat.ne_of_lt (Heap.lt_size e)) e
 exact h pins _ σ H xs _ Q I1 (by simpa using rv) hw
theorem qd:OpR X (compareOp .LtE) (λ x y H Q=>∃i j,x=.str i/\y=.str j/\Q (.bl (!decide (j.cps.toList < i.cps.toList))) H):=by
 intro pins s σ H x y v u Q I rx ry h
 obtain ⟨i,j,rfl,rfl,q⟩:=h
 obtain ⟨t,rfl⟩:=rx
 obtain ⟨t',rfl⟩:=ry
 exact PySem.P.le_str (gI I q rfl)
theorem zM:SlR X (λ x lo hi H Q=>∃z,x=.str z/\z.length<=sizeLine/\Q (.str (Txt.slice z lo hi)) H):=by
 intro pins s σ H x v vl vu lo hi sl Q I rx hs pl pu h
 obtain ⟨z,rfl,hz,q⟩:=h
 obtain ⟨t,rfl⟩:=rx
 have fin:∀t' k,EP X pins σ Q (.str (Txt.slice z lo hi) t') {s with toks:=k}:=λ t' k=>⟨.str _,H,I.tok k,⟨_,rfl⟩,q⟩
 have hle:=Nat.le_trans (Txt.slice_le z lo hi) hz
 refine ⟨"str",_,F.slot_str_getitem.lookup,typeIs_str _ _ _,?_⟩
 cases pl with
 | none=>
  cases pu with
  | none=>exact wpAny_getItem_str_slice (l:=none) (u:=none) (st:=none) hs rfl (post_val_or_str ⟨hle,fin⟩)
  | int j uj=>exact wpAny_getItem_str_slice (l:=none) (u:=some (j,uj)) (st:=none) hs rfl (post_val_or_str ⟨hle,fin⟩)
 | int i ui=>
  cases pu with
  | none=>exact wpAny_getItem_str_slice (l:=some (i,ui)) (u:=none) (st:=none) hs rfl (post_val_or_str ⟨hle,fin⟩)
  | int j uj=>exact wpAny_getItem_str_slice (l:=some (i,ui)) (u:=some (j,uj)) (st:=none) hs rfl (post_val_or_str ⟨hle,fin⟩)
theorem sy:aZ X (.type "range") (λ xs H Q=>∃n:Int,xs=[.int n]/\∀p,H p=none->Q (.ref p) (upd H p (.rng 0 n))):=by
 intro pins s σ H xs us Q I r h
 obtain ⟨n,rfl,q⟩:=h
 obtain ⟨u,rfl,rx⟩:=vals1 r
 obtain ⟨t,rfl⟩:=rx
 exact call_range_1 ⟨.ref s.heap.objs.size,_,I.laid (o:=.rng 0 n) (λ b o e=>Heap.get?_push_of_some _ e) (Nat.le_refl _) ⟨_,_,_,Heap.get?_push_size _ rfl⟩,rfl,q _ (I.hok.fresh (Nat.le_refl _))⟩
noncomputable def upTo (n:Nat):List V:=(List.range n).map λ i=>V.int (i:Nat)
theorem qe {acc:Array Value} {n:Nat} (h:ItemsOf (λ i v=>∃t,v=.int (0+(i:Int)*1) t) acc n):Vals (upTo n) acc.toList:=by
 obtain ⟨h1,h2⟩:=h
 have key:∀(l:List Value) (k:Nat),(∀(j:Nat) v,l[j]?=some v->∃t,v=.int ((k+j:Nat):Int) t)->Vals ((List.range' k l.length).map λ i=>V.int (i:Nat)) l:=by
  intro l
  induction l with
  | nil=>intro k _; exact .nil
  | cons v r ih=>
   intro k hv
   rw [List.length_cons,List.range'_succ,List.map_cons]
   refine .cons (hv 0 v rfl) (ih (k+1) λ j u hj=>?_)
   obtain ⟨t,e⟩:=hv (j+1) u (by simpa using hj)
   exact ⟨t,by rw [e,show k+(j+1)=k+1+j by omega]⟩
 have q:=key acc.toList 0 λ j v hj=>by
  obtain ⟨t,e⟩:=h2 j v (by simpa using hj)
  exact ⟨t,by rw [e]; congr 1; omega⟩
 rw [Array.length_toList,h1,<-List.range_eq_range'] at q
 exact q
theorem iQ (hh:X.A.handled=none):aZ X (.type "list") (λ xs H Q=>∃(a:Addr) (n:Nat),xs=[.ref a]/\H a=some (.rng 0 n)/\n<=1000000/\∀p,H p=none->Q (.ref p) (upd H p (.lst (upTo n)))):=by
 intro pins s σ H xs us Q I r h
 obtain ⟨a,n,rfl,ha,hz,q⟩:=h
 obtain ⟨u,rfl,rx⟩:=vals1 r
 cases rx
 obtain ⟨t,u,v,e⟩:=I.hok _ _ ha
 have hn:Builtin.Range.rangeSize 0 n 1=(n:Int):=by rw [rangeSize_one]; split<;>omega
 refine call_list_range (n:=n) hh (show IsRange s.heap a 0 n 1 t u v from e) (small_one (by omega) (by omega) (by omega) (by omega)) hn (Nat.le_trans hz (by decide)) λ h' tk acc c kp eo hi=>?_
 refine ⟨.ref s.heap.objs.size,_,I.laid (t':=tk) (o:=.lst (upTo n)) kp (Nat.le_refl _) ⟨?_,acc.toList,c,qe hi,eo⟩,rfl,q _ (I.hok.fresh (Nat.le_refl _))⟩
 unfold upTo
 rw [List.length_map,List.length_range]
 exact Nat.le_trans hz (by decide)
end
end L2
end
section
namespace L2
open PySem PySem.Spec PyProof.Rows
open AutoSeq1 (wpAny_loadPart')
section
variable {prog:Program} {w:World} {A:Around} {E:Value->Shared->Prop} {s:Shared}
theorem nextT {it l:Addr} {i:Nat} {its:Array Value} {x:Value} {Q:Value->Shared->Prop} (a:s.heap.IsTupleIter it l i) (b:s.heap.IsTuple l its) (hx:its[i]?=some x)
  (q:∀h',h'.IsTupleIter it l (i+1)->Heap.SameBut it s.heap h'->Q x {s with heap:=h'}):wpAny (model prog w) A (Builtin.SmallTypes.nextOf (.ref it)) Q E s:=by
 obtain ⟨o,o1,o2,o3⟩:=id a
 obtain ⟨p,p1,_,n,p2⟩:=b
 unfold Builtin.SmallTypes.nextOf
 refine wpAny_bind (wpAny_callSpecial?_slot (name:=Str.ofString "__next__") a.typeIs F.slot_tuple_iterator_next (wpAny_call_entry F.slot_tuple_iterator_next a.typeIs F.entry_tuple_iterator_next ?_ (F.args_tuple_iterator_next_1 _)))
 show wpAny _ _ (field (.ref it) 0 >>= _) _ _ s
 refine wpAny_bind (wpAny_field o1 o3 (x:=.ref l) rfl ?_)
 show wpAny _ _ (if (Value.ref l==Value.none)=true then _ else _) _ _ s
 rw [if_neg (show ¬((Value.ref l==Value.none)=true) from Bool.false_ne_true)]
 show wpAny _ _ (field (.ref it) 1 >>= _) _ _ s
 refine wpAny_bind (wpAny_field o1 o3 (x:=.int i 0) rfl ?_)
 show wpAny _ _ (seqItems? (.ref l) >>= _) _ _ s
 refine wpAny_bind (wpAny_seqItems p1 p2 ?_)
 simp only [Int.toNat_natCast,hx]
 refine wpAny_bind (wpAny_setField o1 o3 (by simp) (wpAny_pure ⟨x,rfl,wpAny_pure (q _ ?_ (Heap.SameBut.update ..))⟩))
 exact ⟨_,Heap.get?_update_self _ o1 (Obj.isFreed_of_fields (Obj.data_mapFields o3 _)),(Obj.cls_mapFields ..).trans o2,by rw [Obj.data_mapFields o3]; simp [rawInt]⟩
theorem sA {it l:Addr} {i:Nat} {its:Array Value} {Q:Value->Shared->Prop} (hh:A.handled=none) (a:s.heap.IsTupleIter it l i) (b:s.heap.IsTuple l its) (hx:its[i]?=none)
  (q:∀h' e,Heap.ExtBut it s.heap h'->(∃o,h'.get? e=some o/\o.cls=.type "StopIteration")->E (.ref e) {s with heap:=h'}):wpAny (model prog w) A (Builtin.SmallTypes.nextOf (.ref it)) Q E s:=by
 obtain ⟨o,o1,o2,o3⟩:=id a
 obtain ⟨p,p1,_,n,p2⟩:=b
 unfold Builtin.SmallTypes.nextOf
 refine wpAny_bind (wpAny_callSpecial?_slot (name:=Str.ofString "__next__") a.typeIs F.slot_tuple_iterator_next (wpAny_call_entry F.slot_tuple_iterator_next a.typeIs F.entry_tuple_iterator_next ?_ (F.args_tuple_iterator_next_1 _)))
 show wpAny _ _ (field (.ref it) 0 >>= _) _ _ s
 refine wpAny_bind (wpAny_field o1 o3 (x:=.ref l) rfl ?_)
 show wpAny _ _ (if (Value.ref l==Value.none)=true then _ else _) _ _ s
 rw [if_neg (show ¬((Value.ref l==Value.none)=true) from Bool.false_ne_true)]
 show wpAny _ _ (field (.ref it) 1 >>= _) _ _ s
 refine wpAny_bind (wpAny_field o1 o3 (x:=.int i 0) rfl ?_)
 show wpAny _ _ (seqItems? (.ref l) >>= _) _ _ s
 refine wpAny_bind (wpAny_seqItems p1 p2 ?_)
 simp only [Int.toNat_natCast,hx]
 refine wpAny_bind (wpAny_rule (wpAny_bind (wpAny_setField o1 o3 (by simp) ?_)))
 show wpAny _ _ (newExc (.type "StopIteration") [] >>= _) _ _ _
 refine wpAny_bind ?_
 simp only [newExc,newTuple]
 refine wpAny_bind (wpAny_newObj_type ?_ (by size_fits))
 refine wpAny_bind (m:=firstArgMember _ _) (wpAny_of_eq (a:=Value.none) (by first | rfl | (simp only [firstArgMember]; rfl)) ?_)
 refine wpAny_newObj_type ?_ (by size_fits)
 simp only [raiseNew]
 refine wpAny_bind (wpAny_handled ?_)
 first | rw [show A.in1.handled=none from hh] | rw [hh]
 refine wpAny_bind (wpAny_pure (wpAny_throw ?_))
 refine q _ _ (λ b o hb e=>?_) ⟨_,Heap.get?_push_size _ rfl,rfl⟩
 exact Heap.get?_push_of_some _ (Heap.get?_push_of_some _ ((Heap.SameBut.update ..).extBut b o hb e))
theorem mX {e it l:Addr} {i:Nat} {its:Array Value} {x old:Value} {Q:Option Value->Shared->Prop}
  (he:IsEnum s.heap e it i old) (a:s.heap.IsTupleIter it l i) (b:s.heap.IsTuple l its) (hx:its[i]?=some x) (ne:e≠it)
  (q:∀h',IsEnumOut h' e it ((i:Int)+1) x s.heap.objs.size->h'.IsTupleIter it l (i+1)->
   h'.get? s.heap.objs.size=some {cls:=.type "tuple",data:=.seq #[.int i s.toks,x]}->h'.objs.size=s.heap.objs.size+1->
   (∀b o,b≠e->b≠it->s.heap.get? b=some o->h'.get? b=some o)->Q (some (.ref s.heap.objs.size)) {s with heap:=h',toks:=s.toks+1}) :
  wpAny (model prog w) A (pyNext (.ref e)) Q E s:=by
 have hT:s.TypeIs (.ref e) "enumerate":=⟨_,he,rfl⟩
 unfold pyNext
 refine wpAny_bind (wpAny_attempt (wpAny_callSpecial?_slot (name:=Str.ofString "__next__") hT F.slot_enumerate_next (wpAny_call_entry F.slot_enumerate_next hT F.entry_enumerate_next ?_ (F.args_enumerate_next_1 _))))
 obtain ⟨hp,g,d,tk,os⟩:=s
 show wpAny _ _ (field (.ref e) 2 >>= _) _ _ _
 refine wpAny_bind (wpAny_field he rfl (x:=.ref it) rfl ?_)
 refine wpAny_bind (nextT a b hx λ h1 a1 s1=>?_)
 replace s1:Heap.SameBut it hp h1:=s1
 have e1:IsEnum h1 e it i old:=(s1.2 e ne).trans he
 show wpAny _ _ (field (.ref e) 3 >>= _) _ _ ⟨h1,g,d,tk,os⟩
 refine wpAny_bind (wpAny_field e1 rfl (x:=rawInt i) rfl ?_)
 show wpAny _ _ (field (.ref e) 4 >>= _) _ _ ⟨h1,g,d,tk,os⟩
 refine wpAny_bind (wpAny_field e1 rfl (x:=.none) rfl ?_)
 show wpAny _ _ (mkInt i >>= _) _ _ ⟨h1,g,d,tk,os⟩
 refine wpAny_bind (wpAny_mkInt ?_)
 show wpAny _ _ (setField (.ref e) 3 (rawInt ((i:Int)+1)) >>= _) _ _ ⟨h1,g,d,tk+1,os⟩
 refine wpAny_bind (wpAny_setField_rec e1 (by simp) λ h2 e2 s2=>?_)
 replace s2:Heap.SameBut e h1 h2:=s2
 replace e2:IsEnum h2 e it ((i:Int)+1) old:=e2
 show wpAny _ _ (setField (.ref e) 4 .none >>= _) _ _ ⟨h2,g,d,tk+1,os⟩
 refine wpAny_bind (wpAny_setField_rec e2 (by simp) λ h3 e3 s3=>?_)
 replace s3:Heap.SameBut e h2 h3:=s3
 replace e3:IsEnum h3 e it ((i:Int)+1) old:=e3
 show wpAny _ _ (newTuple [.int i tk,x] >>= _) _ _ ⟨h3,g,d,tk+1,os⟩
 refine wpAny_bind (wpAny_newTuple ?_)
 have e4:IsEnum (h3.push {cls:=.type "tuple",data:=.seq #[.int i tk,x]}) e it ((i:Int)+1) old:=Heap.get?_push_of_some _ e3
 generalize hh4:h3.push {cls:=.type "tuple",data:=.seq #[.int i tk,x]}=h4 at e4
 have sz:h3.objs.size=hp.objs.size:=by rw [s3.1,s2.1,s1.1]
 have el:e < hp.objs.size:=Heap.lt_size he
 have t4:h4.get? hp.objs.size=some {cls:=.type "tuple",data:=.seq #[.int i tk,x]}:=by rw [<-hh4,<-sz]; exact Heap.get?_push_size _ rfl
 have z4:h4.objs.size=hp.objs.size+1:=by rw [<-hh4,Heap.size_push,sz]
 have k4:∀b o,b≠e->b≠it->hp.get? b=some o->h4.get? b=some o:=λ b o n1 n2 hb=>by
  rw [<-hh4]; exact Heap.get?_push_of_some _ (s3.extBut b o n1 (s2.extBut b o n1 (s1.extBut b o n2 hb)))
 have a4:h4.IsTupleIter it l (i+1):=by
  rw [<-hh4]; obtain ⟨o,ho,r⟩:=(a1.extBut s2.extBut (Ne.symm ne)).extBut s3.extBut (Ne.symm ne); exact ⟨o,Heap.get?_push_of_some _ ho,r⟩
 show wpAny _ _ (Builtin.SmallTypes.ownedTupleIsFree (.ref e) >>= _) _ _ ⟨h4,g,d,tk+1,os⟩
 rw [sz]
 clear hh4 e3 s3 e2 s2 e1 s1 a1 sz h3 h2 h1
 refine wpAny_bind ?_
 unfold Builtin.SmallTypes.ownedTupleIsFree
 refine wpAny_bind (wpAny_field e4 rfl (x:=.none) rfl (wpAny_pure ?_))
 simp only [if_true]
 refine wpAny_bind (wpAny_rule ?_)
 refine wpAny_bind (wpAny_field e4 rfl (x:=old) rfl ?_)
 refine wpAny_bind (wpAny_setField_rec e4 (by simp) λ h5 e5 s5=>?_)
 replace s5:Heap.SameBut e h4 h5:=s5
 replace e5:IsEnum h5 e it ((i:Int)+1) x:=e5
 show wpAny _ _ (Builtin.SmallTypes.ownedTupleHandOut (.ref e) (.ref hp.objs.size) >>= _) _ _ ⟨h5,g,d,tk+1,os⟩
 refine wpAny_bind ?_
 unfold Builtin.SmallTypes.ownedTupleHandOut
 refine wpAny_bind (wpAny_setField_rec e5 (by simp) λ h6 e6 s6=>?_)
 replace s6:Heap.SameBut e h5 h6:=s6
 replace e6:IsEnumOut h6 e it ((i:Int)+1) x hp.objs.size:=e6
 refine wpAny_setField_rec e6 (by simp) λ h7 e7 s7=>?_
 replace s7:Heap.SameBut e h6 h7:=s7
 replace e7:IsEnumOut h7 e it ((i:Int)+1) x hp.objs.size:=e7
 refine wpAny_bind (wpAny_letGo (wpAny_pure ⟨_,rfl,wpAny_pure (q h7 e7 ?_ ?_ ?_ ?_)⟩))
 ·exact ((a4.extBut s5.extBut (Ne.symm ne)).extBut s6.extBut (Ne.symm ne)).extBut s7.extBut (Ne.symm ne)
 ·exact s7.extBut _ _ (Nat.ne_of_gt el) (s6.extBut _ _ (Nat.ne_of_gt el) (s5.extBut _ _ (Nat.ne_of_gt el) t4))
 ·rw [s7.1,s6.1,s5.1,z4]
 ·exact λ b o n1 n2 hb=>s7.extBut b o n1 (s6.extBut b o n1 (s5.extBut b o n1 (k4 b o n1 n2 hb)))
theorem qf {e it l:Addr} {i:Nat} {its:Array Value} {old:Value} {Q:Option Value->Shared->Prop} (hh:A.handled=none)
  (he:IsEnum s.heap e it i old) (a:s.heap.IsTupleIter it l i) (b:s.heap.IsTuple l its) (hx:its[i]?=none)
  (q:∀h',Heap.ExtBut it s.heap h'->Q none {s with heap:=h'}):wpAny (model prog w) A (pyNext (.ref e)) Q E s:=by
 have hT:s.TypeIs (.ref e) "enumerate":=⟨_,he,rfl⟩
 unfold pyNext
 refine wpAny_bind (wpAny_attempt (wpAny_callSpecial?_slot (name:=Str.ofString "__next__") hT F.slot_enumerate_next (wpAny_call_entry F.slot_enumerate_next hT F.entry_enumerate_next ?_ (F.args_enumerate_next_1 _))))
 show wpAny _ _ (field (.ref e) 2 >>= _) _ _ _
 refine wpAny_bind (wpAny_field he rfl (x:=.ref it) rfl ?_)
 refine wpAny_bind (sA hh a b hx λ h' x k1 k2=>?_)
 obtain ⟨o,o1,o2⟩:=k2
 refine wpAny_bind (wpAny_isInstance (T:="StopIteration") (b:=true) ⟨o,o1,o2⟩ isSubtype_stop ?_)
 exact wpAny_pure (q _ k1)
theorem qg (l:Addr) (its:Array Value) (n:Nat) (dct:Option Addr) (sl:Array (Option Value)) :
  Meets (Builtin.«enumerate.__new__» ⟨[.type "enumerate",.ref l],[]⟩) (λ _ R s=>s.heap.get? l=some {cls:=.type "tuple",dict:=dct,data:=.seq its n,slots:=sl}/\
   R (.ok (.ret (.ref (s.heap.push {cls:=.type "tuple_iterator",data:=.fields #[.ref l,.int 0 0]}).objs.size)))
    {s with heap:=(s.heap.push {cls:=.type "tuple_iterator",data:=.fields #[.ref l,.int 0 0]}).push {cls:=.type "enumerate",data:=.fields #[.none,.bool false,.ref s.heap.objs.size,rawInt 0,.none,.none]}}):=
 .of_wp λ prog w A R s h=>by
  obtain ⟨hp,g,d,tk,os⟩:=s; obtain ⟨hl,h⟩:=h
  have hsub:=sub_enumerate
  have hL:Heap.IsTuple (Shared.heap ⟨hp,g,d,tk,os⟩) l its:=⟨_,hl,rfl,n,rfl⟩
  wp_walk using wpAny_loadPart' hl
  refine wpAny_stack_any λ st=>wpAny_pure ?_
  split
  ·rename_i c _ _ _ _ _
   cases (c==Value.type "enumerate")
   all_goals
    wp_walk using wpAny_loadPart' hl,wpAny_pyIter_tuple hL
    exact ⟨_,rfl,h⟩
  ·wp_walk using wpAny_loadPart' hl,wpAny_pyIter_tuple hL
   exact ⟨_,rfl,h⟩
theorem mY {l:Addr} {its:Array Value} {Q:Value->Shared->Prop} (hL:s.heap.IsTuple l its)
  (h:∀h',IsEnum h' (s.heap.objs.size+1) s.heap.objs.size 0 .none->h'.IsTupleIter s.heap.objs.size l 0->h'.objs.size=s.heap.objs.size+2->
   (∀b o,s.heap.get? b=some o->h'.get? b=some o)->Q (.ref (s.heap.objs.size+1)) {s with heap:=h'}) :
  wpAny (model prog w) A (call (.type "enumerate") [.ref l]) Q E s:=by
 obtain ⟨⟨c,dct,dt,sl⟩,hl,hc,n,hd⟩:=hL
 replace hc:c=.type "tuple":=hc
 replace hd:dt=.seq its n:=hd
 subst hc hd
 refine callType_new F.called_enumerate (by decide) (F.typeCall_enumerate_1 _) (F.newCall_enumerate_1 _) (λ obj=>F.args_object_init_2 obj _) F.entry_enumerate_new (qg l its n dct sl) ⟨hl,?_⟩
 have hz:(s.heap.push {cls:=.type "tuple_iterator",data:=.fields #[.ref l,.int 0 0]}).objs.size=s.heap.objs.size+1:=Heap.size_push ..
 show _/\_
 rw [hz]
 have he:IsEnum ((s.heap.push {cls:=.type "tuple_iterator",data:=.fields #[.ref l,.int 0 0]}).push
   {cls:=.type "enumerate",data:=.fields #[.none,.bool false,.ref s.heap.objs.size,rawInt 0,.none,.none]}) (s.heap.objs.size+1) s.heap.objs.size 0 .none:=by
  have:=Heap.get?_push_size (s.heap.push {cls:=.type "tuple_iterator",data:=.fields #[.ref l,.int 0 0]})
   (o:={cls:=.type "enumerate",data:=.fields #[.none,.bool false,.ref s.heap.objs.size,rawInt 0,.none,.none]}) rfl
  rw [hz] at this; exact this
 refine ⟨⟨_,he,rfl⟩,h _ he ⟨_,Heap.get?_push_of_some _ (Heap.get?_push_size _ rfl),rfl,rfl⟩ (by rw [Heap.size_push,hz]) λ b o x=>Heap.get?_push_of_some _ (Heap.get?_push_of_some _ x)⟩
end
end L2
end
section
namespace L2
open PySem PySem.Spec PyProof.Rows
noncomputable def Iet (K:PySem.W.Frag) (a:Addr):It:=
 ⟨λ i H=>∃xs x,SqT K H a xs/\xs[i]?=some x,λ i H x H'=>∃p v,H p=none/\x=.ref p/\H'=upd H p (.tup [.int i,v])/\∀xs,SqT K H a xs->xs[i]?=some v,λ i H=>∃xs,SqT K H a xs/\xs.length<=i⟩
theorem mZ {P:Program} {w:World} {K:PySem.W.Frag} {elts:List Expr} {x1} {pos:Pos} (a e it:Addr) (hne:e≠it) :
  Turn P w K (.Tuple elts x1 pos) (Iet K a) [e,it] e (λ i h=>(∃old,IsEnum h e it (i:Int) old)/\h.IsTupleIter it a i) where
 mem:=by simp
 obj:=λ i h st b hb=>by
  obtain ⟨⟨old,he⟩,o,ho,hc,hd⟩:=st
  rcases List.mem_cons.mp hb with rfl | hb
  ·refine ⟨_,he,λ v q=>?_⟩
   have q':Data.fields _=Data.cell v:=q
   cases q'
  ·obtain rfl:b=it:=by simpa using hb
   exact ⟨o,ho,λ v q=>by rw [hd] at q; cases q⟩
 keep:=λ i h h' st k=>by
  obtain ⟨⟨old,he⟩,o,ho,r⟩:=st
  exact ⟨⟨old,k e (by simp) _ he⟩,o,k it (by simp) o ho,r⟩
 item:=by
  intro X hP hw hK hc i pins s σ H E I hf st hg
  subst hP hw hK
  obtain ⟨xs,x,hq,hx⟩:=hg
  obtain ⟨⟨old,he⟩,hit⟩:=st
  obtain ⟨its,rv,p,hz⟩:=I.tuple hq
  obtain ⟨u,hu,ru⟩:=rv.get hx
  obtain ⟨f0,f1,f2,f3,f4,f5⟩:=hf e (by simp)
  obtain ⟨g0,g1,g2,g3,g4,g5⟩:=hf it (by simp)
  refine mX he hit (show s.heap.IsTuple a its.toArray from p) (x:=u) (by simpa using hu) hne λ h1 ho hi ht hs k1=>⟨_,rfl,?_⟩
  have he':e < s.heap.objs.size:=Heap.lt_size he
  have hi':it < s.heap.objs.size:=by obtain ⟨o,q,_⟩:=hit; exact Heap.lt_size q
  refine wpAny_letOwnedTupleGo_enum (s:={s with heap:=h1,toks:=s.toks+1}) ho λ h2 hE sb=>?_
  have k2:∀b o,b≠e->b≠it->s.heap.get? b=some o->h2.get? b=some o:=λ b o n1 n2 q=>sb.extBut b o n1 (k1 b o n1 n2 q)
  have ht2:h2.get? s.heap.objs.size=some {cls:=.type "tuple",data:=.seq #[.int i s.toks,u]}:=sb.extBut _ _ (Nat.ne_of_gt he') ht
  have hsz2:h2.objs.size=s.heap.objs.size+1:=by rw [sb.1]; exact hs
  have hHs:H s.heap.objs.size=none:=I.hok.fresh (Nat.le_refl _)
  have nt:∀b o,H b=some o->b≠e/\b≠it:=λ b o q=>⟨(λ z=>by rw [z,f0] at q; cases q),(λ z=>by rw [z,g0] at q; cases q)⟩
  have hok:HOk X.prog X.w (upd H s.heap.objs.size (.tup [.int i,x])) h2:=by
   have lift:∀b o,H b=some o->aT X.prog X.w (upd H s.heap.objs.size (.tup [.int i,x])) h2 b o:=λ b o q=>
    (I.hok b o q).stay (λ c v hcv r=>k2 c v (by
     rcases hcv with z | z
     ·rw [z]; exact (nt b o q).1
     ·exact (nt c _ z).1) (by
     rcases hcv with z | z
     ·rw [z]; exact (nt b o q).2
     ·exact (nt c _ z).2) r) (λ c r=>by rw [ai (aq r hHs)]; exact r) λ c ys r=>by rw [ai (aq r hHs)]; exact r
   intro b o q
   by_cases eb:b=s.heap.objs.size
   ·subst eb
    rw [aA] at q
    cases q
    exact ⟨by show 2<=sizeLine; decide,[.int i s.toks,u],.cons ⟨_,rfl⟩ (.cons ru .nil),⟨_,ht2,rfl,_,rfl⟩⟩
   ·rw [ai eb] at q
    exact lift b o q
  have I2:Inv X pins σ (upd H s.heap.objs.size (.tup [.int i,x])) {s with heap:=h2,toks:=s.toks+1}:=by
   refine I.step (g':=s.gens) (d':=s.drawn) (ch:=[e,it]) (λ b hb=>?_) (λ b o hL hb hcb q n=>?_) (λ b o hL hb hcb q n=>?_) (λ b o hcb q n=>?_) (λ b o hcb q=>?_) (λ b ys q=>by rw [ai (aq q hHs)]; exact q) (λ b o u q=>by rw [ai (aq q hHs)]; exact q)
    (λ b ps q=>⟨#[],by rw [ai (aq q hHs),q]; simp⟩) (λ m hm=>?_) hok I.bare
   ·rcases List.mem_cons.mp hb with rfl | hb
    ·exact ⟨f3,f1,f4,f5⟩
    ·obtain rfl:b=it:=by simpa using hb
     exact ⟨g3,g1,g4,g5⟩
   ·simp only [List.mem_cons,List.not_mem_nil,or_false,not_or] at hcb
    exact k2 b o hcb.1 hcb.2 q
   ·simp only [List.mem_cons,List.not_mem_nil,or_false,not_or] at hcb
    exact ⟨o.slots,k2 b o hcb.1 hcb.2 q⟩
   ·rw [ai (Nat.ne_of_lt (Heap.lt_size q))]; exact n
   ·simp only [List.mem_cons,List.not_mem_nil,or_false,not_or] at hcb
    exact ⟨o,k2 b o hcb.1 hcb.2 q⟩
   ·obtain ⟨o,es,ep,q,r⟩:=hm
    exact ⟨o,es,ep,k2 _ o (Ne.symm f1) (Ne.symm g1) q,r⟩
  refine ⟨.ref s.heap.objs.size,_,I2,rfl,⟨_,x,hHs,rfl,rfl,λ ys hy=>by rw [I.i7 hy hq]; exact hx⟩,⟨⟨_,by have:=hE; rw [show ((i:Int)+1)=((i+1:Nat):Int) by omega] at this; exact this⟩,?_⟩,λ b hb=>?_⟩
  ·obtain ⟨o,q,r⟩:=hi
   exact ⟨o,sb.extBut _ _ (Ne.symm hne) q,r⟩
  ·rcases List.mem_cons.mp hb with rfl | hb
   ·rw [ai (Nat.ne_of_lt he')]; exact f0
   ·obtain rfl:b=it:=by simpa using hb
    rw [ai (Nat.ne_of_lt hi')]; exact g0
 done:=by
  intro X hP hw hK hc i pins s σ H E I hf st hg
  subst hP hw hK
  obtain ⟨xs,hq,hx⟩:=hg
  obtain ⟨⟨old,he⟩,hit⟩:=st
  obtain ⟨its,rv,p,hz⟩:=I.tuple hq
  obtain ⟨g0,g1,g2,g3,g4,g5⟩:=hf it (by simp)
  have hl:=rv.length
  exact qf (I.ok.hd hc) he hit (show s.heap.IsTuple a its.toArray from p) (by simp; omega) λ h' eb=>⟨rfl,I.turned (t':=s.toks) (λ b o hb q=>eb b o hb q) g0 g1 g3 g4 g5⟩
 self:=λ _ _ _ _ _ st h=>by
  obtain ⟨⟨old,he⟩,_⟩:=st
  exact wpAny_pyIter_enum he h
section
variable {X:Cx}
noncomputable def zN (K:PySem.W.Frag) (ta:TA):TI:=fun σ H R=>ta σ H λ vs H1=>∃a,vs=[.ref a]/\(∃xs,SqT K H1 a xs)/\R (Iet K a) H1
theorem sC {l:Expr} {ta:TA} {p pos tpos:Pos} {elts:List Expr} {x1} (hg:Gl X "enumerate") (hm:X.mg "enumerate"=none) (ha:PA X [l] ta) (hs:starEach [l] X.env=[(false,eval l X.env)]:=by rfl) :
  PI X (.Tuple elts x1 tpos) (.Call (.Name "enumerate" p) [l] [] pos) (zN X.K ta):=by
 intro pins s σ H R I h
 refine Call_ (dD I hg hm (u:=.type "enumerate") (by decide +kernel) (PyProof.Rows.callWith_type1 (thn (ha pos pins s σ H _ I h) λ us s1 ⟨vs,H1,I1,r1,q1⟩=>?_) hs rfl))
 obtain ⟨a,rfl,⟨xs,hq⟩,q⟩:=q1
 obtain ⟨u,rfl,ru⟩:=vals1 r1
 cases ru
 obtain ⟨its,rv,pl,hz⟩:=I1.tuple hq
 refine mY (show s1.heap.IsTuple a its.toArray from pl) λ h' he hit hsz hk=>?_
 refine wpAny_pyIter_enum he ?_
 have I2:Inv X pins σ H1 {s1 with heap:=h'}:=I1.kept (t':=s1.toks) hk
 refine ⟨_,_,_,_,H1,rfl,I2,mZ a (s1.heap.objs.size+1) s1.heap.objs.size (Nat.succ_ne_self _),⟨⟨_,he⟩,hit⟩,λ b hb=>?_,q⟩
 rcases List.mem_cons.mp hb with rfl | hb
 ·exact I1.kC (Nat.le_succ _) (I1.hok.fresh (Nat.le_succ _))
 ·obtain rfl:b=s1.heap.objs.size:=by simpa using hb
  exact I1.kC (Nat.le_refl _) (I1.hok.fresh (Nat.le_refl _))
end
structure TopD (K:PySem.W.Frag) (w:World) (a:Addr) (kvs:List (Str×V)):Prop where
 ex:∃(es:Array DictEntry) (n:Nat),K.lookup a=some ⟨.type "dict",none,.dict es n,#[]⟩/\PySem.W.KeysLit w.params es.toList/\∀x,cU (kvs.lookup x) (findBy Value.isStrOf es x)
 lo:(a==sysModules)=false
section
variable {X:Cx}
noncomputable def zO (K:PySem.W.Frag) (w:World):R2:=λ x y H Q=>∃z a kvs,x=.str z/\y=.ref a/\TopD K w a kvs/\Q (.bl (kvs.lookup z).isSome) H
noncomputable def qh (K:PySem.W.Frag) (w:World):R2:=λ x y H Q=>∃z a kvs,x=.str z/\y=.ref a/\TopD K w a kvs/\Q (.bl (!(kvs.lookup z).isSome)) H
theorem cU.isSome {o:Option V} {u:Option Value} (r:cU o u):u.isSome=o.isSome:=by
 cases o<;>cases u<;>first | rfl | exact r.elim
theorem jj:OpR X (compareOp .In) (zO X.K X.w):=by
 intro pins s σ H x y v u Q I rx ry h
 obtain ⟨z,a,kvs,rfl,rfl,T,q⟩:=h
 obtain ⟨t,rfl⟩:=rx
 cases ry
 obtain ⟨es,n,h1,h2,h3⟩:=T.ex
 refine wpAny_in_of (strKind_is X.prog X.w z t) T.lo (PySem.W.mapOf_K (prog:=X.prog) I.kIn h1 h2) ?_
 refine ⟨.bl _,H,I.tok _,rfl,?_⟩
 rw [(h3 z).isSome]
 exact q
theorem fj:OpR X (compareOp .NotIn) (qh X.K X.w):=by
 intro pins s σ H x y v u Q I rx ry h
 obtain ⟨z,a,kvs,rfl,rfl,T,q⟩:=h
 obtain ⟨t,rfl⟩:=rx
 cases ry
 obtain ⟨es,n,h1,h2,h3⟩:=T.ex
 refine wpAny_notIn_of (strKind_is X.prog X.w z t) T.lo (PySem.W.mapOf_K (prog:=X.prog) I.kIn h1 h2) ?_
 refine ⟨.bl _,H,I.tok _,rfl,?_⟩
 rw [(h3 z).isSome]
 exact q
noncomputable def zP (K:PySem.W.Frag) (w:World):R2:=λ x y H Q=>∃z a kvs v,y=.str z/\x=.ref a/\TopD K w a kvs/\kvs.lookup z=some v/\Q v H
theorem zQ:IxR X (zP X.K X.w):=by
 intro value slice pins s σ H x y v u Q I rx ry h hs
 obtain ⟨z,a,kvs,o,rfl,rfl,T,hl,q⟩:=h
 obtain ⟨t,rfl⟩:=ry
 cases rx
 obtain ⟨es,n,h1,h2,h3⟩:=T.ex
 have r:=h3 z
 rw [hl] at r
 obtain ⟨u,e,ru⟩:=r.some_of
 have hm:=PySem.W.mapOf_K (prog:=X.prog) I.kIn h1 h2
 exact tail_any hm.typeIs slot_dict_getitem.lookup (wpAny_getItem_of (strKind_is X.prog X.w z t) hm e ⟨o,H,I.tok _,ru,q⟩) hs
end
end L2
end
section
namespace L2
open PySem PySem.Spec PyProof.Rows
section
variable {K:PySem.W.Frag} {g:TG} {tc:TT} {te:TE} {Q:VK} {D:Addr} {σ0:St} {H0:Hp}
end
section
variable {X:Cx} {K:PySem.W.Frag} {w:World} {pos:Pos}
variable {o e:Expr} {es:List Expr} {to:TE} {t:TA} {name:Str} {apos cpos:Pos} {Ty id:String} {r:V->List V->Hp->VK->Prop}
end
section
variable {P:Program} {w:World} {K:PySem.W.Frag} {mg:Str->Option Value} {base:Heap}
end
end L2
end
section
namespace L2
open PySem PySem.Spec PyProof.Rows Builtin Builtin.Str
theorem sD (x:Str) (j:Nat):Txt.slice x none (some (j:Int))=⟨(x.cps.toList.take j).toArray⟩:=by
 by_cases h:j<=x.length
 ·show StrLaws.sliceText x none (some (j:Int))=_
  rw [StrLaws.sliceText_to ⟨by omega,by simp [Str.length] at h ⊢; omega⟩]
  simp
 ·have e:strSliceIndices none (some (j:Int)) 1 x.length=strSliceIndices none (some (x.length:Int)) 1 x.length:=by
   have a:¬((j:Int) < 0):=by omega
   have b:¬((x.length:Int) < 0):=by omega
   have c:max (0:Int) (min (j:Int) (x.length:Int))=max 0 (min (x.length:Int) (x.length:Int)):=by omega
   simp only [strSliceIndices,a,b,if_false,c,show (1:Int)>0 by decide,if_true]
  have f:Txt.slice x none (some (j:Int))=Txt.slice x none (some (x.length:Int)):=by
   unfold Txt.slice
   rw [e]
  rw [f]
  show StrLaws.sliceText x none (some (x.length:Int))=_
  rw [StrLaws.sliceText_to ⟨by omega,by simp [Str.length]⟩]
  have l:x.cps.toList.length<=j:=by simp [Str.length] at h ⊢; omega
  rw [List.take_of_length_le l]
  have k:x.cps.toList.take x.cps.size=x.cps.toList:=List.take_of_length_le (by simp)
  simp [Str.length,k]
theorem sE (ys:List Str):(Txt.join ⟨#[]⟩ ys).cps.toList=(ys.map λ y=>y.cps.toList).flatten:=by
 cases ys with
 | nil=>rfl
 | cons y r=>
  show ((r.foldl (λ acc p=>acc++#[]++p.cps) y.cps):Array Nat).toList=_
  rw [List.map_cons,List.flatten_cons]
  generalize y.cps=acc
  induction r generalizing acc with
  | nil=>simp
  | cons z r ih=>
   rw [List.foldl_cons,ih]
   simp
end L2
end
section
namespace L2
open PySem PySem.Spec PyProof.Rows
noncomputable def itn {α:Type} (f:α->α):Nat->α->α
 | 0,x=>x
 | n+1,x=>itn f n (f x)
theorem m5 {t:SetTable} (hd:t.dummies=#[]) (j:Nat):(t.slot j=.empty\/∃i,t.slot j=.live i/\i < t.place.size)/\(j∉t.place.toList->t.slot j=.empty):=by
 have hh:SetTable.has t.dummies j=false:=by rw [hd]; rfl
 unfold SetTable.slot
 simp only [hh]
 by_cases h:(t.place[SetTable.below t.place j]?==some j)=true
 ·simp only [h,if_true]
  have h':t.place[SetTable.below t.place j]?=some j:=by simpa using h
  obtain ⟨hl,he⟩:=Array.getElem?_eq_some_iff.mp h'
  refine ⟨.inr ⟨_,rfl,hl⟩,λ hn=>absurd ?_ hn⟩
  rw [<-he]; simp
 ·simp only [h]
  exact ⟨.inl rfl,λ _=>rfl⟩
theorem qj (t:SetTable) (p:SetTable.Probe):(t.advance p).dummy=p.dummy:=by
 unfold SetTable.advance
 split
 ·rfl
 ·rfl
theorem sF {t:SetTable} (hd:t.dummies=#[]) {hashAt:Nat->Int} {h:Int} (hne:∀i,i < t.place.size->hashAt i≠h):∀(fuel:Nat) (p:SetTable.Probe),p.dummy=none->
  (∃n,n < fuel/\(itn t.advance n p).j∉t.place.toList)->∃j,SetTable.probe.go t hashAt h fuel p=some (.empty j none):=by
 intro fuel
 induction fuel with
 | zero=>intro p _ ⟨n,h,_⟩; omega
 | succ k ih=>
  intro p hp ⟨n,hn,hj⟩
  unfold SetTable.probe.go
  obtain ⟨hc,he⟩:=m5 hd p.j
  rcases hc with hs | ⟨i,hs,hi⟩
  ·simp only [hs]; exact ⟨p.j,by rw [hp]⟩
  ·simp only [hs]
   have:(hashAt i==h)=false:=by simpa using hne i hi
   simp only [this]
   cases n with
   | zero=>rw [he hj] at hs; cases hs
   | succ n=>exact ih _ ((qj t p).trans hp) ⟨n,by omega,hj⟩
noncomputable def jL (h:Int):SetTable.Probe:=(SetTable.fresh 0 0 true).probeStart h
noncomputable def vN (p:SetTable.Probe):SetTable.Probe:=(SetTable.fresh 0 0 true).advance p
theorem jk {t:SetTable} (hm:t.mask=7) (h:Int):t.probeStart h=jL h:=by unfold jL SetTable.probeStart; rw [hm]; rfl
theorem vO {t:SetTable} (hm:t.mask=7):t.advance=vN:=by funext p; unfold vN SetTable.advance; rw [hm]; rfl
noncomputable def jM (h:Int):Bool:=(List.range 4).all λ j=>(List.range 60).any λ n=>(itn vN n (jL h)).j==j
theorem pick {L:List Nat} (h:L.length<=3):∃j,j < 4/\j∉L:=by
 match L,h with
 | [],_=>exact ⟨0,by omega,by simp⟩
 | [a],_=>
  by_cases e:a=0
  ·exact ⟨1,by omega,by simp; omega⟩
  ·exact ⟨0,by omega,by simp; omega⟩
 | [a,b],_=>
  have:(0≠a/\0≠b)\/(1≠a/\1≠b)\/(2≠a/\2≠b):=by omega
  rcases this with h | h | h
  ·exact ⟨0,by omega,by simp; omega⟩
  ·exact ⟨1,by omega,by simp; omega⟩
  ·exact ⟨2,by omega,by simp; omega⟩
 | [a,b,c],_=>
  have:(0≠a/\0≠b/\0≠c)\/(1≠a/\1≠b/\1≠c)\/(2≠a/\2≠b/\2≠c)\/(3≠a/\3≠b/\3≠c):=by omega
  rcases this with h | h | h | h
  ·exact ⟨0,by omega,by simp; omega⟩
  ·exact ⟨1,by omega,by simp; omega⟩
  ·exact ⟨2,by omega,by simp; omega⟩
  ·exact ⟨3,by omega,by simp; omega⟩
 | a::b::c::d::r,h=>simp at h
theorem m7 {t:SetTable} (hm:t.mask=7) (hd:t.dummies=#[]) (hz:t.place.size<=3) {hashAt:Nat->Int} {h:Int} (hc:jM h=true) (hne:∀i,i < t.place.size->hashAt i≠h) :
  ∃j,t.probe hashAt h (t.probeStart h)=some (.empty j none):=by
 obtain ⟨j,hj,hL⟩:=pick (L:=t.place.toList) (by simpa using hz)
 have h1:=List.all_eq_true.mp hc j (by simpa using hj)
 obtain ⟨n,hn,e⟩:=List.any_eq_true.mp h1
 have e:(itn vN n (jL h)).j=j:=by simpa using e
 refine sF hd hne _ _ (by rw [jk hm]; rfl) ⟨n,?_,?_⟩
 ·rw [hm]; have:n < 60:=by simpa using hn
  show n < 10*(7+15); omega
 ·rw [vO hm,jk hm,e]; exact hL
noncomputable def ck (ks:List Int):Int:=reduceHash (Builtin.Tuple.tupleHashOf (ks.map hashInt))
theorem sG (prog:Program) (w:World) (ks:List Int):(tupleKind (intKind prog w)).hash ks=ck ks:=rfl
noncomputable def fP:Nat->List (List Int)
 | 0=>[[]]
 | n+1=>(fP n).map (0::·)++(fP n).map (1::·)
noncomputable def cD (ks:List Int):Bool:=decide (ks.length<=4)&&ks.all λ i=>i==0||i==1
theorem sH {ks:List Int} (h:∀i∈ks,i=0\/i=1):ks∈fP ks.length:=by
 induction ks with
 | nil=>simp [fP]
 | cons k r ih=>
  have hr:=ih λ i hi=>h i (List.mem_cons_of_mem _ hi)
  rw [List.length_cons,fP,List.mem_append]
  rcases h k (List.mem_cons_self) with rfl | rfl
  ·exact .inl (List.mem_map.mpr ⟨r,hr,rfl⟩)
  ·exact .inr (List.mem_map.mpr ⟨r,hr,rfl⟩)
noncomputable def allNames:List (List Int):=(List.range 5).flatMap fP
theorem name_mem {ks:List Int} (h:cD ks=true):ks∈allNames:=by
 simp only [cD,Bool.and_eq_true,decide_eq_true_eq,List.all_eq_true,Bool.or_eq_true,beq_iff_eq] at h
 exact List.mem_flatMap.mpr ⟨ks.length,by simp; omega,sH h.2⟩
theorem kQ:(allNames.all λ ks=>jM (ck ks))=true:=by decide +kernel
theorem kR:(allNames.all λ ks=>allNames.all λ ls=>ck ks != ck ls||ks==ls)=true:=by decide +kernel
theorem kT {ks:List Int} (h:cD ks=true):jM (ck ks)=true:=List.all_eq_true.mp kQ ks (name_mem h)
theorem m8 {ks ls:List Int} (h:cD ks=true) (h':cD ls=true) (ne:ks≠ls):ck ks≠ck ls:=by
 have:=List.all_eq_true.mp (List.all_eq_true.mp kR ks (name_mem h)) ls (name_mem h')
 simp only [Bool.or_eq_true,bne_iff_ne,beq_iff_eq] at this
 exact this.resolve_right ne
end L2
end
section
namespace L2
open PySem PySem.Spec PyProof.Rows
section
variable {prog:Program} {w:World} {A:Around} {E:Value->Shared->Prop} {s:Shared}
theorem dI {a:Addr} {o:Obj} {es:Array (Int×Value)} {ep:Nat} {t:SetTable} {Q:Array (Int×Value)×Nat×SetTable->Shared->Prop} (hg:s.heap.get? a=some o) (hd:o.data=.set es ep t) (hf:t.place.size=es.size) (hm:t.fill<=t.mask) (h:Q (es,ep,t) s) :
  wpAny (model prog w) A (setState a) Q E s:=by
 unfold setState
 refine wpAny_bind (wpAny_load hg ?_)
 simp only [hd]
 have h1:(t.place.size != es.size)=false:=by simp [hf]
 have h2:decide (t.fill>t.mask)=false:=by simp; exact hm
 simp only [h1,h2]
 exact wpAny_pure h
theorem qk {a:Addr} {o:Obj} {es:Array (Int×Value)} {ep:Nat} {t:SetTable} {x:Value} {h:Int} {Q:SetFound->Shared->Prop} (hg:s.heap.get? a=some o) (hd:o.data=.set es ep t)
  (hf:t.place.size=es.size) (hm:t.mask=7) (hdm:t.dummies=#[]) (hz:t.place.size<=3) (hc:jM h=true) (hne:∀e∈es.toList,e.1≠h) (hq:∀j,Q (.free j false) s) :
  wpAny (model prog w) A (setSearch a x h true) Q E s:=by
 unfold setSearch
 rw [show (100000:Nat)=Nat.succ 99999 from rfl,setSearchFrom.eq_2]
 refine wpAny_bind (dI hg hd hf (by unfold SetTable.fill; rw [hm,hdm]; simp; omega) ?_)
 have hgw:t.gaveWay=false:=by unfold SetTable.gaveWay; rw [hm]; rfl
 simp only [hgw]
 show wpAny _ _ (match t.probe _ h (t.probeStart h) with | some _=>_ | _=>_) _ _ _
 obtain ⟨j,hj⟩:=m7 (t:=t) hm hdm hz (h:=h) (hashAt:=λ i=>(Option.map (λ x=>x.fst) es[i]?).getD 0) hc (λ i hi=>by
  rw [hf] at hi
  rw [Array.getElem?_eq_getElem hi]
  exact hne _ (by simp))
 have hj':=hj
 split
 ·rename_i met hmet
  have e:=hmet.symm.trans hj'
  cases e
  exact wpAny_pure (hq j)
 ·rename_i hmet
  exact (hmet _ hj').elim
theorem gq:typeLookup (.type "tuple") (Str.ofString "__hash__")=pure (some (.builtin "tuple.__hash__")):=by kernel_rfl
theorem iR {σ:Type} (f:Value->σ->Sem (ForInStep σ)):∀(l:List Value) (b:σ) {Q:σ->Shared->Prop},(∀v∈l,∀b:σ,∃r,f v b=pure r)->(∀b,Q b s)->wpAny (model prog w) A (forIn l b f) Q E s:=by
 intro l
 induction l with
 | nil=>intro b Q _ hq; rw [List.forIn_nil]; exact wpAny_pure (hq b)
 | cons v l ih=>
  intro b Q hf hq
  rw [List.forIn_cons]
  obtain ⟨r,hr⟩:=hf v List.mem_cons_self b
  rw [hr]
  refine wpAny_bind (wpAny_pure ?_)
  cases r with
  | done b=>exact wpAny_pure (hq b)
  | yield b=>exact ih b (λ v hv=>hf v (List.mem_cons_of_mem _ hv)) hq
theorem nc {n:Nat} {a:Addr} {o:Obj} {items:Array Value} {m:Nat} {Q:Bool->Shared->Prop} (hg:s.heap.get? a=some o) (hcl:o.cls=.type "tuple") (hd:o.data=.seq items m) (hi:∀v∈items.toList,v.scannable=true)
  (hq:∀b,Q b s):wpAny (model prog w) A (hashByValue (n+1) (.ref a)) Q E s:=by
 rw [show n+1=Nat.succ n from rfl,hashByValue.eq_12]
 refine wpAny_bind (wpAny_specialOf (T:="tuple") ⟨o,hg,hcl⟩ gq ?_)
 refine wpAny_bind (wpAny_seqItems hg hd ?_)
 show wpAny _ _ (forIn items _ _ >>= _) _ _ _
 rw [<-Array.forIn_toList]
 refine wpAny_bind (iR _ _ _ (λ v hv b=>?_) λ b=>?_)
 ·rw [hashByValue_scannable _ (hi v hv)]
  cases plainKind v
  ·exact ⟨_,rfl⟩
  ·exact ⟨_,rfl⟩
 ·obtain ⟨b,u⟩:=b
  cases b with
  | none=>exact wpAny_pure (hq _)
  | some b=>exact wpAny_pure (hq _)
theorem kU {a:Addr} {c:Value} {d:Option Addr} {sl:Array (Option Value)} {es es1:Array (Int×Value)} {ep:Nat} {t t1:SetTable} {Q:Unit->Shared->Prop} (hg:s.heap.get? a=some {cls:=c,dict:=d,data:=.set es ep t,slots:=sl}) (hz:es1.size<=sizeLine)
  (h:∀h':Heap,h'.get? a=some {cls:=c,dict:=d,data:=.set es1 (ep+1) t1,slots:=sl}->Heap.SameBut a s.heap h'->Q () {s with heap:=h'}):wpAny (model prog w) A (storeSet a es1 t1) Q E s:=by
 unfold storeSet
 refine wpAny_bind (wpAny_load hg ?_)
 simp only
 have:¬(es1.size>sizeLine):=by omega
 simp only [this,if_false]
 refine wpAny_update hg (h _ (Heap.get?_update_self _ hg rfl) (Heap.SameBut.update ..))
noncomputable def gX (h:Heap) (S:Addr) (n:Nat) (hs:List Int):Prop:=∃es ep t,h.get? S=some {cls:=.type "set",dict:=none,data:=.set es ep t,slots:=#[]}/\t.mask=7/\t.dummies=#[]/\t.place.size=n/\es.size=n/\∀e∈es.toList,e.1∈hs
theorem bV {α:Type} (xs:Array α) (p:Nat) (x:α):(SetTable.insertAt xs p x).size=xs.size+1:=by
 have:=(SetTable.insertAt_perm xs p x).length_eq
 simpa using this
theorem iS {ks:List Int} {vs:List Value} (h:ItemsAre (intKind prog w) ks vs):∀v∈vs,v.scannable=true:=by
 induction h with
 | nil=>intro v hv; cases hv
 | @cons k u ks vs h t ih=>
  intro v hv
  rcases List.mem_cons.mp hv with e | hv
  ·have h:Value.isInt k u=true:=h
   rw [e]
   cases u<;>first | rfl | (simp [Value.isInt] at h)
  ·exact ih v hv
theorem ql {S a:Addr} {n:Nat} {hs ks:List Int} {Q:Bool->Shared->Prop} (hr:A.units < cLine) (hS:gX s.heap S n hs) (hx:IsTupleKey (intKind prog w) s.heap ks a) (hn:n<=3) (hk:cD ks=true) (hh:ck ks∉hs)
  (h:∀h' tk b,gX h' S (n+1) (ck ks::hs)->Heap.SameBut S s.heap h'->Q b {s with heap:=h',toks:=tk}):wpAny (model prog w) A (setAdd S (.ref a)) Q E s:=by
 unfold setAdd
 refine wpAny_holding (wpAny_bind ((tupleKind (intKind prog w)).pyHash hr hx ?_))
 rw [sG]
 unfold setAddHashed
 refine wpAny_holding ?_
 rw [show (100000:Nat)=Nat.succ 99999 from rfl,setAddHashedIn.eq_2]
 obtain ⟨es,ep,t,hg,hm,hd,hp,he,hl⟩:=hS
 have hfill:t.fill<=t.mask:=by unfold SetTable.fill; rw [hm,hd]; simp; omega
 refine wpAny_bind (dI hg rfl (by omega) hfill ?_)
 have hb:byScan (.ref a) es=false:=by simp [byScan,Value.scannable]
 simp only [hb]
 refine wpAny_bind (qk (t:=t) hg rfl (by omega) hm hd (by omega) (kT hk) (λ e hm e1=>hh (e1▸hl e hm)) λ j=>?_)
 simp only
 refine wpAny_bind (dI hg rfl (by omega) hfill ?_)
 simp only [SetTable.put]
 have hj:SetTable.has t.dummies j=false:=by rw [hd]; rfl
 simp only [hj,Bool.false_eq_true,if_false,hd]
 have go:∀(t1:SetTable) (y:Sem Bool),t1.mask=7->t1.dummies=#[]->t1.place.size=n+1->wpAny (model prog w) A (do
   storeSet S (SetTable.insertAt es (SetTable.below t.place j) (ck ks,Value.ref a)) t1
   if (!false&&t1.tooFull)=true then y else pure true) Q E {s with toks:=s.toks+(tupleKind (intKind prog w)).draws ks}:=by
  intro t1 y h1 h2 h3
  refine wpAny_bind (kU hg (by rw [bV]; exact Nat.le_trans (by omega:es.size+1<=4) (by decide +kernel)) λ h' g' sb=>?_)
  have tf:t1.tooFull=false:=by unfold SetTable.tooFull SetTable.fill; rw [h1,h2]; simp; omega
  simp only [tf,Bool.not_false,Bool.and_false,Bool.false_eq_true,if_false]
  refine wpAny_pure (h _ _ _ ⟨_,_,_,g',h1,h2,h3,by rw [bV,he],λ e hm=>?_⟩ sb)
  have hm:=(SetTable.insertAt_perm es _ _).mem_iff.mp hm
  rw [Array.toList_push,List.mem_append] at hm
  rcases hm with hm | hm
  ·exact List.mem_cons_of_mem _ (hl e hm)
  ·rw [List.mem_singleton.mp hm]; exact List.mem_cons_self
 have bv:∀b:Bool,(if b=true then ({mask:=t.mask,place:=SetTable.insertAt t.place (SetTable.below t.place j) j,dummies:=#[],finger:=t.finger,led:=t.led,moves:=t.moves,plain:=t.plain}:SetTable) else {mask:=t.mask,place:=SetTable.insertAt t.place (SetTable.below t.place j) j,dummies:=#[],finger:=t.finger,led:=t.led,moves:=t.moves,plain:=false}).mask=7/\
   (if b=true then ({mask:=t.mask,place:=SetTable.insertAt t.place (SetTable.below t.place j) j,dummies:=#[],finger:=t.finger,led:=t.led,moves:=t.moves,plain:=t.plain}:SetTable) else {mask:=t.mask,place:=SetTable.insertAt t.place (SetTable.below t.place j) j,dummies:=#[],finger:=t.finger,led:=t.led,moves:=t.moves,plain:=false}).dummies=#[]/\
   (if b=true then ({mask:=t.mask,place:=SetTable.insertAt t.place (SetTable.below t.place j) j,dummies:=#[],finger:=t.finger,led:=t.led,moves:=t.moves,plain:=t.plain}:SetTable) else {mask:=t.mask,place:=SetTable.insertAt t.place (SetTable.below t.place j) j,dummies:=#[],finger:=t.finger,led:=t.led,moves:=t.moves,plain:=false}).place.size=n+1:=by
  intro b
  cases b
  ·exact ⟨hm,rfl,by show (SetTable.insertAt _ _ _).size=_; rw [bV,hp]⟩
  ·exact ⟨hm,rfl,by show (SetTable.insertAt _ _ _).size=_; rw [bV,hp]⟩
 split
 ·obtain ⟨o,items,m,ho,hcl,hda,hit⟩:=hx
  refine wpAny_bind (nc ho hcl hda (iS hit) λ b=>?_)
  exact go _ _ (bv b).1 (bv b).2.1 (bv b).2.2
 ·refine wpAny_bind (wpAny_pure ?_)
  exact go _ _ (bv true).1 (bv true).2.1 (bv true).2.2
theorem cF {h h':Heap} {ks:List Int} {a S:Addr} (x:IsTupleKey (intKind prog w) h ks a) (sb:Heap.SameBut S h h') (ne:a≠S):IsTupleKey (intKind prog w) h' ks a:=by
 obtain ⟨o,items,m,ho,r⟩:=x
 exact ⟨o,items,m,(sb.2 a ne).trans ho,r⟩
theorem gX.sameBut {h h':Heap} {n:Nat} {hs:List Int} {a S:Addr} (x:gX h S n hs) (sb:Heap.SameBut a h h') (ne:S≠a):gX h' S n hs:=by
 obtain ⟨es,ep,t,hg,r⟩:=x
 exact ⟨es,ep,t,(sb.2 S ne).trans hg,r⟩
theorem sI {S it l:Addr} {its:Array Value} {kss:List (List Int)} (hr:A.in1.units < cLine) (hh:A.in1.handled=none) (nl:l≠it) (nS:S≠it) (nSl:S≠l) (hz:kss.length<=4) (hlen:its.size=kss.length)
  (hok:∀ks∈kss,cD ks=true) (hnd:kss.Nodup) {R:Result->Shared->Prop}:∀(n i:Nat) (s:Shared),its.size - i=n->i<=its.size->s.heap.IsListIter it l i->s.heap.IsList l its->
  (∀(j:Nat) (ks:List Int) (v:Value),kss[j]?=some ks->its[j]?=some v->∃a:Addr,v=Value.ref a/\a≠S/\a≠it/\IsTupleKey (intKind prog w) s.heap ks a)->gX s.heap S i ((kss.take i).reverse.map ck)->
  (∀(h':Heap) (tk:Nat) (hs:List Int),gX h' S its.size hs->(∀b o,b≠S->b≠it->s.heap.get? b=some o->h'.get? b=some o)->R (.ok (.ret .none)) {s with heap:=h',toks:=tk})->
  codeAny (model prog w) A (.builtin "set.update.loop" {pos:=[.ref S,.ref it]}) R s:=by
 intro n
 induction n with
 | zero=>
  intro i s hn hi hit hl hx hS hR
  refine codeAny_builtin F.entry_set_update_loop ?_
  rw [Around.under_plain rfl rfl]
  show wpAny _ _ (pyNext (.ref it) >>= _) _ _ _
  refine wpAny_bind (wpAny_pyNext_list_end hh hit hl (by simp; omega) λ h1 sb1=>?_)
  refine wpAny_pure ?_
  have e:i=its.size:=by omega
  subst e
  obtain ⟨es,ep,t,hg,r⟩:=hS
  exact hR h1 s.toks _ ⟨es,ep,t,sb1 S _ nS hg,r⟩ λ b o n1 n2 e=>sb1 b o n2 e
 | succ n ih=>
  intro i s hn hi hit hl hx hS hR
  refine codeAny_builtin F.entry_set_update_loop ?_
  rw [Around.under_plain rfl rfl]
  show wpAny _ _ (pyNext (.ref it) >>= _) _ _ _
  have lt:i < its.size:=by omega
  have lk:i < kss.length:=by omega
  obtain ⟨a,hv,naS,nai,hka⟩:=hx i kss[i] its[i] (by simp [lk]) (by simp [lt])
  refine wpAny_bind (wpAny_pyNext_list_item hit hl (x:=its[i]) (by simp [lt]) λ h1 it1 sb1=>?_)
  rw [hv]
  have hmem:ck kss[i]∉(kss.take i).reverse.map ck:=by
   intro hm
   obtain ⟨ls,hls,e⟩:=List.mem_map.mp hm
   rw [List.mem_reverse] at hls
   obtain ⟨j,hj,e1⟩:=List.mem_take_iff_getElem.mp hls
   have hj':j < kss.length:=by omega
   refine m8 (hok ls ?_) (hok kss[i] (List.getElem_mem lk)) ?_ e
   ·rw [<-e1]; exact List.getElem_mem _
   ·intro e2
    have e3:kss[j]=kss[i]:=e1.trans e2
    have:=(List.getElem_inj hnd).mp e3
    omega
  refine wpAny_bind (wpAny_holding (ql (s:={s with heap:=h1}) hr (hS.sameBut sb1 nS) (cF hka sb1 nai) (by omega) (hok _ (List.getElem_mem lk)) hmem λ h2 tk b hS2 sb2=>?_))
  refine wpAny_pure ⟨Code.quiet_builtin _ (by decide +kernel),ih (i+1) _ (by omega) (by omega) ?_ ?_ ?_ ?_ ?_⟩
  ·exact it1.extBut sb2.extBut nS.symm
  ·exact (hl.extBut sb1.extBut nl).extBut sb2.extBut nSl.symm
  ·intro j ks v h3 h4
   obtain ⟨a',hv',n1,n2,hk'⟩:=hx j ks v h3 h4
   exact ⟨a',hv',n1,n2,cF (cF hk' sb1 n2) sb2 n1⟩
  ·have e:(kss.take (i+1)).reverse.map ck=ck kss[i]::(kss.take i).reverse.map ck:=by
    rw [List.take_succ_eq_append_getElem lk,List.reverse_append,List.map_append]; rfl
   rw [e]; exact hS2
  ·intro h' tk' hs hL hk2
   exact hR h' tk' hs hL λ b o n1 n2 e=>hk2 b o n1 n2 (by rw [sb2.2 b n1,sb1.2 b n2]; exact e)
end
end L2
end
section
namespace L2
open PySem PySem.Spec PyProof.Rows
section
variable {prog:Program} {w:World} {A:Around} {E:Value->Shared->Prop} {s:Shared}
theorem BJ:isSubtype (.type "list") (.type "set")=pure false:=by rw [isSubtype_type]; kernel_rfl
theorem BK:isSubtype (.type "list") (.type "frozenset")=pure false:=by rw [isSubtype_type]; kernel_rfl
set_option maxHeartbeats 3200000 in
theorem gY {l:Addr} {its:Array Value} {kss:List (List Int)} {Q:Value->Shared->Prop}
  (hh:A.handled=none) (hu:A.units+10 < cLine) (hl:s.heap.IsList l its) (hz:kss.length<=4) (hlen:its.size=kss.length) (hok:∀ks∈kss,cD ks=true) (hnd:kss.Nodup)
  (hx:∀(j:Nat) (ks:List Int) (v:Value),kss[j]?=some ks->its[j]?=some v->∃a:Addr,v=Value.ref a/\IsTupleKey (intKind prog w) s.heap ks a)
  (h:∀(h':Heap) (tk:Nat) (hs:List Int),gX h' s.heap.objs.size kss.length hs->
   (∀b o,b < s.heap.objs.size->s.heap.get? b=some o->h'.get? b=some o)->Q (.ref s.heap.objs.size) {s with heap:=h',toks:=tk}) :
  wpAny (model prog w) A (call (.type "set") [.ref l]) Q E s:=by
 obtain ⟨cc,tl,hmro⟩:=F.called_set.mro
 have hmade:=F.called_set.made
 have hsub:=F.called_set.sub
 refine wpAny_call (codeAny_of_tree ?_)
 show wpAny _ _ (callAny (.type "set") _) _ _ _
 refine wpAny_pure ⟨Code.quiet_builtin _ (by decide +kernel),codeAny_builtin F.entry_type_call ?_⟩
 rw [Around.under_plain (weight_type_call_type "set" [.ref l] []) rfl]
 have k1:=F.called_set.notType
 have k2:=F.called_set.canCreate
 have k3:=F.typeCall_set_1 (.ref l)
 repeat (any_goals (first | assumption | wp_step))
 refine codeAny_mono (code_set_new_1 (.ref l) (E:=E) (Q₁:=λ ob t₁=>∃led:Bool,ob=.ref s.heap.objs.size/\t₁={s with heap:=s.heap.push {cls:=.type "set",dict:=none,data:=.set #[] 0 (.fresh 0 0 led)}}) λ led=>⟨led,rfl,rfl⟩) λ r t₁ hr=>?_
 cases r with
 | error e=>exact hr
 | ok fl=>
  cases fl with
  | ret ob=>
   obtain ⟨led,rfl,rfl⟩:=hr
   have gS:(s.heap.push {cls:=.type "set",dict:=none,data:=.set #[] 0 (.fresh 0 0 led)}).get? s.heap.objs.size=some {cls:=.type "set",dict:=none,data:=.set #[] 0 (.fresh 0 0 led)}:=Heap.get?_push_size _ rfl
   have gT:Shared.TypeIs {s with heap:=s.heap.push {cls:=.type "set",dict:=none,data:=.set #[] 0 (.fresh 0 0 led)}} (.ref s.heap.objs.size) "set":=⟨_,gS,rfl⟩
   have k4:=F.called_set.init.lookup
   have k5:=F.called_set.init.bind (.ref s.heap.objs.size)
   repeat (any_goals (first | assumption | wp_step))
   refine codeAny_mono (codeAny_call_builtin (R:=wants (λ r t₂=>r=.none/\∃h' tk,t₂={s with heap:=h',toks:=tk}/\
     (∃hs,gX h' s.heap.objs.size kss.length hs)/\
     (∀b o,b < s.heap.objs.size->s.heap.get? b=some o->h'.get? b=some o)) E) F.called_set.init.plain F.entry_set_init (check_set_init_1 gT ?_)) λ r₂ t₂ hr₂=>?_
   ·obtain ⟨ol,hol,hcl,nl,hdl⟩:=hl
    obtain ⟨ocls,odict,odata,oslots⟩:=ol
    simp only at hcl hdl
    subst hcl; subst hdl
    have gol:(s.heap.push {cls:=.type "set",dict:=none,data:=.set #[] 0 (.fresh 0 0 led)}).get? l=some {cls:=.type "list",dict:=odict,data:=.seq its nl,slots:=oslots}:=Heap.get?_push_of_some _ hol
    have k6:=BJ
    have k7:=BK
    have k8:(Value.type "list"==Value.type "dict")=false:=by decide
    have gl:(s.heap.push {cls:=.type "set",dict:=none,data:=.set #[] 0 (.fresh 0 0 led)}).IsList l its:=⟨_,gol,rfl,nl,rfl⟩
    unfold Builtin.«set.__init__» noKeywords Builtin.Frozenset.updateFrom
    generalize gPI:pyIter=PI
    wp_walk
    subst gPI
    refine wpAny_pyIter_list gl ?_
    refine wpAny_bind (wpAny_runValue ?_)
    have lS:l < s.heap.objs.size:=Heap.lt_size hol
    have eI:(s.heap.push {cls:=.type "set",dict:=none,data:=.set #[] 0 (.fresh 0 0 led)}).objs.size=s.heap.objs.size+1:=Heap.size_push ..
    refine sI (l:=l) (by show A.in1.in1.in1.units < cLine; simp [Around.in1]; omega) (by simp [hh]) ?_ ?_ ?_ hz hlen hok hnd (its.size - 0) 0 _ rfl (Nat.zero_le _) ?_ ?_ ?_ ?_ ?_
    ·rw [eI]; exact Nat.ne_of_lt (Nat.lt_succ_of_lt lS)
    ·rw [eI]; exact Nat.ne_of_lt (Nat.lt_succ_self _)
    ·exact Nat.ne_of_gt lS
    ·exact ⟨_,Heap.get?_push_size _ rfl,rfl,rfl⟩
    ·exact gl.push _
    ·intro j ks v h1 h2
     obtain ⟨a,hv,o,items,m,ho,r⟩:=hx j ks v h1 h2
     have:=Heap.lt_size ho
     refine ⟨a,hv,Nat.ne_of_lt this,by rw [eI]; exact Nat.ne_of_lt (Nat.lt_succ_of_lt this),o,items,m,Heap.get?_push_of_some _ (Heap.get?_push_of_some _ ho),r⟩
    ·exact ⟨_,_,_,Heap.get?_push_of_some _ gS,rfl,rfl,rfl,rfl,λ e he=>by simp at he⟩
    ·intro h' tk hs hL hk
     refine wpAny_pure ?_
     show wpAny _ _ (ret Value.none) _ _ _
     refine wpAny_pure ⟨rfl,h',tk,rfl,⟨hs,hlen▸hL⟩,λ b o hb e=>?_⟩
     exact hk b o (Nat.ne_of_lt hb) (by rw [eI]; exact Nat.ne_of_lt (Nat.lt_succ_of_lt hb)) (Heap.get?_push_of_some _ (Heap.get?_push_of_some _ e))
   ·cases r₂ with
    | error e=>exact hr₂
    | ok fl₂=>
     cases fl₂ with
     | ret r=>
      obtain ⟨rfl,h',tk,rfl,⟨hs,hS'⟩,hk'⟩:=hr₂
      repeat (any_goals (first | assumption | wp_step))
      exact h _ _ hs hS' hk'
     | _=>exact hr₂.elim
  | _=>exact hr.elim
end
end L2
end
section
namespace L2
open PySem PySem.Spec PyProof.Rows
section
variable {prog:Program} {w:World} {A:Around} {E:Value->Shared->Prop} {s:Shared}
theorem sJ {S it l:Addr} {its:Array Value} {nss:List (List Int)} {d:Value} {a0:Addr} {n0:List Int} {zR:Array Value} (hr:A.in1.units < cLine) (hh:A.in1.handled=none) (nl:l≠it) (nS:S≠it) (nSl:S≠l) (hlen:its.size=nss.length)
  (na0:a0≠S) (na1:a0≠it) (hi0:IntsAre zR.toList n0) (hlt:∀ns∈nss,HT.lexLt ns n0=false) {R:Result->Shared->Prop}:∀(n i:Nat) (s:Shared) (c:Nat),its.size - i=n->i<=its.size->s.heap.IsListIter it l i->s.heap.IsList l its->
  (∀(j:Nat) (ns:List Int) (v:Value),nss[j]?=some ns->its[j]?=some v->∃(a:Addr) (jt:Array Value),v=Value.ref a/\a≠S/\a≠it/\IsTup s.heap a jt/\IntsAre jt.toList ns)->
  IsTup s.heap a0 zR->s.heap.get? S=some {cls:=.type "list",data:=.seq #[.ref a0,.ref a0] c}->
  (∀(h':Heap) (tk:Nat),(∀b o,b≠S->b≠it->s.heap.get? b=some o->h'.get? b=some o)->R (.ok (.ret (.ref a0))) {s with heap:=h',toks:=tk})->
  codeAny (model prog w) A (.builtin "min.loop" {pos:=[.ref it,.none,.ref S],kw:=[(Str.ofString "default",d)]}) R s:=by
 intro n
 induction n with
 | zero=>
  intro i s c hn hi hit hl hx h0 hS hR
  refine codeAny_builtin PySem.F.entry_min_loop ?_
  rw [Around.under_plain rfl rfl]
  show wpAny _ _ (seqItems? (.ref S) >>= _) _ _ _
  refine wpAny_bind (wpAny_seqItems hS rfl ?_)
  show wpAny _ _ (tryCatch (pyNext (.ref it)) _ >>= _) _ _ _
  refine wpAny_bind (wpAny_tryCatch (wpAny_pyNext_list_end hh hit hl (by simp; omega) λ h1 sb1=>?_))
  show wpAny _ _ (updateSeq S _ >>= _) _ _ _
  refine wpAny_bind (wpAny_updateSeq (sb1 S _ nS hS) rfl ?_ (by simp; decide +kernel) (by simp))
  refine wpAny_bind (wpAny_letGo ?_)
  refine wpAny_pure ?_
  refine hR _ s.toks λ b o n1 n2 e=>?_
  exact Heap.get?_update_of_ne _ n1.symm (sb1 b o n2 e)
 | succ n ih=>
  intro i s c hn hi hit hl hx h0 hS hR
  refine codeAny_builtin PySem.F.entry_min_loop ?_
  rw [Around.under_plain rfl rfl]
  show wpAny _ _ (seqItems? (.ref S) >>= _) _ _ _
  refine wpAny_bind (wpAny_seqItems hS rfl ?_)
  show wpAny _ _ (tryCatch (pyNext (.ref it)) _ >>= _) _ _ _
  have lt:i < its.size:=by omega
  have lk:i < nss.length:=by omega
  obtain ⟨a,jt,hv,naS,nai,hka,hin⟩:=hx i nss[i] its[i] (by simp [lk]) (by simp [lt])
  refine wpAny_bind (wpAny_tryCatch (wpAny_pyNext_list_item hit hl (x:=its[i]) (by simp [lt]) λ h1 it1 sb1=>?_))
  rw [hv]
  have vP:∀{b:Addr} {kt:Array Value},b≠it->IsTup s.heap b kt->IsTup h1 b kt:=λ {b kt} ne x=>by
   obtain ⟨o,ho,r⟩:=x
   exact ⟨o,(sb1.2 b ne).trans ho,r⟩
  show wpAny _ _ (tryCatch (holding _ (richCompare .Lt (.ref a) (.ref a0) >>= _)) _ >>= _) _ _ _
  refine wpAny_bind (wpAny_tryCatch (wpAny_holding (wpAny_bind ?_)))
  refine HT.mL (s:={s with heap:=h1}) (vP nai hka) (vP na1 h0) hin hi0 hr ?_
  rw [hlt _ (List.getElem_mem lk)]
  refine wpAny_bind (wpAny_holding (wpAny_truthy_bool ?_))
  refine wpAny_bind (wpAny_letGo ?_)
  refine wpAny_pure ?_
  show wpAny _ _ (letGo _ >>= _) _ _ _
  refine wpAny_bind (wpAny_letGo ?_)
  refine wpAny_pure ⟨Code.quiet_builtin _ (by decide +kernel),ih (i+1) {s with heap:=h1} c (by omega) (by omega) it1 (hl.extBut sb1.extBut nl) ?_ (vP na1 h0) ((sb1.2 S nS).trans hS) ?_⟩
  ·intro j ns v h3 h4
   obtain ⟨a',jt',hv',n1,n2,hk',hi'⟩:=hx j ns v h3 h4
   exact ⟨a',jt',hv',n1,n2,vP n2 hk',hi'⟩
  ·intro h' tk hk
   exact hR h' tk λ b o n1 n2 e=>hk b o n1 n2 ((sb1.2 b n2).trans e)
end
end L2
end
section
namespace L2
open PySem PySem.Spec PyProof.Rows
section
variable {prog:Program} {w:World} {A:Around} {E:Value->Shared->Prop} {s:Shared}
theorem sL (d:Value):Builtin.Builtins.bindParams "min" ["key","default"] 0 {kw:=[(Str.ofString "default",d)]}=pure [none,some d]:=by kernel_rfl
theorem sM (x d:Value):argsOk "min" {pos:=[x],kw:=[(Str.ofString "default",d)]}:=by kernel_rfl
theorem iT {l:Addr} {its:Array Value} {nss:List (List Int)} {d:Value} {Q:Value->Shared->Prop}
  (hh:A.handled=none) (hu:A.units+10 < cLine) (hl:s.heap.IsList l its) (hlen:its.size=nss.length)
  (hlt:∀n0,nss.head?=some n0->∀ns∈nss,HT.lexLt ns n0=false)
  (hx:∀(j:Nat) (ns:List Int) (v:Value),nss[j]?=some ns->its[j]?=some v->∃(a:Addr) (jt:Array Value),v=Value.ref a/\IsTup s.heap a jt/\IntsAre jt.toList ns)
  (h:∀(h':Heap) (tk:Nat),(∀b o,s.heap.get? b=some o->h'.get? b=some o)->Q ((its[0]?).getD d) {s with heap:=h',toks:=tk}) :
  wpAny (model prog w) A (call (.builtin "min") [.ref l] [(Str.ofString "default",d)]) Q E s:=by
 refine wpAny_call (codeAny_call_builtin PySem.F.plain_min PySem.F.entry_min ?_)
 have hc:checkBuiltinCall "min" {pos:=[.ref l],kw:=[(Str.ofString "default",d)]}=pure ():=by
  unfold checkBuiltinCall
  rw [PySem.F.kind_min]
  exact sM _ _
 rw [hc]
 refine wpAny_pure ?_
 show wpAny _ _ (Builtin.Builtins.bindParams _ _ _ _ >>= _) _ _ _
 rw [sL]
 refine wpAny_bind (wpAny_pure ?_)
 show wpAny _ _ (pyIter (.ref l) >>= _) _ _ _
 refine wpAny_bind (wpAny_pyIter_list hl ?_)
 refine wpAny_bind (wpAny_newList ?_ (by simp))
 refine wpAny_pure ⟨Code.quiet_builtin _ (by decide +kernel),?_⟩
 have eI:∀o,(s.heap.push o).objs.size=s.heap.objs.size+1:=λ o=>Heap.size_push ..
 have lS:l < s.heap.objs.size:=by obtain ⟨o,ho,_⟩:=hl; exact Heap.lt_size ho
 have nl:l≠s.heap.objs.size:=Nat.ne_of_lt lS
 have nS:(s.heap.push {cls:=.type "list_iterator",data:=.fields #[.ref l,.int 0 0]}).objs.size≠s.heap.objs.size:=by rw [eI]; exact Nat.ne_of_gt (Nat.lt_succ_self _)
 have nSl:(s.heap.push {cls:=.type "list_iterator",data:=.fields #[.ref l,.int 0 0]}).objs.size≠l:=by rw [eI]; exact Nat.ne_of_gt (Nat.lt_succ_of_lt lS)
 generalize hS:(s.heap.push {cls:=.type "list_iterator",data:=.fields #[.ref l,.int 0 0]}).objs.size=S at *
 have g1:((s.heap.push {cls:=.type "list_iterator",data:=.fields #[.ref l,.int 0 0]}).push {cls:=.type "list",data:=.seq [].toArray}).get? S=some {cls:=.type "list",data:=.seq [].toArray}:=by rw [<-hS]; exact Heap.get?_push_size _ rfl
 have k1:∀b o,s.heap.get? b=some o->((s.heap.push {cls:=.type "list_iterator",data:=.fields #[.ref l,.int 0 0]}).push {cls:=.type "list",data:=.seq [].toArray}).get? b=some o:=λ b o e=>Heap.get?_push_of_some _ (Heap.get?_push_of_some _ e)
 have hit:((s.heap.push {cls:=.type "list_iterator",data:=.fields #[.ref l,.int 0 0]}).push {cls:=.type "list",data:=.seq [].toArray}).IsListIter s.heap.objs.size l 0:=⟨_,Heap.get?_push_of_some _ (Heap.get?_push_size _ rfl),rfl,rfl⟩
 have hl1:((s.heap.push {cls:=.type "list_iterator",data:=.fields #[.ref l,.int 0 0]}).push {cls:=.type "list",data:=.seq [].toArray}).IsList l its:=by obtain ⟨o,ho,r⟩:=hl; exact ⟨o,k1 _ _ ho,r⟩
 generalize (s.heap.push {cls:=.type "list_iterator",data:=.fields #[.ref l,.int 0 0]}).push {cls:=.type "list",data:=.seq [].toArray}=h0 at *
 refine codeAny_builtin PySem.F.entry_min_loop ?_
 rw [Around.under_plain rfl rfl]
 show wpAny _ _ (seqItems? (.ref S) >>= _) _ _ _
 refine wpAny_bind (wpAny_seqItems (s:={s with heap:=h0}) g1 rfl ?_)
 show wpAny _ _ (tryCatch (pyNext (.ref s.heap.objs.size)) _ >>= _) _ _ _
 cases nss with
 | nil=>
  have hz:its.size=0:=hlen
  refine wpAny_bind (wpAny_tryCatch (wpAny_pyNext_list_end (s:={s with heap:=h0}) (by simpa using hh) hit hl1 (Array.getElem?_eq_none (by rw [hz]; exact Nat.le_refl _)) λ h1 sb1=>?_))
  show wpAny _ _ (rule _ >>= _) _ _ _
  refine wpAny_bind (wpAny_rule ?_)
  refine wpAny_pure ?_
  have:=h h1 s.toks λ b o e=>sb1 b o (Nat.ne_of_lt (Heap.lt_size e)) (k1 b o e)
  rw [Array.getElem?_eq_none (by omega)] at this
  exact this
 | cons n0 r=>
  have lt:0 < its.size:=by rw [hlen]; simp
  have he:its[0]?=some its[0]:=by simp [lt]
  obtain ⟨a,jt,hv,hk,hin⟩:=hx 0 n0 its[0] rfl he
  have la:a < s.heap.objs.size:=by obtain ⟨o,ho,_⟩:=hk; exact Heap.lt_size ho
  have naS:a≠S:=by rw [<-hS]; rw [eI]; exact Nat.ne_of_lt (Nat.lt_succ_of_lt la)
  refine wpAny_bind (wpAny_tryCatch (wpAny_pyNext_list_item (s:={s with heap:=h0}) hit hl1 (x:=its[0]) he λ h1 it1 sb1=>?_))
  rw [hv]
  show wpAny _ _ (updateSeq S _ >>= _) _ _ _
  have g2:h1.get? S=some {cls:=.type "list",data:=.seq [].toArray}:=(sb1.2 S nS).trans g1
  refine wpAny_bind (wpAny_updateSeq (s:={s with heap:=h1}) g2 rfl ?_ (by simp) (by simp; decide +kernel))
  refine wpAny_pure ⟨Code.quiet_builtin _ (by decide +kernel),?_⟩
  have sb2:Heap.SameBut S h1 (h1.update S (Obj.mapSeq λ _=>#[.ref a,.ref a])):=Heap.SameBut.update ..
  have g3:∃c,(h1.update S (Obj.mapSeq λ _=>#[.ref a,.ref a])).get? S=some {cls:=.type "list",data:=.seq #[.ref a,.ref a] c}:=⟨_,Heap.get?_update_self _ g2 rfl⟩
  obtain ⟨c,g3⟩:=g3
  have k2:∀b o,b≠S->b≠s.heap.objs.size->h0.get? b=some o->(h1.update S (Obj.mapSeq λ _=>#[.ref a,.ref a])).get? b=some o:=λ b o n1 n2 e=>by
   rw [sb2.2 b n1,sb1.2 b n2]; exact e
  have tupK:∀{b:Addr} {kt:Array Value},IsTup s.heap b kt->b≠S/\b≠s.heap.objs.size/\IsTup (h1.update S (Obj.mapSeq λ _=>#[.ref a,.ref a])) b kt:=λ {b kt} x=>by
   obtain ⟨o,ho,r⟩:=x
   have lb:=Heap.lt_size ho
   have n1:b≠S:=by rw [<-hS]; rw [eI]; exact Nat.ne_of_lt (Nat.lt_succ_of_lt lb)
   exact ⟨n1,Nat.ne_of_lt lb,o,k2 b o n1 (Nat.ne_of_lt lb) (k1 b o ho),r⟩
  refine sJ (l:=l) (nss:=n0::r) (n0:=n0) (its:=its) (zR:=jt) (by simp [Around.in1]; omega) (by simpa using hh) nl nS nSl hlen naS (Nat.ne_of_lt la) hin (hlt n0 rfl) (its.size - 1) 1 {s with heap:=h1.update S (Obj.mapSeq λ _=>#[.ref a,.ref a])} c rfl lt (it1.extBut sb2.extBut nS.symm) ((hl1.extBut sb1.extBut nl).extBut sb2.extBut nSl.symm) ?_ (tupK hk).2.2 g3 ?_
  ·intro j ns v h3 h4
   obtain ⟨a',jt',hv',hk',hi'⟩:=hx j ns v h3 h4
   exact ⟨a',jt',hv',(tupK hk').1,(tupK hk').2.1,(tupK hk').2.2,hi'⟩
  ·intro h' tk hk'
   have:=h h' tk λ b o e=>by
    have lb:=Heap.lt_size e
    have n1:b≠S:=by rw [<-hS]; rw [eI]; exact Nat.ne_of_lt (Nat.lt_succ_of_lt lb)
    exact hk' b o n1 (Nat.ne_of_lt lb) (k2 b o n1 (Nat.ne_of_lt lb) (k1 b o e))
   rw [he,Option.getD_some,hv] at this
   exact this
end
end L2
end
section
namespace L2
open PySem PySem.Spec PyProof.Rows
section
variable {prog:Program} {w:World} {A:Around} {E:Value->Shared->Prop} {s:Shared}
theorem sN {a:Addr} {v:Value} {n:Nat} {P:PySem.Fin->Shared->Prop} (hg:s.heap.get? a=some {cls:=.type "list",data:=.seq #[v] n})
  (h:∀h' n',h'.get? a=some {cls:=.type "list",data:=.seq #[v] n'}->(∀b o,b≠a->s.heap.get? b=some o->h'.get? b=some o)->P (.done (.ret .none)) {s with heap:=h'}) :
  wpAny (model prog w) A (Builtin.«list.sort» {pos:=[.ref a]}) P E s:=by
 rw [list_sort_plain]
 unfold Builtin.List.listItems Builtin.List.listUpdate
 refine wpAny_bind ?_
 repeat (any_goals (first | assumption | wp_step))
 refine wpAny_pure ?_
 have g1:(s.heap.update a (Obj.mapSeq λ x=>#[])).get? a=some {cls:=.type "list",data:=.seq #[] (n+1)}:=Heap.get?_update_self _ hg rfl
 have g2:(((s.heap.update a (Obj.mapSeq λ x=>#[])).push {cls:=.type "tuple",data:=.seq #[v].toList.toArray}).push {cls:=.type "list",data:=.seq #[]}).get? a=some {cls:=.type "list",data:=.seq #[] (n+1)}:=Heap.get?_push_of_some _ (Heap.get?_push_of_some _ g1)
 have kp:∀b o,b≠a->s.heap.get? b=some o->(((s.heap.update a (Obj.mapSeq λ x=>#[])).push {cls:=.type "tuple",data:=.seq #[v].toList.toArray}).push {cls:=.type "list",data:=.seq #[]}).get? b=some o:=λ b o nb e=>Heap.get?_push_of_some _ (Heap.get?_push_of_some _ (Heap.get?_update_of_ne _ nb.symm e))
 generalize ((s.heap.update a (Obj.mapSeq λ x=>#[])).push {cls:=.type "tuple",data:=.seq #[v].toList.toArray}).push {cls:=.type "list",data:=.seq #[]}=h0 at *
 show wpAny _ _ (seqEpoch a >>= _) _ _ _
 refine wpAny_bind ?_
 unfold seqEpoch
 refine wpAny_bind (wpAny_load (s:={s with heap:=h0}) g2 (wpAny_pure ?_))
 have hz:Array.map (λ x=>x.snd) (#[v].zip #[v])=#[v]:=by simp
 show wpAny _ _ (updateSeq a (λ _=>Array.map (λ x=>x.snd) (#[v].zip #[v])) >>= _) _ _ _
 rw [hz]
 refine wpAny_bind (wpAny_updateSeq (s:={s with heap:=h0}) g2 rfl ?_ (by simp) (by simp))
 have ht:(n+1 != if (((λ x:Array Value=>(#[]:Array Value)) #[v]).size==#[v].size)=true then n else n+1)=false:=by simp
 simp only [ht]
 show wpAny _ _ (ret Value.none) _ _ _
 refine wpAny_pure ?_
 exact h _ _ (Heap.get?_update_self _ g2 rfl) λ b o nb e=>Heap.get?_update_of_ne _ nb.symm (kp b o nb e)
theorem gr {l:Addr} {v:Value} {Q:Value->Shared->Prop} (hl:s.heap.IsList l #[v])
  (h:∀D h' n',s.heap.objs.size<=D->h'.get? D=some {cls:=.type "list",data:=.seq #[v] n'}->(∀b o,s.heap.get? b=some o->h'.get? b=some o)->Q (.ref D) {s with heap:=h'}) :
  wpAny (model prog w) A (call (.builtin "sorted") [.ref l]) Q E s:=by
 refine wpAny_call (codeAny_call_builtin plain_sorted entry_sorted ?_)
 have hc:checkBuiltinCall "sorted" {pos:=[.ref l]}=pure ():=by
  unfold checkBuiltinCall
  rw [kind_sorted]
  exact args_sorted1 _
 rw [hc]
 refine wpAny_pure ?_
 show wpAny _ _ (Builtin.sorted {pos:=[.ref l]}) _ _ _
 have hcc:checkCount "sorted" 1 1 ([Value.ref l]:List Value).length=pure ():=by kernel_rfl
 unfold Builtin.sorted
 simp only [hcc]
 refine wpAny_bind (wpAny_pure ?_)
 refine wpAny_bind (collect_list (vs:=[v]) (by simpa using hl) ?_ (by simp; decide +kernel))
 refine wpAny_bind (wpAny_newList ?_ (by simp; decide +kernel))
 have hs1:((s.heap.push (seqObj "list" #[] 0)).update s.heap.objs.size (Obj.mapSeq λ x=>x++[v].toArray)).objs.size=s.heap.objs.size+1:=((Heap.SameBut.update (s.heap.push (seqObj "list" #[] 0)) s.heap.objs.size (Obj.mapSeq λ x=>x++[v].toArray)).1).trans (Heap.size_push ..)
 have k1:∀b o,s.heap.get? b=some o->((s.heap.push (seqObj "list" #[] 0)).update s.heap.objs.size (Obj.mapSeq λ x=>x++[v].toArray)).get? b=some o:=λ b o e=>Heap.get?_update_of_ne _ (Nat.ne_of_gt (Heap.lt_size e)) (Heap.get?_push_of_some _ e)
 generalize (s.heap.push (seqObj "list" #[] 0)).update s.heap.objs.size (Obj.mapSeq λ x=>x++[v].toArray)=h0 at *
 have gD:(h0.push {cls:=.type "list",data:=.seq [v].toArray}).get? h0.objs.size=some {cls:=.type "list",data:=.seq [v].toArray}:=Heap.get?_push_size _ rfl
 refine wpAny_bind (wpAny_holding (wpAny_call (codeAny_call_builtin PySem.F.slot_list_sort.plain PyProof.Rows.entry_list_sort ?_)))
 refine PySem.F.slot_list_sort.check _ _ _ _ _ _ _ _ ⟨_,gD,rfl⟩ (PyProof.Rows.args_list_sort _) ?_
 refine sN (v:=v) (n:=0) (s:={s with heap:=h0.push {cls:=.type "list",data:=.seq [v].toArray}}) gD λ h' n' g' k'=>?_
 refine wpAny_pure ?_
 refine h h0.objs.size h' n' (by rw [hs1]; exact Nat.le_succ _) g' λ b o e=>k' b o (Nat.ne_of_lt (Heap.lt_size (k1 b o e))) (Heap.get?_push_of_some _ (k1 b o e))
end
end L2
end
section
namespace HT
open PySem PyProof.Rows
open PySem.SeqAt
open PySem.AutoSeq1 (wpAny_loadPart')
open PySem.MeetsSeq PySem.MeetsSeq2 PySem.MeetsSeq3
section
variable {prog:Program} {w:World} {A:Around} {E:Value->Shared->Prop} {s:Shared}
theorem eG {t sl:Addr} {items:Array Value} {vl vu:Value} {lo hi:Option Int} {Q:Value->Shared->Prop} (ht:IsTup s.heap t items) (hs:s.heap.IsSliceOf sl vl vu .none) (pl:IsPart vl lo) (pu:IsPart vu hi)
  (h1:sIx items.size 0 lo=0) (h2:sIx items.size items.size hi=items.size) (h:Q (.ref t) s):wpAny (model prog w) A (getItem (.ref t) (.ref sl)) Q E s:=by
 obtain ⟨os,hos,hcs,hds⟩:=id hs
 have hTs:s.TypeIs (.ref sl) "slice":=⟨os,hos,hcs⟩
 unfold getItem
 try with_reducible refine wpAny_holding ?_
 first | refine wpAny_bind (wpAny_pure ?_) | skip
 refine wpAny_bind (wpAny_sequenceKey ht.typeIs (by decide) ?_)
 refine wpAny_bind (wpAny_callSpecial?_slot (name:=Str.ofString "__getitem__") ht.typeIs PyProof.Rows.slot_tuple_getitem
  (wpAny_call_entry PyProof.Rows.slot_tuple_getitem ht.typeIs entry_tuple_getitem ?_ (args_tuple_getitem _ _)))
 show wpAny _ _ (Builtin.Tuple.tupleItemsOf (.ref t) >>= _) _ _ s
 refine wpAny_bind (tupleItemsOf_ ht ?_)
 refine wpAny_bind (wpAny_typeOf hTs ?_)
 rw [if_pos (by decide)]
 refine wpAny_bind (cW hs pl pu ?_)
 have hyes:(((sIx items.size 0 lo:Nat):Int)==0&&(1:Int)==1&&(sIx items.size items.size hi - sIx items.size 0 lo)==items.size)=true:=by
  rw [h1,h2]; simp
 show wpAny _ _ (if (((sIx items.size 0 lo:Nat):Int)==0&&(1:Int)==1&&(sIx items.size items.size hi - sIx items.size 0 lo)==items.size)=true then _ else _) _ _ s
 rw [if_pos hyes]
 refine wpAny_bind ?_
 unfold Builtin.Tuple.tupleIsExact
 refine wpAny_bind (wpAny_typeOf ht.typeIs (wpAny_pure ?_))
 rw [if_pos (by decide)]
 exact wpAny_bind (wpAny_rule (wpAny_pure ⟨_,rfl,wpAny_pure h⟩))
end
end HT
namespace L2
open PySem PySem.Spec PyProof.Rows
theorem vQ {X:Cx}:SlR X (λ x lo hi H Q=>∃a xs,x=.ref a/\SqT X.K H a xs/\(HT.sIx xs.length 0 lo=0/\HT.sIx xs.length xs.length hi=xs.length)/\Q (.ref a) H):=by
 intro pins s σ H x v vl vu lo hi sl Q I rx hs pl pu h
 obtain ⟨a,xs,rfl,hx,hw,q⟩:=h
 cases rx
 obtain ⟨its,r,ht,hz⟩:=I.tuple hx
 have hlen:its.toArray.size=xs.length:=by rw [List.size_toArray]; exact r.length.symm
 refine ⟨"tuple",_,PyProof.Rows.slot_tuple_getitem.lookup,ht.typeIs,?_⟩
 exact HT.eG ht hs pl pu (by rw [hlen]; exact hw.1) (by rw [hlen]; exact hw.2) ⟨.ref a,H,I,rfl,q⟩
end L2
end
section
namespace D
open PySem
inductive W where
 | non | bl (b:Bool) | int (i:Int) | str (x:Str) | tup (xs:List W) | fz (xs:List W) | obj (c:Str) (ks:List Str) (vs:List W) | ref (n:Nat)
 deriving Inhabited
inductive O where
 | lst (xs:List W) | ins (c:Str) (fs:List (Str×W)) | set (ks:List L2.Key) | dic (fs:List (Str×W))
abbrev Mem:=List O
abbrev Loc:=List (Option W)
inductive R (α:Type) where
 | no
 | ok (a:α) (m:Mem)
@[inline] noncomputable def R.bind {α β:Type} (x:R α) (f:α->Mem->R β):R β:=match x with
 | .no=>.no
 | .ok a m=>f a m
inductive U where
 | gm | mind | kin (kvs:List (Str×W)) | knin (kvs:List (Str×W)) | kget (kvs:List (Str×W)) | dict (ks:List Str)
inductive B where
 | len | abs | max | min | divmod | all | any | list | tuple | int | sorted | sum | repr
 deriving DecidableEq
mutual
inductive T where
 | var (i:Nat) | tup (ts:Ts)
inductive Ts where
 | nil | cons (t:T) (ts:Ts)
end
mutual
inductive E where
 | var (i:Nat) | cst (w:W)
 | bin (op:Operator) (a b:E) | neg (a:E) | not (a:E) | and (a b:E) | or (a b:E)
 | cmp (op:CmpOp) (a b:E) | chain (o1 o2:CmpOp) (a b c:E)
 | ife (t a b:E) | tup (es:Es) | lst (es:Es) | idx (a b:E)
 | slc (a:E) (lo hi:Oe)
 | call (f:Nat) (es:Es) | blt (b:B) (es:Es) | isI (a:E) (t:String)
 | meth (o:E) (m:String) (es:Es)
 | comp (g:G)
 | rng (a:E) | rng2 (a b:E) | enm (a:E) | zip (es:Es) | lrng (a:E)
 | frz (a:E) | fld (a:E) (f:Str) | make (c:Str) (es:Es) | mth (o:E) (m:Str) (es:Es) | set0 | fus (u:U) (a:E)
inductive Es where
 | nil | cons (e:E) (es:Es)
inductive Oe where
 | none | some (e:E)
inductive G where
 | elt (e:E) | gen (t:T) (js:List Nat) (it:E) (ifs:Es) (rest:G)
end
mutual
inductive A where
 | pt (t:T) | sub (o i:E) | tup (l:As)
inductive As where
 | nil | cons (a:A) (l:As)
end
mutual
inductive S where
 | asg (t:A) (e:E) | aug (i:Nat) (op:Operator) (e:E) | expr (e:E) | ret (e:E) | retN
 | ife (t:E) (a b:Ss) | for_ (t:T) (it:E) (b:Ss) | while_ (t:E) (b:Ss) | pass | brk | cont | never
 | fas (o:E) (f:Str) (e:E)
inductive Ss where
 | nil | cons (s:S) (r:Ss)
end
noncomputable def lim:Nat:=1000000
noncomputable def new (o:O) (m:Mem):R W:=.ok (.ref m.length) (m++[o])
noncomputable def getL (m:Mem):W->Option (List W)
 | .ref n=>match m[n]? with
  | some (.lst xs)=>some xs
  | _=>none
 | .fz xs=>some xs
 | _=>none
noncomputable def bG (m:Mem):W->Option (List W)
 | .tup xs=>some xs
 | w=>getL m w
noncomputable def bT {α:Type} (f:W->Option α):List W->Option (List α)
 | []=>some []
 | x::xs=>match f x with
  | none=>none
  | some d=>match bT f xs with
   | none=>none
   | some ds=>some (d::ds)
noncomputable def toD:Nat->Mem->W->Option PyData
 | 0,_,_=>none
 | n+1,m,w=>match w with
  | .non=>some .none
  | .bl b=>some (.bool b)
  | .int i=>some (.int i)
  | .str x=>if x.cps.all (· < 0x110000) then some (.str x) else none
  | .tup xs=>(bT (toD n m) xs).map .tuple
  | .fz xs=>(bT (toD n m) xs).map .list
  | .ref a=>match getL m (.ref a) with
   | some xs=>(bT (toD n m) xs).map .list
   | none=>none
  | .obj _ _ _=>none
noncomputable def eqW (m:Mem) (x y:W):R Bool:=match toD 60 m x,toD 60 m y with
 | some d,some e=>.ok (PyData.eqv d e) m
 | _,_=>.no
noncomputable def truthy (m:Mem):W->R Bool
 | .non=>.ok false m
 | .bl b=>.ok b m
 | .int i=>.ok (i != 0) m
 | .str x=>if x.length<=lim then .ok ((x.length:Int) != 0) m else .no
 | .tup xs=>.ok (!xs.isEmpty) m
 | .fz xs=>.ok (!xs.isEmpty) m
 | .ref n=>match getL m (.ref n) with
  | some xs=>.ok (!xs.isEmpty) m
  | none=>.no
 | .obj _ _ _=>.no
noncomputable def eN (i j:Int):Bool:=(decide (-(2^64) < i)&&decide (i < 2^64))||(decide (-(2^64) < j)&&decide (j < 2^64))
noncomputable def vR (m:Mem) (x y:W):R W:=match getL m x,getL m y with
 | some xs,some ys=>if xs.length+ys.length<=lim then new (.lst (xs++ys)) m else .no
 | _,_=>.no
noncomputable def Ed (n:Nat) (xs:List W):List W:=(List.replicate n xs).flatten
noncomputable def binop (op:Operator) (x y:W) (m:Mem):R W:=match op with
 | .Add=>match x,y with
  | .int i,.int j=>.ok (.int (i+j)) m
  | .tup xs,.tup ys=>if xs.length+ys.length<=lim then .ok (.tup (xs++ys)) m else .no
  | .str a,.str b=>if a.length+b.length<=lim then .ok (.str (a++b)) m else .no
  | x,y=>vR m x y
 | .Sub=>match x,y with
  | .int i,.int j=>.ok (.int (i - j)) m
  | _,_=>.no
 | .Mult=>match x,y with
  | .int i,.int j=>if eN i j then .ok (.int (i*j)) m else .no
  | _,_=>.no
 | .FloorDiv=>match x,y with
  | .int i,.int j=>if 0 < j/\j < 1073741824 then .ok (.int (i / j)) m else .no
  | _,_=>.no
 | .Mod=>match x,y with
  | .int i,.int j=>if 0 < j then .ok (.int (i%j)) m else .no
  | _,_=>.no
 | .Pow=>match x,y with
  | .int i,.int j=>if 0<=j/\j<=1000000/\i.natAbs < 2^64 then .ok (.int (i^j.toNat)) m else .no
  | _,_=>.no
 | .LShift=>match x,y with
  | .int i,.int j=>if 0<=j/\j<=1000000/\i.natAbs < 2^64 then .ok (.int (i*2^j.toNat)) m else .no
  | _,_=>.no
 | .RShift=>match x,y with
  | .int i,.int j=>if 0<=j then .ok (.int (i / 2^j.toNat)) m else .no
  | _,_=>.no
 | .BitAnd=>match x,y with
  | .int i,.int j=>.ok (.int (Builtin.bitAnd i j)) m
  | _,_=>.no
 | _=>.no
noncomputable def iU (m:Mem) (x:W) (ys:List W):R Bool:=match toD 60 m x,bT (toD 60 m) ys with
 | some d,some es=>.ok (es.any λ e=>PyData.eqv e d) m
 | _,_=>.no
noncomputable def gZ (k:L2.Key) (ks:List L2.Key):Bool:=ks.any λ j=>decide (j=k)
noncomputable def sO:W->Option L2.Key
 | .int i=>some (.inl i)
 | .str x=>some (.inr x)
 | _=>none
noncomputable def ng (m:Mem) (x y:W):R Bool:=match y with
 | .str b=>match x with
  | .str a=>.ok (!(Builtin.Str.occurrences b a 0 b.length 1).isEmpty) m
  | _=>.no
 | .ref n=>match m[n]? with
  | some (.lst ys)=>iU m x ys
  | some (.set ks)=>match sO x with
   | some k=>.ok (gZ k ks) m
   | none=>.no
  | some (.dic fs)=>match x with
   | .str z=>.ok (fs.lookup z).isSome m
   | _=>.no
  | _=>.no
 | .fz ys=>iU m x ys
 | .tup ys=>iU m x ys
 | _=>.no
noncomputable def ow:W->Bool
 | .non=>true
 | _=>false
noncomputable def dJ:List W->Option (List Int)
 | []=>some []
 | .int b::r=>(dJ r).map (b::·)
 | _::_=>none
noncomputable def ak (op:CmpOp) (x y:W) (m:Mem):R Bool:=match op with
 | .Eq=>eqW m x y
 | .NotEq=>(eqW m x y).bind λ b m=>.ok (!b) m
 | .Lt=>match x,y with
  | .int i,.int j=>.ok (decide (i < j)) m
  | .str a,.str b=>.ok (decide (a.cps.toList < b.cps.toList)) m
  | _,_=>.no
 | .LtE=>match x,y with
  | .int i,.int j=>.ok (decide (i<=j)) m
  | .str a,.str b=>.ok (!decide (b.cps.toList < a.cps.toList)) m
  | _,_=>.no
 | .Gt=>match x,y with | .int i,.int j=>.ok (decide (j < i)) m | _,_=>.no
 | .GtE=>match x,y with | .int i,.int j=>.ok (decide (j<=i)) m | _,_=>.no
 | .In=>ng m x y
 | .NotIn=>match y with
  | .ref n=>match m[n]? with
   | some (.lst ys)=>(iU m x ys).bind λ b m=>.ok (!b) m
   | some (.dic fs)=>match x with
    | .str z=>.ok (!(fs.lookup z).isSome) m
    | _=>.no
   | _=>.no
  | .fz ys=>(iU m x ys).bind λ b m=>.ok (!b) m
  | .tup ys=>(iU m x ys).bind λ b m=>.ok (!b) m
  | _=>.no
 | .Is=>match y with
  | .non=>.ok (ow x) m
  | _=>.no
 | .IsNot=>match y with
  | .non=>.ok (!ow x) m
  | _=>.no
noncomputable def aQ (x y:W) (m:Mem):R W:=match y with
 | .int i=>match x with
  | .str z=>if z.length<=lim then match L2.atI z.cps.toList i with
   | some c=>.ok (.str ⟨#[c]⟩) m
   | none=>.no else .no
  | x=>match bG m x with
   | some xs=>match L2.atI xs i with
    | some w=>.ok w m
    | none=>.no
   | none=>.no
 | .str z=>match x with
  | .ref n=>match m[n]? with
   | some (.dic fs)=>match fs.lookup z with
    | some w=>.ok w m
    | none=>.no
   | _=>.no
  | _=>.no
 | _=>.no
noncomputable def fk (xs:List W) (lo hi:Option Int):List W:=(xs.drop (HT.sIx xs.length 0 lo)).take (HT.sIx xs.length xs.length hi - HT.sIx xs.length 0 lo)
noncomputable def cG (x:W) (lo hi:Option Int) (m:Mem):R W:=match x with
 | .tup xs=>.ok (.tup (fk xs lo hi)) m
 | .str z=>if z.length<=lim then .ok (.str (Txt.slice z lo hi)) m else .no
 | x=>match getL m x with
  | some xs=>new (.lst (fk xs lo hi)) m
  | none=>.no
noncomputable def kX (o i v:W) (m:Mem):R Unit:=match o,i with
 | .ref n,.int k=>match m[n]? with
  | some (.lst xs)=>match L2.ixN xs.length k with
   | some j=>.ok () (m.set n (.lst (xs.set j v)))
   | none=>.no
  | _=>.no
 | _,_=>.no
noncomputable def bools:List W->Option (List Bool)
 | []=>some []
 | .bl b::r=>(bools r).map (b::·)
 | _::_=>none
noncomputable def gu (m:Mem) (t:String):W->Option Bool
 | .non=>some (t=="NoneType")
 | .bl _=>some (t=="bool"||t=="int")
 | .int _=>some (t=="int")
 | .str _=>some (t=="str")
 | .tup _=>some (t=="tuple")
 | .fz _=>some (t=="list")
 | .ref n=>match m[n]? with
  | some (.lst _)=>some (t=="list")
  | _=>none
 | .obj _ _ _=>none
noncomputable def sP:W->Option (List Int)
 | .tup xs=>dJ xs
 | _=>none
noncomputable def cK:List W->Option (List Str)
 | []=>some []
 | .str b::r=>(cK r).map (b::·)
 | _::_=>none
noncomputable def BL:PyData->Bool
 | .list _=>true
 | .tuple _=>true
 | _=>false
noncomputable def shD (d:PyData):Bool:=BL d&&d.layable0&&d.intsShort 13&&d.showable&&!d.hasDict&&decide (d.depth<=60)
noncomputable def bf (b:B) (xs:List W) (m:Mem):R W:=match b with
 | .len=>match xs with
  | [x]=>match x with
   | .str z=>if z.length<=lim then .ok (.int z.length) m else .no
   | x=>match bG m x with
    | some ys=>.ok (.int ys.length) m
    | none=>.no
  | _=>.no
 | .abs=>match xs with
  | [.int i]=>.ok (.int (if i < 0 then -i else i)) m
  | _=>.no
 | .max=>match xs with
  | [.int i,.int j]=>.ok (.int (if j>i then j else i)) m
  | _=>.no
 | .min=>match xs with
  | [.int i,.int j]=>.ok (.int (if j < i then j else i)) m
  | _=>.no
 | .divmod=>match xs with
  | [.int i,.int j]=>if 0 < j/\j < 1073741824 then .ok (.tup [.int (i / j),.int (i%j)]) m else .no
  | _=>.no
 | .all=>match xs with
  | [x]=>match getL m x with
   | some ys=>match bools ys with
    | some bs=>.ok (.bl (bs.all id)) m
    | none=>.no
   | none=>.no
  | _=>.no
 | .any=>match xs with
  | [x]=>match getL m x with
   | some ys=>match bools ys with
    | some bs=>.ok (.bl (bs.any id)) m
    | none=>.no
   | none=>.no
  | _=>.no
 | .list=>match xs with
  | [x]=>match bG m x with
   | some ys=>new (.lst ys) m
   | none=>.no
  | _=>.no
 | .tuple=>match xs with
  | [x]=>match bG m x with
   | some ys=>.ok (.tup ys) m
   | none=>.no
  | _=>.no
 | .int=>match xs with
  | [.int i]=>.ok (.int i) m
  | [.bl b]=>.ok (.int (if b then 1 else 0)) m
  | _=>.no
 | .repr=>match xs with
  | [x]=>match toD 60 m x with
   | some d=>if shD d=true then .ok (.str d.shown) m else .no
   | none=>.no
  | _=>.no
 | _=>.no
noncomputable def cD (ks:List Int):Bool:=decide (ks.length<=4)&&ks.all λ i=>i==0||i==1
noncomputable def sQ (tss:List (List Int)) (m:Mem):R W:=if tss.length<=4/\tss.all cD=true/\tss.Nodup then .ok (.int tss.length) m else .no
noncomputable def sR (ys:List W) (tss:List (List Int)) (m:Mem):R W:=if (tss.all λ ns=>!HT.lexLt ns (tss.headD []))=true then .ok (ys.head?.getD .non) m else .no
noncomputable def nh (xs:List W) (m:Mem):R W:=match dJ xs with
 | some ns=>if ns.length<=4000 then .ok (.int (L2.unlike ns)) m else .no
 | none=>.no
noncomputable def vS (f:List W->List (List Int)->R W) (x:W) (m:Mem):R W:=match getL m x with
 | none=>.no
 | some ys=>match bT sP ys with
  | none=>.no
  | some tss=>f ys tss
noncomputable def ni (ks:List Str) (x:W) (m:Mem):R W:=match x with
 | .tup ws=>if ks.length=ws.length/\ks.Nodup/\ks.length<=15 then new (.dic (ks.zip ws)) m else .no
 | _=>.no
noncomputable def bX (u:U) (x:W) (m:Mem):R W:=match u with
 | .gm=>match x with
  | .tup xs=>nh xs m
  | x=>vS (λ _ tss=>sQ tss m) x m
 | .mind=>vS (λ ys tss=>sR ys tss m) x m
 | .kin kvs=>match x with
  | .str z=>.ok (.bl (kvs.lookup z).isSome) m
  | _=>.no
 | .knin kvs=>match x with
  | .str z=>.ok (.bl (!(kvs.lookup z).isSome)) m
  | _=>.no
 | .kget kvs=>match x with
  | .str z=>match kvs.lookup z with
   | some w=>.ok w m
   | none=>.no
  | _=>.no
 | .dict ks=>ni ks x m
noncomputable def fm (n:Nat) (ys xs:List W) (m:Mem):R W:=match xs with
 | [x]=>if ys.length < lim then .ok .non (m.set n (.lst (ys++[x]))) else .no
 | _=>.no
noncomputable def oz (n:Nat) (xs:List W) (m:Mem):R W:=match xs with
 | []=>.ok .non (m.set n (.lst []))
 | _=>.no
noncomputable def jl (n:Nat) (ys xs:List W) (m:Mem):R W:=match xs with
 | []=>.ok .non (m.set n (.lst ys.reverse))
 | _=>.no
noncomputable def oA (n:Nat) (ys xs:List W) (m:Mem):R W:=match xs with
 | []=>match ys[ys.length - 1]? with
  | some y=>.ok y (m.set n (.lst ys.dropLast))
  | none=>.no
 | [.int i]=>if -(2^63)<=i/\i < 2^63 then match seqIndex? i ys.length with
  | some k=>match ys[k]? with
   | some y=>.ok y (m.set n (.lst (ys.eraseIdx k)))
   | none=>.no
  | none=>.no else .no
 | _=>.no
noncomputable def sS (n:Nat) (ys xs:List W) (m:Mem):R W:=match xs with
 | [.ref b]=>match m[b]? with
  | some (.lst zs)=>if ys.length+zs.length<=lim then .ok .non (m.set n (.lst (ys++zs))) else .no
  | _=>.no
 | _=>.no
noncomputable def fq (n:Nat) (ys xs:List W) (m:Mem):R W:=match xs with
 | [.int i,y]=>if 0<=i/\i<=ys.length/\ys.length < lim then .ok .non (m.set n (.lst (ys.take i.toNat++[y]++ys.drop i.toNat))) else .no
 | _=>.no
noncomputable def jN (ys xs:List W) (m:Mem):R W:=match xs with
 | [x]=>match x with
  | .str z=>match cK ys with
   | some ss=>.ok (.int (ss.count z)) m
   | none=>.no
  | _=>.no
 | _=>.no
noncomputable def bY (n:Nat) (ys:List W) (name:String) (xs:List W) (m:Mem):R W:=
 if name="append" then fm n ys xs m
 else if name="clear" then oz n xs m
 else if name="reverse" then jl n ys xs m
 else if name="pop" then oA n ys xs m
 else if name="extend" then sS n ys xs m
 else if name="insert" then fq n ys xs m
 else if name="count" then jN ys xs m
 else .no
noncomputable def jO (z:Str) (xs:List W) (m:Mem):R W:=match xs with
 | [x]=>match getL m x with
  | some ys=>match cK ys with
   | some ss=>if (ss.map (·.length)).sum+ss.length*z.length<=16777216 then .ok (.str (Txt.join z ss)) m else .no
   | none=>.no
  | none=>.no
 | _=>.no
noncomputable def g6 (z:Str) (xs:List W) (m:Mem):R W:=match xs with
 | [.str y]=>match (Builtin.Str.occurrences z y 0 z.length 1).head? with
  | some p=>.ok (.int (p:Nat)) m
  | none=>.no
 | _=>.no
noncomputable def kY (z:Str) (name:String) (xs:List W) (m:Mem):R W:=
 if name="join" then jO z xs m
 else if name="index" then g6 z xs m
 else .no
noncomputable def sU (n:Nat) (ks:List L2.Key) (xs:List W) (m:Mem):R W:=match xs with
 | [x]=>match sO x with
  | some k=>if ks.length < 4000 then .ok .non (m.set n (.set (if gZ k ks then ks else ks++[k]))) else .no
  | none=>.no
 | _=>.no
noncomputable def ee (n:Nat) (ks:List L2.Key) (name:String) (xs:List W) (m:Mem):R W:=
 if name="add" then sU n ks xs m
 else .no
noncomputable def aM (o:W) (name:String) (xs:List W) (m:Mem):R W:=match o with
 | .ref n=>match m[n]? with
  | some (.lst ys)=>bY n ys name xs m
  | some (.set ks)=>ee n ks name xs m
  | _=>.no
 | .str z=>kY z name xs m
 | _=>.no
inductive Kd where
 | lst | str | set | no
 deriving DecidableEq
noncomputable def kdOf (m:Mem):W->Kd
 | .ref n=>match m[n]? with
  | some (.lst _)=>.lst
  | some (.set _)=>.set
  | _=>.no
 | .str _=>.str
 | _=>.no
noncomputable def kdM (name:String):Kd:=if name="join"\/name="index" then .str else if name="add" then .set else .lst
mutual
noncomputable def frW (g:Nat->Option W):W->Option W
 | .tup xs=>(cz g xs).map .tup
 | .fz xs=>(cz g xs).map .fz
 | .obj c ks vs=>(cz g vs).map (.obj c ks)
 | .ref n=>g n
 | .non=>some .non
 | .bl b=>some (.bl b)
 | .int i=>some (.int i)
 | .str x=>some (.str x)
noncomputable def cz (g:Nat->Option W):List W->Option (List W)
 | []=>some []
 | x::r=>match frW g x with
  | none=>none
  | some y=>match cz g r with
   | none=>none
   | some ys=>some (y::ys)
end
noncomputable def frG (m:Mem) (k:Nat):Nat->Nat->Option W
 | 0,a=>if a < k then some (.ref a) else none
 | n+1,a=>if a < k then some (.ref a) else match m[a]? with
  | some (.lst xs)=>(cz (frG m k n) xs).map .fz
  | some (.ins c fs)=>(cz (frG m k n) (fs.map (·.2))).map (.obj c (fs.map (·.1)))
  | _=>none
mutual
noncomputable def dM (k:Nat):W->Bool
 | .tup xs=>bJ k xs
 | .fz xs=>bJ k xs
 | .obj _ _ vs=>bJ k vs
 | .ref n=>decide (n < k)
 | .non=>true
 | .bl _=>true
 | .int _=>true
 | .str _=>true
noncomputable def bJ (k:Nat):List W->Bool
 | []=>true
 | x::r=>dM k x&&bJ k r
end
noncomputable def dm (k:Nat):O->Bool
 | .lst xs=>bJ k xs
 | .ins _ fs=>bJ k (fs.map (·.2))
 | .set _=>true
 | .dic fs=>bJ k (fs.map (·.2))
noncomputable def qm (k:Nat) (m:Mem):Bool:=m.all (dm k)
noncomputable def qp (m:Mem) (r:R W):R W:=match r with
 | .no=>.no
 | .ok w m1=>if m.length<=m1.length/\qm m.length (m1.take m.length)=true then match frW (frG m1 m.length 8) w with
  | some w1=>.ok w1 (m1.take m.length)
  | none=>.no else .no
noncomputable def clr:List Nat->Loc->Loc
 | [],ρ=>ρ
 | j::r,ρ=>clr r (ρ.set j none)
mutual
noncomputable def aD:T->W->Loc->Option Loc
 | .var i,w,ρ=>some (ρ.set i (some w))
 | .tup ts,w,ρ=>match w with
  | .tup xs=>bU ts xs ρ
  | .fz xs=>bU ts xs ρ
  | _=>none
noncomputable def bU:Ts->List W->Loc->Option Loc
 | .nil,xs,ρ=>match xs with
  | []=>some ρ
  | _::_=>none
 | .cons t ts,xs,ρ=>match xs with
  | []=>none
  | x::xs=>match aD t x ρ with
   | some ρ=>bU ts xs ρ
   | none=>none
end
inductive Src where
 | lst (n:Nat) | tup (xs:List W) | rng (lo:Int) (k:Nat) | enm (s:Src) | zip (ss:List Src)
inductive Nx where
 | bad | fin | it (w:W)
inductive Nxs where
 | bad | fin | its (ws:List W)
mutual
noncomputable def Src.get:Src->Mem->Nat->Nx
 | .lst n,m,i=>match getL m (.ref n) with
  | some xs=>match xs[i]? with
   | some w=>.it w
   | none=>.fin
  | none=>.bad
 | .tup xs,_,i=>match xs[i]? with
  | some w=>.it w
  | none=>.fin
 | .rng lo k,_,i=>if i < k then .it (.int (lo+i)) else .fin
 | .enm s,m,i=>match s.get m i with
  | .it w=>.it (.tup [.int i,w])
  | .fin=>.fin
  | .bad=>.bad
 | .zip ss,m,i=>match Src.BN ss m i with
  | .its ws=>.it (.tup ws)
  | .fin=>.fin
  | .bad=>.bad
noncomputable def Src.BN:List Src->Mem->Nat->Nxs
 | [],_,_=>.its []
 | s::ss,m,i=>match s.get m i,Src.BN ss m i with
  | .bad,_=>.bad
  | _,.bad=>.bad
  | .it w,.its ws=>.its (w::ws)
  | _,_=>.fin
end
mutual
noncomputable def Src.len:Src->Mem->Nat
 | .lst n,m=>match getL m (.ref n) with
  | some xs=>xs.length
  | none=>0
 | .tup xs,_=>xs.length
 | .rng _ k,_=>k
 | .enm s,m=>s.len m
 | .zip ss,m=>Src.lens ss m
noncomputable def Src.lens:List Src->Mem->Nat
 | [],_=>0
 | s::ss,m=>max (s.len m) (Src.lens ss m)
end
noncomputable def srcOf (m:Mem):W->Option Src
 | .tup xs=>some (.tup xs)
 | .fz xs=>some (.tup xs)
 | .ref n=>match getL m (.ref n) with
  | some _=>some (.lst n)
  | none=>none
 | _=>none
noncomputable def sV (m:Mem):List W->Option (List Src)
 | []=>some []
 | w::ws=>match srcOf m w with
  | none=>none
  | some s=>match sV m ws with
   | none=>none
   | some ss=>some (s::ss)
noncomputable def signs (z:Str):List W:=z.cps.toList.map λ c=>W.str ⟨#[c]⟩
noncomputable def nj (m:Mem):W->Option Src
 | .str z=>if L2.asc z then some (.tup (signs z)) else none
 | w=>srcOf m w
set_option genInjectivity false in
structure Cs where
 flds:List (Str×Str)
 mths:List ((Str×Str)×Nat)
 ini:List (Str×Nat)
 dic:List (Str×List (Str×W)):=[]
set_option genInjectivity false in
structure Cx where
 call:Nat->List W->Mem->R W
 fuel:Nat
 cs:Cs
noncomputable def jm (m:Mem):W->Option (Str×List (Str×W))
 | .ref n=>match m[n]? with
  | some (.ins c fs)=>some (c,fs)
  | _=>none
 | .obj c ks vs=>some (c,ks.zip vs)
 | _=>none
noncomputable def jn (cs:Cs) (x:W) (f:Str) (m:Mem):R W:=match jm m x with
 | some (c,fs)=>if cs.flds.contains (c,f) then match fs.lookup f with
  | some w=>.ok w m
  | none=>.no else .no
 | none=>.no
noncomputable def g9 (cs:Cs) (x:W) (f:Str) (m:Mem):Option Nat:=match jm m x with
 | some (c,fs)=>if (fs.lookup f).isNone then cs.mths.lookup (c,f) else none
 | none=>none
noncomputable def cu (f:Str) (v:W):List (Str×W)->List (Str×W)
 | []=>[(f,v)]
 | (g,x)::r=>if g=f then (g,v)::r else (g,x)::cu f v r
noncomputable def kZ (cs:Cs) (x:W) (f:Str) (v:W) (m:Mem):R Unit:=match x with
 | .ref n=>match m[n]? with
  | some (.ins c fs)=>if cs.flds.contains (c,f)/\fs.length < 1000 then .ok () (m.set n (.ins c (cu f v fs))) else .no
  | _=>.no
 | _=>.no
noncomputable def fQ (C:Cx) (c:Str) (ws:List W) (m:Mem):R W:=match C.cs.ini.lookup c with
 | some i=>(C.call i (.ref m.length::ws) (m++[.ins c []])).bind λ w m1=>match w with
  | .non=>.ok (.ref m.length) m1
  | _=>.no
 | none=>.no
inductive F where
 | nx (ρ:Loc) | rt (w:W) | bk (ρ:Loc) | ct (ρ:Loc)
noncomputable def eH (get:Mem->Nat->Nx) (t:T) (body:Loc->Mem->R F):Nat->Nat->Loc->Mem->R F
 | k,i,ρ,m=>match get m i with
  | .bad=>.no
  | .fin=>.ok (.nx ρ) m
  | .it x=>match k with
   | 0=>.no
   | k+1=>match aD t x ρ with
    | none=>.no
    | some ρ=>(body ρ m).bind λ f m=>match f with
     | .nx ρ=>eH get t body k (i+1) ρ m
     | .ct ρ=>eH get t body k (i+1) ρ m
     | .bk ρ=>.ok (.nx ρ) m
     | .rt w=>.ok (.rt w) m
noncomputable def nk (c:Loc->Mem->R Bool) (body:Loc->Mem->R F):Nat->Loc->Mem->R F
 | 0,_,_=>.no
 | k+1,ρ,m=>(c ρ m).bind λ b m=>if b then (body ρ m).bind λ f m=>match f with
   | .nx ρ=>nk c body k ρ m
   | .ct ρ=>nk c body k ρ m
   | .bk ρ=>.ok (.nx ρ) m
   | .rt w=>.ok (.rt w) m
  else .ok (.nx ρ) m
noncomputable def bH (get:Mem->Nat->Nx) (t:T) (test:Loc->Mem->R Bool) (body:Loc->Mem->List W->R (List W×Loc)):Nat->Nat->Loc->Mem->List W->R (List W×Loc)
 | k,i,ρ,m,acc=>match get m i with
  | .bad=>.no
  | .fin=>.ok (acc,ρ) m
  | .it x=>match k with
   | 0=>.no
   | k+1=>match aD t x ρ with
    | none=>.no
    | some ρ=>(test ρ m).bind λ b m=>if b then (body ρ m acc).bind λ p m=>bH get t test body k (i+1) p.2 m p.1 else bH get t test body k (i+1) ρ m acc
noncomputable def toI (x:W) (m:Mem):R Src:=match nj m x with
 | some s=>.ok s m
 | none=>.no
mutual
noncomputable def evE (C:Cx):E->Loc->Mem->R W
 | .var i,ρ,m=>match ρ[i]? with
  | some (some w)=>.ok w m
  | _=>.no
 | .cst w,_,m=>.ok w m
 | .bin op a b,ρ,m=>(evE C a ρ m).bind λ x m=>(evE C b ρ m).bind λ y m=>binop op x y m
 | .neg a,ρ,m=>(evE C a ρ m).bind λ x m=>match x with
  | .int i=>.ok (.int (-i)) m
  | _=>.no
 | .not a,ρ,m=>(evE C a ρ m).bind λ x m=>match x with
  | .bl b=>.ok (.bl (!b)) m
  | _=>.no
 | .and a b,ρ,m=>(evE C a ρ m).bind λ x m=>match x with
  | .bl c=>if c then evE C b ρ m else .ok (.bl false) m
  | _=>.no
 | .or a b,ρ,m=>(evE C a ρ m).bind λ x m=>match x with
  | .bl c=>if c then .ok (.bl true) m else evE C b ρ m
  | _=>.no
 | .cmp op a b,ρ,m=>(evE C a ρ m).bind λ x m=>(evE C b ρ m).bind λ y m=>(ak op x y m).bind λ c m=>.ok (.bl c) m
 | .chain o1 o2 a b c,ρ,m=>(evE C a ρ m).bind λ x m=>(evE C b ρ m).bind λ y m=>(ak o1 x y m).bind λ k m=>
   if k then (evE C c ρ m).bind λ z m=>(ak o2 y z m).bind λ k m=>.ok (.bl k) m else .ok (.bl false) m
 | .ife t a b,ρ,m=>(evT C t ρ m).bind λ c m=>if c then evE C a ρ m else evE C b ρ m
 | .tup es,ρ,m=>(aH C es ρ m).bind λ ws m=>if ws.length<=lim then .ok (.tup ws) m else .no
 | .lst es,ρ,m=>(aH C es ρ m).bind λ ws m=>if ws.length<=lim then new (.lst ws) m else .no
 | .idx a b,ρ,m=>(evE C a ρ m).bind λ x m=>(evE C b ρ m).bind λ y m=>aQ x y m
 | .slc a lo hi,ρ,m=>(evE C a ρ m).bind λ x m=>(evO C lo ρ m).bind λ l m=>(evO C hi ρ m).bind λ u m=>cG x l u m
 | .call f es,ρ,m=>(aH C es ρ m).bind λ ws m=>C.call f ws m
 | .blt b es,ρ,m=>(aH C es ρ m).bind λ ws m=>bf b ws m
 | .isI a t,ρ,m=>(evE C a ρ m).bind λ x m=>match gu m t x with
  | some b=>.ok (.bl b) m
  | none=>.no
 | .meth o name es,ρ,m=>(evE C o ρ m).bind λ x m=>if kdOf m x=kdM name then (aH C es ρ m).bind λ ws m=>aM x name ws m else .no
 | .comp g,ρ,m=>(evG C g ρ m []).bind λ p m=>new (.lst p.1) m
 | .lrng a,ρ,m=>(evE C a ρ m).bind λ x m=>match x with
  | .int j=>if 0<=j/\j<=1000000 then new (.lst ((List.range j.toNat).map λ i=>W.int (i:Nat))) m else .no
  | _=>.no
 | .frz a,ρ,m=>qp m (evE C a ρ m)
 | .fld a f,ρ,m=>(evE C a ρ m).bind λ x m=>jn C.cs x f m
 | .make c es,ρ,m=>(aH C es ρ m).bind λ ws m=>fQ C c ws m
 | .mth o f es,ρ,m=>(evE C o ρ m).bind λ x m=>match g9 C.cs x f m with
  | some i=>(aH C es ρ m).bind λ ws m=>C.call i (x::ws) m
  | none=>.no
 | .set0,_,m=>new (.set []) m
 | .fus u a,ρ,m=>(evE C a ρ m).bind λ x m=>bX u x m
 | .rng _,_,_=>.no
 | .rng2 _ _,_,_=>.no
 | .enm _,_,_=>.no
 | .zip _,_,_=>.no
noncomputable def aH (C:Cx):Es->Loc->Mem->R (List W)
 | .nil,_,m=>.ok [] m
 | .cons e es,ρ,m=>(evE C e ρ m).bind λ w m=>(aH C es ρ m).bind λ ws m=>.ok (w::ws) m
noncomputable def evO (C:Cx):Oe->Loc->Mem->R (Option Int)
 | .none,_,m=>.ok none m
 | .some e,ρ,m=>(evE C e ρ m).bind λ w m=>match w with
  | .int i=>.ok (some i) m
  | _=>.no
noncomputable def evT (C:Cx):E->Loc->Mem->R Bool
 | .and a b,ρ,m=>(evT C a ρ m).bind λ c m=>if c then evT C b ρ m else .ok false m
 | .or a b,ρ,m=>(evT C a ρ m).bind λ c m=>if c then .ok true m else evT C b ρ m
 | .not a,ρ,m=>(evT C a ρ m).bind λ c m=>.ok (!c) m
 | .cmp op a b,ρ,m=>(evE C a ρ m).bind λ x m=>(evE C b ρ m).bind λ y m=>ak op x y m
 | .chain o1 o2 a b c,ρ,m=>(evE C a ρ m).bind λ x m=>(evE C b ρ m).bind λ y m=>(ak o1 x y m).bind λ k m=>
   if k then (evE C c ρ m).bind λ z m=>ak o2 y z m else .ok false m
 | .ife t a b,ρ,m=>(evT C t ρ m).bind λ c m=>if c then evT C a ρ m else evT C b ρ m
 | .var i,ρ,m=>R.bind (match ρ[i]? with
   | some (some w)=>.ok w m
   | _=>.no) λ w m=>truthy m w
 | .cst w,_,m=>R.bind (.ok w m) λ w m=>truthy m w
 | .bin op a b,ρ,m=>R.bind ((evE C a ρ m).bind λ x m=>(evE C b ρ m).bind λ y m=>binop op x y m) λ w m=>truthy m w
 | .neg a,ρ,m=>R.bind ((evE C a ρ m).bind λ x m=>match x with
   | .int i=>.ok (.int (-i)) m
   | _=>.no) λ w m=>truthy m w
 | .tup es,ρ,m=>R.bind ((aH C es ρ m).bind λ ws m=>if ws.length<=lim then .ok (.tup ws) m else .no) λ w m=>truthy m w
 | .lst es,ρ,m=>R.bind ((aH C es ρ m).bind λ ws m=>if ws.length<=lim then new (.lst ws) m else .no) λ w m=>truthy m w
 | .idx a b,ρ,m=>R.bind ((evE C a ρ m).bind λ x m=>(evE C b ρ m).bind λ y m=>aQ x y m) λ w m=>truthy m w
 | .slc a lo hi,ρ,m=>R.bind ((evE C a ρ m).bind λ x m=>(evO C lo ρ m).bind λ l m=>(evO C hi ρ m).bind λ u m=>cG x l u m) λ w m=>truthy m w
 | .call f es,ρ,m=>R.bind ((aH C es ρ m).bind λ ws m=>C.call f ws m) λ w m=>truthy m w
 | .blt b es,ρ,m=>R.bind ((aH C es ρ m).bind λ ws m=>bf b ws m) λ w m=>truthy m w
 | .isI a t,ρ,m=>R.bind ((evE C a ρ m).bind λ x m=>match gu m t x with
   | some b=>.ok (.bl b) m
   | none=>.no) λ w m=>truthy m w
 | .meth o name es,ρ,m=>R.bind ((evE C o ρ m).bind λ x m=>if kdOf m x=kdM name then (aH C es ρ m).bind λ ws m=>aM x name ws m else .no) λ w m=>truthy m w
 | .comp g,ρ,m=>R.bind ((evG C g ρ m []).bind λ p m=>new (.lst p.1) m) λ w m=>truthy m w
 | .lrng a,ρ,m=>R.bind ((evE C a ρ m).bind λ x m=>match x with
   | .int j=>if 0<=j/\j<=1000000 then new (.lst ((List.range j.toNat).map λ i=>W.int (i:Nat))) m else .no
   | _=>.no) λ w m=>truthy m w
 | .frz a,ρ,m=>R.bind (qp m (evE C a ρ m)) λ w m=>truthy m w
 | .fld a f,ρ,m=>R.bind ((evE C a ρ m).bind λ x m=>jn C.cs x f m) λ w m=>truthy m w
 | .make c es,ρ,m=>R.bind ((aH C es ρ m).bind λ ws m=>fQ C c ws m) λ w m=>truthy m w
 | .mth o f es,ρ,m=>R.bind ((evE C o ρ m).bind λ x m=>match g9 C.cs x f m with
   | some i=>(aH C es ρ m).bind λ ws m=>C.call i (x::ws) m
   | none=>.no) λ w m=>truthy m w
 | .set0,_,m=>R.bind (new (.set []) m) λ w m=>truthy m w
 | .fus u a,ρ,m=>R.bind ((evE C a ρ m).bind λ x m=>bX u x m) λ w m=>truthy m w
 | .rng _,_,_=>R.bind (.no) λ w m=>truthy m w
 | .rng2 _ _,_,_=>R.bind (.no) λ w m=>truthy m w
 | .enm _,_,_=>R.bind (.no) λ w m=>truthy m w
 | .zip _,_,_=>R.bind (.no) λ w m=>truthy m w
noncomputable def evI (C:Cx):E->Loc->Mem->R Src
 | .rng a,ρ,m=>(evE C a ρ m).bind λ x m=>match x with
  | .int j=>if -(2^62)<=j/\j < 2^62 then .ok (.rng 0 j.toNat) m else .no
  | _=>.no
 | .rng2 a b,ρ,m=>(evE C a ρ m).bind λ x m=>(evE C b ρ m).bind λ y m=>match x,y with
  | .int i,.int j=>if -(2^62)<=i/\i < 2^62/\-(2^62)<=j/\j < 2^62 then .ok (.rng i (j - i).toNat) m else .no
  | _,_=>.no
 | .enm a,ρ,m=>(evE C a ρ m).bind λ x m=>match srcOf m x with
  | some s=>.ok (.enm s) m
  | none=>.no
 | .zip es,ρ,m=>(aH C es ρ m).bind λ xs m=>match sV m xs with
  | some ss=>.ok (.zip ss) m
  | none=>.no
 | .var i,ρ,m=>R.bind (match ρ[i]? with
   | some (some w)=>.ok w m
   | _=>.no) toI
 | .cst w,_,m=>R.bind (.ok w m) toI
 | .bin op a b,ρ,m=>R.bind ((evE C a ρ m).bind λ x m=>(evE C b ρ m).bind λ y m=>binop op x y m) toI
 | .neg a,ρ,m=>R.bind ((evE C a ρ m).bind λ x m=>match x with
   | .int i=>.ok (.int (-i)) m
   | _=>.no) toI
 | .not a,ρ,m=>R.bind ((evE C a ρ m).bind λ x m=>match x with
   | .bl b=>.ok (.bl (!b)) m
   | _=>.no) toI
 | .and a b,ρ,m=>R.bind ((evE C a ρ m).bind λ x m=>match x with
   | .bl c=>if c then evE C b ρ m else .ok (.bl false) m
   | _=>.no) toI
 | .or a b,ρ,m=>R.bind ((evE C a ρ m).bind λ x m=>match x with
   | .bl c=>if c then .ok (.bl true) m else evE C b ρ m
   | _=>.no) toI
 | .cmp op a b,ρ,m=>R.bind ((evE C a ρ m).bind λ x m=>(evE C b ρ m).bind λ y m=>(ak op x y m).bind λ c m=>.ok (.bl c) m) toI
 | .chain o1 o2 a b c,ρ,m=>R.bind ((evE C a ρ m).bind λ x m=>(evE C b ρ m).bind λ y m=>(ak o1 x y m).bind λ k m=>
    if k then (evE C c ρ m).bind λ z m=>(ak o2 y z m).bind λ k m=>.ok (.bl k) m else .ok (.bl false) m) toI
 | .ife t a b,ρ,m=>R.bind ((evT C t ρ m).bind λ c m=>if c then evE C a ρ m else evE C b ρ m) toI
 | .tup es,ρ,m=>R.bind ((aH C es ρ m).bind λ ws m=>if ws.length<=lim then .ok (.tup ws) m else .no) toI
 | .lst es,ρ,m=>R.bind ((aH C es ρ m).bind λ ws m=>if ws.length<=lim then new (.lst ws) m else .no) toI
 | .idx a b,ρ,m=>R.bind ((evE C a ρ m).bind λ x m=>(evE C b ρ m).bind λ y m=>aQ x y m) toI
 | .slc a lo hi,ρ,m=>R.bind ((evE C a ρ m).bind λ x m=>(evO C lo ρ m).bind λ l m=>(evO C hi ρ m).bind λ u m=>cG x l u m) toI
 | .call f es,ρ,m=>R.bind ((aH C es ρ m).bind λ ws m=>C.call f ws m) toI
 | .blt b es,ρ,m=>R.bind ((aH C es ρ m).bind λ ws m=>bf b ws m) toI
 | .isI a t,ρ,m=>R.bind ((evE C a ρ m).bind λ x m=>match gu m t x with
   | some b=>.ok (.bl b) m
   | none=>.no) toI
 | .meth o name es,ρ,m=>R.bind ((evE C o ρ m).bind λ x m=>if kdOf m x=kdM name then (aH C es ρ m).bind λ ws m=>aM x name ws m else .no) toI
 | .comp g,ρ,m=>R.bind ((evG C g ρ m []).bind λ p m=>new (.lst p.1) m) toI
 | .lrng a,ρ,m=>R.bind ((evE C a ρ m).bind λ x m=>match x with
   | .int j=>if 0<=j/\j<=1000000 then new (.lst ((List.range j.toNat).map λ i=>W.int (i:Nat))) m else .no
   | _=>.no) toI
 | .frz a,ρ,m=>R.bind (qp m (evE C a ρ m)) toI
 | .fld a f,ρ,m=>R.bind ((evE C a ρ m).bind λ x m=>jn C.cs x f m) toI
 | .make c es,ρ,m=>R.bind ((aH C es ρ m).bind λ ws m=>fQ C c ws m) toI
 | .mth o f es,ρ,m=>R.bind ((evE C o ρ m).bind λ x m=>match g9 C.cs x f m with
   | some i=>(aH C es ρ m).bind λ ws m=>C.call i (x::ws) m
   | none=>.no) toI
 | .set0,_,m=>R.bind (new (.set []) m) toI
 | .fus u a,ρ,m=>R.bind ((evE C a ρ m).bind λ x m=>bX u x m) toI
noncomputable def evG (C:Cx):G->Loc->Mem->List W->R (List W×Loc)
 | .elt e,ρ,m,acc=>(evE C e ρ m).bind λ w m=>if acc.length < lim then .ok (acc++[w],ρ) m else .no
 | .gen t js it ifs rest,ρ,m,acc=>(evI C it ρ m).bind λ s m=>bH s.get t (fun ρ m=>aN C ifs ρ m) (fun ρ m acc=>evG C rest ρ m acc) (s.len m) 0 (clr js ρ) m acc
noncomputable def aN (C:Cx):Es->Loc->Mem->R Bool
 | .nil,_,m=>.ok true m
 | .cons e es,ρ,m=>(evT C e ρ m).bind λ b m=>if b then aN C es ρ m else .ok false m
end
mutual
noncomputable def evA (C:Cx):A->W->Loc->Mem->R Loc
 | .pt t,w,ρ,m=>match aD t w ρ with
  | some ρ=>.ok ρ m
  | none=>.no
 | .sub o i,w,ρ,m=>(evE C o ρ m).bind λ x m=>(evE C i ρ m).bind λ y m=>(kX x y w m).bind λ _ m=>.ok ρ m
 | .tup l,w,ρ,m=>match bG m w with
  | some xs=>cP C l xs ρ m
  | none=>.no
noncomputable def cP (C:Cx):As->List W->Loc->Mem->R Loc
 | .nil,xs,ρ,m=>match xs with
  | []=>.ok ρ m
  | _::_=>.no
 | .cons a l,xs,ρ,m=>match xs with
  | []=>.no
  | x::xs=>(evA C a x ρ m).bind fun ρ m=>cP C l xs ρ m
end
noncomputable def BO (op:Operator) (x y:W) (m:Mem):R W:=match op with
 | .Add=>match x,y with
  | .int a,.int b=>.ok (.int (a+b)) m
  | _,_=>.no
 | .Sub=>match x,y with
  | .int a,.int b=>.ok (.int (a - b)) m
  | _,_=>.no
 | _=>.no
mutual
noncomputable def evS (C:Cx):S->Loc->Mem->R F
 | .asg t e,ρ,m=>(evE C e ρ m).bind λ w m=>(evA C t w ρ m).bind fun ρ m=>.ok (.nx ρ) m
 | .aug i op e,ρ,m=>match ρ[i]? with
  | some (some x)=>(evE C e ρ m).bind λ y m=>(BO op x y m).bind λ z m=>.ok (.nx (ρ.set i (some z))) m
  | _=>.no
 | .expr e,ρ,m=>(evE C e ρ m).bind λ _ m=>.ok (.nx ρ) m
 | .ret e,ρ,m=>(evE C e ρ m).bind λ w m=>.ok (.rt w) m
 | .retN,_,m=>.ok (.rt .non) m
 | .ife t a b,ρ,m=>(evT C t ρ m).bind λ c m=>if c then aF C a ρ m else aF C b ρ m
 | .for_ t it b,ρ,m=>(evI C it ρ m).bind λ s m=>eH s.get t (fun ρ m=>aF C b ρ m) (s.len m) 0 ρ m
 | .while_ t b,ρ,m=>nk (fun ρ m=>evT C t ρ m) (fun ρ m=>aF C b ρ m) C.fuel ρ m
 | .pass,ρ,m=>.ok (.nx ρ) m
 | .brk,ρ,m=>.ok (.bk ρ) m
 | .cont,ρ,m=>.ok (.ct ρ) m
 | .never,_,_=>.no
 | .fas o f e,ρ,m=>(evE C e ρ m).bind λ w m=>(evE C o ρ m).bind λ x m=>(kZ C.cs x f w m).bind λ _ m=>.ok (.nx ρ) m
noncomputable def aF (C:Cx):Ss->Loc->Mem->R F
 | .nil,ρ,m=>.ok (.nx ρ) m
 | .cons s r,ρ,m=>(evS C s ρ m).bind λ f m=>match f with
  | .nx ρ=>aF C r ρ m
  | f=>.ok f m
end
set_option genInjectivity false in
structure Fn where
 np:Nat
 nl:Nat
 body:Ss
noncomputable def cH (n:Nat) (ws:List W):Loc:=ws.map some++List.replicate (n - ws.length) none
noncomputable def outF:F->Mem->R W
 | .nx _,m=>.ok .non m
 | .rt w,m=>.ok w m
 | _,_=>.no
end D
end
section
namespace D
open PySem PySem.Spec PyProof.Rows L2
noncomputable def SqF (K:PySem.W.Frag) (H:Hp) (a:Addr) (xs:List V):Prop:=(∃o,H a=some (.frz o (.lst xs)))\/
 ∃(o:Obj) (its:Array Value) (n:Nat),K.lookup a=some o/\o.cls=.type "list"/\o.dict=none/\o.data=.seq its n/\its.size<=sizeLine/\Vals xs its.toList
theorem SqF.l {K:PySem.W.Frag} {H:Hp} {a:Addr} {xs:List V} (h:SqF K H a xs):SqL K H a xs:=h.elim (λ ⟨o,e⟩=>.inl (.inr ⟨o,e⟩)) .inr
noncomputable def aL (K:PySem.W.Frag) (c:Str):Addr:=match PySem.W.nsIn K mainGlobals c with
 | some (some (.ref C))=>C
 | _=>0
set_option genInjectivity false in
structure Cl where
 P:Program
 w:World
section
variable (K:PySem.W.Frag) (cl:Cl)
mutual
inductive RW (β:List Addr) (H:Hp):W->V->Prop
 | non:RW β H .non .non
 | bl (b):RW β H (.bl b) (.bl b)
 | int (i):RW β H (.int i) (.int i)
 | str (x):RW β H (.str x) (.str x)
 | tup {a vs xs}:SqT K H a vs->RWs β H xs vs->RW β H (.tup xs) (.ref a)
 | fz {a vs xs}:SqF K H a vs->RWs β H xs vs->RW β H (.fz xs) (.ref a)
 | obj {a c ks xs dx o fs}:H a=some (.frz o (.ins (aL K c) dx fs))->ks=fs.map (·.1)->RWs β H xs (fs.map (·.2))->RW β H (.obj c ks xs) (.ref a)
 | ref {n a}:β[n]?=some a->RW β H (.ref n) (.ref a)
inductive RWs (β:List Addr) (H:Hp):List W->List V->Prop
 | nil:RWs β H [] []
 | cons {w v ws vs}:RW β H w v->RWs β H ws vs->RWs β H (w::ws) (v::vs)
end
inductive RFs (β:List Addr) (H:Hp):List (Str×W)->List (Str×V)->Prop
 | nil:RFs β H [] []
 | cons {f w v ws vs}:RW K β H w v->RFs β H ws vs->RFs β H ((f,w)::ws) ((f,v)::vs)
noncomputable def keyed (fs:List (Str×V)):List (Key×V):=fs.map λ p=>(.inr p.1,p.2)
noncomputable def RO (β:List Addr) (H:Hp) (a:Addr):O->Prop
 | .lst ws=>∃vs,H a=some (.lst vs)/\RWs K β H ws vs
 | .ins c fs=>∃dx fs',H a=some (.ins (aL K c) dx fs')/\RFs K β H fs fs'
 | .set ks=>∃S,H a=some (gW cl.P cl.w a S ks.length)/\∀k,S k=gZ k ks
 | .dic fs=>∃fs',H a=some (.dK (keyed fs'))/\RFs K β H fs fs'
structure Rel (β:List Addr) (m:Mem) (H:Hp):Prop where
 len:β.length=m.length
 nd:β.Nodup
 obj:∀{n:Nat} {o:O} {a:Addr},m[n]?=some o->β[n]?=some a->RO K cl β H a o
structure bK (Δ:Option Addr) (β:List Addr) (H:Hp) (β':List Addr) (H':Hp):Prop where
 pre:∃γ,β'=β++γ/\∀a∈γ,H a=none
 keep:∀{a:Addr} {o:HO},H a=some o->a∉β->some a≠Δ->H' a=some o
abbrev Ext:=bK none
structure RL (β:List Addr) (H:Hp) (ρ:Loc) (σ:L2.St):Prop where
 len:ρ.length=σ.length
 at_:∀{i:Nat} {w:W},ρ[i]?=some (some w)->∃v,σ[i]?=some (some v)/\RW K β H w v
end
section
variable {K:PySem.W.Frag} {cl:Cl} {β β' β'':List Addr} {H H' H'':Hp} {m m':Mem} {a:Addr}
theorem Rel.mem (r:Rel K cl β m H) (h:a∈β):∃(n:Nat) (o:O),β[n]?=some a/\m[n]?=some o/\RO K cl β H a o:=by
 obtain ⟨n,hn⟩:=List.getElem?_of_mem h
 have hl:n < m.length:=by
  have:=(List.getElem?_eq_some_iff.mp hn).1
  rw [r.len] at this
  exact this
 exact ⟨n,m[n],hn,by simp [hl],r.obj (by simp [hl]) hn⟩
theorem RO.ex {o:O} (h:RO K cl β H a o):∃u,H a=some u/\(∀xs,u≠.tup xs)/\∀ob x,u≠.frz ob x:=by
 cases o with
 | lst ws=>obtain ⟨vs,e,_⟩:=h; exact ⟨_,e,(by intro _ z; cases z),(by intro _ _ z; cases z)⟩
 | ins c fs=>obtain ⟨dx,fs',e,_⟩:=h; exact ⟨_,e,(by intro _ z; cases z),(by intro _ _ z; cases z)⟩
 | set ks=>obtain ⟨S,e,_⟩:=h; exact ⟨_,e,(by intro _ z; cases z),(by intro _ _ z; cases z)⟩
 | dic fs=>obtain ⟨fs',e,_⟩:=h; exact ⟨_,e,(by intro _ z; cases z),(by intro _ _ z; cases z)⟩
theorem Rel.ex (r:Rel K cl β m H) (h:a∈β):∃u,H a=some u/\(∀xs,u≠.tup xs)/\∀ob x,u≠.frz ob x:=by
 obtain ⟨n,o,_,_,x⟩:=r.mem h
 exact x.ex
theorem Ext.refl {Δ:Option Addr}:bK Δ β H β H:=⟨⟨[],by simp,by simp⟩,λ h _ _=>h⟩
theorem bK.trans {Δ:Option Addr} (x:bK Δ β H β' H') (r':Rel K cl β' m' H') (y:bK Δ β' H' β'' H'') (hD:∀d,Δ=some d->H' d≠none:=by intro d z; cases z):bK Δ β H β'' H'':=by
 obtain ⟨γ,rfl,hγ⟩:=x.pre
 obtain ⟨δ,rfl,hδ⟩:=y.pre
 refine ⟨⟨γ++δ,by simp,λ a ha=>?_⟩,λ {a o} h hn hd=>?_⟩
 ·rcases List.mem_append.mp ha with z | z
  ·exact hγ a z
  ·by_cases hb:a∈β
   ·obtain ⟨u,e,_⟩:=r'.ex (List.mem_append_left _ hb)
    rw [hδ a z] at e; cases e
   ·cases e:H a with
    | none=>rfl
    | some o=>
     by_cases hd:some a=Δ
     ·exact absurd (hδ a z) (hD a hd.symm)
     ·have:=x.keep e hb hd
      rw [hδ a z] at this; cases this
 ·refine y.keep (x.keep h hn hd) (λ z=>?_) hd
  rcases List.mem_append.mp z with z | z
  ·exact hn z
  ·rw [hγ a z] at h; cases h
theorem bK.toD {d:Addr} (x:Ext β H β' H'):bK (some d) β H β' H':=⟨x.pre,λ h hn _=>x.keep h hn (by simp)⟩
theorem bK.sqT {Δ:Option Addr} (x:bK Δ β H β' H') (r:Rel K cl β m H) (hD:∀d,Δ=some d->∃vs,H d=some (.lst vs)) {vs:List V} (h:SqT K H a vs):SqT K H' a vs:=by
 rcases h with h | h
 ·refine .inl ?_
  have na:a∉β:=λ z=>by
   obtain ⟨u,e,n1,n2⟩:=r.ex z
   rcases h with h | ⟨o,h⟩
   ·rw [h] at e; cases e; exact n1 _ rfl
   ·rw [h] at e; cases e; exact n2 _ _ rfl
  have nd:some a≠Δ:=λ z=>by
   obtain ⟨vs,e⟩:=hD a z.symm
   rcases h with h | ⟨o,h⟩
   ·rw [h] at e; cases e
   ·rw [h] at e; cases e
  rcases h with h | ⟨o,h⟩
  ·exact .inl (x.keep h na nd)
  ·exact .inr ⟨o,x.keep h na nd⟩
 ·exact .inr h
theorem bK.sqF {Δ:Option Addr} (x:bK Δ β H β' H') (r:Rel K cl β m H) (hD:∀d,Δ=some d->∃vs,H d=some (.lst vs)) {vs:List V} (h:SqF K H a vs):SqF K H' a vs:=by
 rcases h with ⟨o,h⟩ | h
 ·refine .inl ⟨o,x.keep h (λ z=>?_) λ z=>?_⟩
  ·obtain ⟨u,e,n1,n2⟩:=r.ex z
   rw [h] at e; cases e; exact n2 _ _ rfl
  ·obtain ⟨vs,e⟩:=hD a z.symm
   rw [h] at e; cases e
 ·exact .inr h
theorem bK.fz {Δ:Option Addr} (x:bK Δ β H β' H') (r:Rel K cl β m H) (hD:∀d,Δ=some d->∃vs,H d=some (.lst vs)) {o:Obj} {u:HO} (h:H a=some (.frz o u)):H' a=some (.frz o u):=by
 refine x.keep h (λ z=>?_) λ z=>?_
 ·obtain ⟨u,e,n1,n2⟩:=r.ex z
  rw [h] at e; cases e; exact n2 _ _ rfl
 ·obtain ⟨vs,e⟩:=hD a z.symm
  rw [h] at e; cases e
theorem bK.get {Δ:Option Addr} {n:Nat} (x:bK Δ β H β' H') (h:β[n]?=some a):β'[n]?=some a:=by
 obtain ⟨γ,rfl,_⟩:=x.pre
 rw [List.getElem?_append_left (List.getElem?_eq_some_iff.mp h).1]
 exact h
theorem RW.gen {H2:Hp} {β2:List Addr} (hT:∀{a:Addr} {vs:List V},SqT K H a vs->SqT K H2 a vs) (hF:∀{a:Addr} {vs:List V},SqF K H a vs->SqF K H2 a vs) (hO:∀{a:Addr} {o:Obj} {u:HO},H a=some (.frz o u)->H2 a=some (.frz o u)) (hR:∀{n:Nat} {a:Addr},β[n]?=some a->β2[n]?=some a) {w:W} {v:V} (q:RW K β H w v):RW K β2 H2 w v:=
 RW.rec (motive_1:=λ w v _=>RW K β2 H2 w v) (motive_2:=λ w v _=>RWs K β2 H2 w v) .non .bl .int .str (λ h _ i=>.tup (hT h) i) (λ h _ i=>.fz (hF h) i) (λ h e _ i=>.obj (hO h) e i) (λ h=>.ref (hR h)) .nil (λ _ _ a b=>.cons a b) q
theorem RWs.qq {H2:Hp} {β2:List Addr} (f:∀{w:W} {v:V},RW K β H w v->RW K β2 H2 w v) {w:List W} {v:List V} (q:RWs K β H w v):RWs K β2 H2 w v:=by
 induction w generalizing v with
 | nil=>cases q; exact .nil
 | cons x w ih=>cases q with | cons a b=>exact .cons (f a) (ih b)
theorem RFs.qq {H2:Hp} {β2:List Addr} (f:∀{w:W} {v:V},RW K β H w v->RW K β2 H2 w v) {w:List (Str×W)} {v:List (Str×V)} (q:RFs K β H w v):RFs K β2 H2 w v:=by
 induction q with
 | nil=>exact .nil
 | cons a b ih=>exact .cons (f a) ih
theorem RW.bM {Δ:Option Addr} (r:Rel K cl β m H) (hD:∀d,Δ=some d->∃vs,H d=some (.lst vs)) (x:bK Δ β H β' H') {w:W} {v:V} (q:RW K β H w v):RW K β' H' w v:=
 q.gen (x.sqT r hD) (x.sqF r hD) (x.fz r hD) x.get
theorem RWs.bM {Δ:Option Addr} (r:Rel K cl β m H) (hD:∀d,Δ=some d->∃vs,H d=some (.lst vs)) (x:bK Δ β H β' H') {w:List W} {v:List V} (q:RWs K β H w v):RWs K β' H' w v:=q.qq (RW.bM r hD x)
theorem noD {P:Addr->Prop}:∀d,(none:Option Addr)=some d->P d:=λ d z=>by cases z
theorem RW.mono (r:Rel K cl β m H) (x:Ext β H β' H') {w:W} {v:V} (h:RW K β H w v):RW K β' H' w v:=h.bM r noD x
theorem RWs.mono (r:Rel K cl β m H) (x:Ext β H β' H') {w:List W} {v:List V} (h:RWs K β H w v):RWs K β' H' w v:=h.bM r noD x
theorem RFs.bM {Δ:Option Addr} (r:Rel K cl β m H) (hD:∀d,Δ=some d->∃vs,H d=some (.lst vs)) (x:bK Δ β H β' H') {w:List (Str×W)} {v:List (Str×V)} (q:RFs K β H w v):RFs K β' H' w v:=q.qq (RW.bM r hD x)
theorem RL.bM {Δ:Option Addr} (r:Rel K cl β m H) (hD:∀d,Δ=some d->∃vs,H d=some (.lst vs)) (x:bK Δ β H β' H') {ρ:Loc} {σ:L2.St} (l:RL K β H ρ σ):RL K β' H' ρ σ:=
 ⟨l.len,λ h=>let ⟨v,e,q⟩:=l.at_ h; ⟨v,e,q.bM r hD x⟩⟩
theorem RL.mono (r:Rel K cl β m H) (x:Ext β H β' H') {ρ:Loc} {σ:L2.St} (l:RL K β H ρ σ):RL K β' H' ρ σ:=l.bM r noD x
theorem RO.bM {Δ:Option Addr} (r:Rel K cl β m H) (hD:∀d,Δ=some d->∃vs,H d=some (.lst vs)) (x:bK Δ β H β' H') (hk:H' a=H a) {o:O} (h:RO K cl β H a o):RO K cl β' H' a o:=by
 cases o with
 | lst ws=>obtain ⟨vs,e,t⟩:=h; exact ⟨vs,hk.trans e,t.bM r hD x⟩
 | ins c fs=>obtain ⟨dx,fs',e,t⟩:=h; exact ⟨dx,fs',hk.trans e,t.bM r hD x⟩
 | set ks=>obtain ⟨S,e,t⟩:=h; exact ⟨S,hk.trans e,t⟩
 | dic fs=>obtain ⟨fs',e,t⟩:=h; exact ⟨fs',hk.trans e,t.bM r hD x⟩
theorem RO.mono (r:Rel K cl β m H) (x:Ext β H β' H') (hk:H' a=H a) {o:O} (h:RO K cl β H a o):RO K cl β' H' a o:=h.bM r noD x hk
theorem RWs.length:∀{ws:List W} {vs:List V},RWs K β H ws vs->ws.length=vs.length
 | _,_,.nil=>rfl
 | _,_,.cons _ t=>by rw [List.length_cons,List.length_cons,RWs.length t]
theorem RWs.get:∀{ws:List W} {vs:List V} {i:Nat} {w:W},RWs K β H ws vs->ws[i]?=some w->∃v,vs[i]?=some v/\RW K β H w v
 | _,_,_,_,.nil,e=>by simp at e
 | _,_,0,_,.cons h t,e=>by simp at e; subst e; exact ⟨_,rfl,h⟩
 | _,_,i+1,_,.cons h t,e=>by simpa using RWs.get (i:=i) t (by simpa using e)
theorem RWs.append:∀{v w:List W} {d e:List V},RWs K β H v d->RWs K β H w e->RWs K β H (v++w) (d++e):=by
 intro v
 induction v with
 | nil=>intro w d e h s; cases h; exact s
 | cons x v ih=>intro w d e h s; cases h with | cons q t=>exact .cons q (ih t s)
theorem RWs.take:∀{ws:List W} {vs:List V} (n:Nat),RWs K β H ws vs->RWs K β H (ws.take n) (vs.take n)
 | _,_,0,_=>.nil
 | _,_,_+1,.nil=>.nil
 | _,_,n+1,.cons h t=>.cons h (RWs.take n t)
theorem RWs.drop:∀{ws:List W} {vs:List V} (n:Nat),RWs K β H ws vs->RWs K β H (ws.drop n) (vs.drop n)
 | _,_,0,r=>r
 | _,_,_+1,.nil=>.nil
 | _,_,n+1,.cons h t=>RWs.drop n t
theorem RWs.set {w:W} {v:V} (r:RW K β H w v):∀{ws:List W} {vs:List V} (i:Nat),RWs K β H ws vs->RWs K β H (ws.set i w) (vs.set i v)
 | _,_,_,.nil=>.nil
 | _,_,0,.cons _ t=>.cons r t
 | _,_,i+1,.cons q t=>.cons q (RWs.set r i t)
theorem RWs.eraseIdx:∀{ws:List W} {vs:List V} (i:Nat),RWs K β H ws vs->RWs K β H (ws.eraseIdx i) (vs.eraseIdx i)
 | _,_,_,.nil=>.nil
 | _,_,0,.cons _ t=>t
 | _,_,i+1,.cons q t=>.cons q (RWs.eraseIdx i t)
theorem RWs.reverse:∀{ws:List W} {vs:List V},RWs K β H ws vs->RWs K β H ws.reverse vs.reverse
 | _,_,.nil=>.nil
 | _,_,.cons q t=>by rw [List.reverse_cons,List.reverse_cons]; exact (RWs.reverse t).append (.cons q .nil)
theorem RWs.dropLast {ws:List W} {vs:List V} (h:RWs K β H ws vs):RWs K β H ws.dropLast vs.dropLast:=by
 rw [List.dropLast_eq_take,List.dropLast_eq_take,h.length]; exact h.take _
theorem RWs.bools {bs:List Bool}:∀{ws:List W} {vs:List V},RWs K β H ws vs->D.bools ws=Option.some bs->vs=bs.map V.bl:=by
 induction bs with
 | nil=>
  intro ws vs h e
  cases h with
  | nil=>rfl
  | cons q t=>cases q<;>simp [D.bools] at e
 | cons b bs ih=>
  intro ws vs h e
  cases h with
  | nil=>simp [D.bools] at e
  | cons q t=>
   cases q with
   | bl c=>
    simp only [D.bools,Option.map_eq_some_iff] at e
    obtain ⟨r,e1,e2⟩:=e
    cases e2
    rw [ih t e1]; rfl
   | _=>simp [D.bools] at e
theorem RW.sub (h:∀{n:Nat} {a:Addr},β[n]?=Option.some a->β'[n]?=Option.some a) {w:W} {v:V} (q:RW K β H w v):RW K β' H w v:=q.gen id id id h
theorem RWs.sub (h:∀{n:Nat} {a:Addr},β[n]?=Option.some a->β'[n]?=Option.some a) {w:List W} {v:List V} (q:RWs K β H w v):RWs K β' H w v:=q.qq (RW.sub h)
theorem RFs.sub (h:∀{n:Nat} {a:Addr},β[n]?=Option.some a->β'[n]?=Option.some a) {w:List (Str×W)} {v:List (Str×V)} (q:RFs K β H w v):RFs K β' H w v:=q.qq (RW.sub h)
theorem RO.sub (h:∀{n:Nat} {a:Addr},β[n]?=Option.some a->β'[n]?=Option.some a) {o:O} (q:RO K cl β H a o):RO K cl β' H a o:=by
 cases o with
 | lst ws=>obtain ⟨vs,e,t⟩:=q; exact ⟨vs,e,t.sub h⟩
 | ins c fs=>obtain ⟨dx,fs',e,t⟩:=q; exact ⟨dx,fs',e,t.sub h⟩
 | set ks=>exact q
 | dic fs=>obtain ⟨fs',e,t⟩:=q; exact ⟨fs',e,t.sub h⟩
theorem Rel.k9 (r:Rel K cl β m H) {p:Addr} (hp:H p=none) (vs:List V):Ext β H β (upd H p (.tup vs))/\Rel K cl β m (upd H p (.tup vs)):=by
 have x:Ext β H β (upd H p (.tup vs)):=⟨⟨[],by simp,by simp⟩,λ h _ _=>by rw [ai (aq h hp)]; exact h⟩
 refine ⟨x,r.len,r.nd,λ h1 h2=>?_⟩
 have q:=r.obj h1 h2
 obtain ⟨u,e,_⟩:=q.ex
 exact q.mono r x (ai (aq e hp))
theorem Rel.nin (r:Rel K cl β m H) {p:Addr} (hp:H p=none):p∉β:=λ z=>by
 obtain ⟨u,e,_⟩:=r.ex z
 rw [hp] at e; cases e
theorem Rel.zS (r:Rel K cl β m H) {p:Addr} {ho:HO} {o:O} (hp:H p=none) (q:∀x:Ext β H (β++[p]) (upd H p ho),RO K cl (β++[p]) (upd H p ho) p o):Ext β H (β++[p]) (upd H p ho)/\Rel K cl (β++[p]) (m++[o]) (upd H p ho):=by
 have x:Ext β H (β++[p]) (upd H p ho):=⟨⟨[p],rfl,λ a ha=>by simp at ha; rw [ha]; exact hp⟩,λ h _ _=>by rw [ai (aq h hp)]; exact h⟩
 refine ⟨x,by simp [r.len],?_,λ {n o' a} h1 h2=>?_⟩
 ·rw [List.nodup_append]
  refine ⟨r.nd,by simp,λ a ha b hb=>?_⟩
  simp at hb
  subst hb
  rintro rfl
  exact r.nin hp ha
 ·by_cases hn:n < m.length
  ·rw [List.getElem?_append_left hn] at h1
   rw [List.getElem?_append_left (by rw [r.len]; exact hn)] at h2
   have q:=r.obj h1 h2
   obtain ⟨u,e,_⟩:=q.ex
   exact q.mono r x (ai (aq e hp))
  ·have e1:=(List.getElem?_eq_some_iff.mp h1).1
   simp at e1
   have e:n=m.length:=by omega
   subst e
   rw [List.getElem?_append_right (Nat.le_refl _)] at h1
   rw [<-r.len,List.getElem?_append_right (Nat.le_refl _)] at h2
   simp at h1 h2
   subst h1 h2
   exact q x
theorem Rel.newL (r:Rel K cl β m H) {p:Addr} (hp:H p=none) {ws:List W} {vs:List V} (q:RWs K β H ws vs):Ext β H (β++[p]) (upd H p (.lst vs))/\Rel K cl (β++[p]) (m++[.lst ws]) (upd H p (.lst vs)):=
 r.zS hp λ x=>⟨vs,aA,q.mono r x⟩
theorem Rel.nq (r:Rel K cl β m H) {d:Addr} {vs vs':List V} (hd:H d=Option.some (.lst vs)) (hn:d∉β):bK (Option.some d) β H β (upd H d (.lst vs'))/\Rel K cl β m (upd H d (.lst vs')):=by
 have x:bK (Option.some d) β H β (upd H d (.lst vs')):=⟨⟨[],by simp,by simp⟩,λ {a o} h _ na=>by rw [ai (λ z=>na (by rw [z]))]; exact h⟩
 refine ⟨x,r.len,r.nd,λ h1 h2=>?_⟩
 have q:=r.obj h1 h2
 refine q.bM r (λ d' z=>?_) x (ai λ z=>?_)
 ·cases z; exact ⟨_,hd⟩
 ·exact hn (by rw [<-z]; exact List.mem_of_getElem? h2)
theorem Rel.out (r:Rel K cl β m H) {d:Addr} {vs:List V} {ws:List W} (hd:H d=Option.some (.lst vs)) (hn:d∉β) (t:RWs K β H ws vs):Rel K cl (β++[d]) (m++[.lst ws]) H:=by
 have x:∀{w:List W} {v:List V},RWs K β H w v->RWs K (β++[d]) H w v:=by
  have xx:∀{n:Nat} {a:Addr},β[n]?=Option.some a->(β++[d])[n]?=Option.some a:=λ {n a} h=>by
   rw [List.getElem?_append_left (List.getElem?_eq_some_iff.mp h).1]; exact h
  intro w v h
  exact RWs.sub xx h
 refine ⟨by simp [r.len],?_,λ {n o a} h1 h2=>?_⟩
 ·rw [List.nodup_append]
  refine ⟨r.nd,by simp,λ a ha b hb=>?_⟩
  simp at hb
  subst hb
  rintro rfl
  exact hn ha
 ·by_cases hl:n < m.length
  ·rw [List.getElem?_append_left hl] at h1
   rw [List.getElem?_append_left (by rw [r.len]; exact hl)] at h2
   exact (r.obj h1 h2).sub λ {n a} h=>by rw [List.getElem?_append_left (List.getElem?_eq_some_iff.mp h).1]; exact h
  ·have e1:=(List.getElem?_eq_some_iff.mp h1).1
   simp at e1
   have e:n=m.length:=by omega
   subst e
   rw [List.getElem?_append_right (Nat.le_refl _)] at h1
   rw [<-r.len,List.getElem?_append_right (Nat.le_refl _)] at h2
   simp at h1 h2
   subst h1 h2
   exact ⟨vs,hd,x t⟩
theorem Rel.last (r:Rel K cl β m H) (p:Addr):(β++[p])[m.length]?=Option.some p:=by
 rw [<-r.len,List.getElem?_append_right (Nat.le_refl _)]; simp
theorem Rel.nu (r:Rel K cl β m H) {n:Nat} {o:O} {ws':List W} {vs':List V} (hm:m[n]?=Option.some o) (hb:β[n]?=Option.some a) (q:RWs K β H ws' vs'):Ext β H β (upd H a (.lst vs'))/\Rel K cl β (m.set n (.lst ws')) (upd H a (.lst vs')):=by
 have ha:a∈β:=List.mem_of_getElem? hb
 have x:Ext β H β (upd H a (.lst vs')):=⟨⟨[],by simp,by simp⟩,λ {b u} h hn _=>by rw [ai (show b≠a from λ z=>hn (by rw [z]; exact ha))]; exact h⟩
 refine ⟨x,by simp [r.len],r.nd,λ {k o' b} h1 h2=>?_⟩
 by_cases hk:n=k
 ·subst hk
  rw [hb] at h2; cases h2
  rw [List.getElem?_set_self (List.getElem?_eq_some_iff.mp hm).1] at h1
  cases h1
  exact ⟨vs',aA,q.mono r x⟩
 ·rw [List.getElem?_set_ne hk] at h1
  have q':=r.obj h1 h2
  refine q'.mono r x (ai ?_)
  rintro rfl
  obtain ⟨h3,e3⟩:=List.getElem?_eq_some_iff.mp h2
  obtain ⟨h4,e4⟩:=List.getElem?_eq_some_iff.mp hb
  exact hk ((List.getElem_inj r.nd).mp (e4.trans e3.symm))
theorem Rel.getL (r:Rel K cl β m H) {w:W} {v:V} {ws:List W} (q:RW K β H w v) (e:D.getL m w=Option.some ws):∃a vs,v=.ref a/\SqL K H a vs/\RWs K β H ws vs:=by
 cases q with
 | ref h=>
  unfold D.getL at e
  dsimp only at e
  split at e
  ·rename_i xs e1
   cases e
   obtain ⟨vs,z,t⟩:=r.obj e1 h
   exact ⟨_,vs,rfl,.inl (.inl z),t⟩
  ·cases e
 | fz h t=>cases e; exact ⟨_,_,rfl,h.l,t⟩
 | _=>simp [D.getL] at e
theorem Rel.bG (r:Rel K cl β m H) {w:W} {v:V} {ws:List W} (q:RW K β H w v) (e:D.bG m w=Option.some ws):∃a vs,v=.ref a/\(SqL K H a vs\/SqT K H a vs)/\RWs K β H ws vs:=by
 cases w with
 | tup xs=>
  cases q with
  | tup h t=>
   cases e
   exact ⟨_,_,rfl,.inr h,t⟩
 | _=>
  obtain ⟨a,vs,e1,e2,e3⟩:=r.getL q e
  exact ⟨a,vs,e1,.inl e2,e3⟩
theorem Rel.lst (r:Rel K cl β m H) {n:Nat} {v:V} {ws:List W} (q:RW K β H (.ref n) v) (e:m[n]?=Option.some (.lst ws)):∃a vs,v=.ref a/\β[n]?=Option.some a/\H a=Option.some (.lst vs)/\RWs K β H ws vs:=by
 cases q with
 | ref h=>
  obtain ⟨vs,z,t⟩:=r.obj e h
  exact ⟨_,vs,rfl,h,z,t⟩
theorem dN {f:W->Option PyData}:∀{ws:List W} {vs:List V} {ds:List PyData},(∀w v d,w∈ws->RW K β H w v->f w=Option.some d->Dt K H v d)->RWs K β H ws vs->bT f ws=Option.some ds->Dts K H vs ds
 | [],_,_,_,.nil,e=>by cases e; exact .nil
 | w::ws,_,_,h,.cons q t,e=>by
  unfold bT at e
  split at e
  ·cases e
  ·rename_i d e1
   split at e
   ·cases e
   ·rename_i ds e2
    cases e
    exact .cons (h w _ d List.mem_cons_self q e1) (dN (λ w' v' d' hw=>h w' v' d' (List.mem_cons_of_mem _ hw)) t e2)
theorem cQ (r:Rel K cl β m H):∀(n:Nat) {w:W} {v:V} {d:PyData},RW K β H w v->toD n m w=Option.some d->Dt K H v d
 | 0,_,_,_,_,e=>by cases e
 | n+1,w,v,d,q,e=>by
  unfold toD at e
  cases q with
  | non=>cases e; exact .non
  | bl b=>cases e; exact .bl b
  | int i=>cases e; exact .int i
  | str x=>
   dsimp only at e
   split at e
   ·cases e; exact .str x
   ·cases e
  | tup h t=>
   simp only [Option.map_eq_some_iff] at e
   obtain ⟨ds,e1,e2⟩:=e
   subst e2
   exact .tup h (dN (λ w v d _ q e=>cQ r n q e) t e1)
  | fz h t=>
   simp only [Option.map_eq_some_iff] at e
   obtain ⟨ds,e1,e2⟩:=e
   subst e2
   exact .lst h.l (dN (λ w v d _ q e=>cQ r n q e) t e1)
  | obj h e0 t=>cases e
  | ref h=>
   dsimp only at e
   split at e
   ·rename_i xs e1
    simp only [Option.map_eq_some_iff] at e
    obtain ⟨ds,e2,e3⟩:=e
    subst e3
    obtain ⟨a,vs,z1,z2,z3⟩:=r.getL (.ref h) e1
    cases z1
    exact .lst z2 (dN (λ w v d _ q e=>cQ r n q e) z3 e2)
   ·cases e
theorem dO {f:W->Option PyData} {n:Nat}:∀{ws:List W} {ds:List PyData},(∀w d,f w=Option.some d->d.canLay0=true/\d.depth<=n)->bT f ws=Option.some ds->PyData.canLayAll0 ds=true/\PyData.depthAll ds<=n
 | [],_,_,e=>by cases e; exact ⟨rfl,Nat.zero_le _⟩
 | w::ws,_,h,e=>by
  unfold bT at e
  split at e
  ·cases e
  ·rename_i d e1
   split at e
   ·cases e
   ·rename_i ds e2
    cases e
    obtain ⟨a1,a2⟩:=h w d e1
    obtain ⟨b1,b2⟩:=dO h e2
    refine ⟨by simp [PyData.canLayAll0,a1,b1],?_⟩
    simp only [PyData.depthAll]
    omega
theorem bN:∀(n:Nat) {w:W} {d:PyData},toD n m w=Option.some d->d.canLay0=true/\d.depth<=n
 | 0,_,_,e=>by cases e
 | n+1,w,d,e=>by
  unfold toD at e
  cases w with
  | non=>cases e; exact ⟨rfl,by simp [PyData.depth]⟩
  | bl b=>cases e; exact ⟨rfl,by simp [PyData.depth]⟩
  | int i=>cases e; exact ⟨rfl,by simp [PyData.depth]⟩
  | str x=>
   dsimp only at e
   split at e
   ·rename_i hx
    cases e
    exact ⟨hx,by simp [PyData.depth]⟩
   ·cases e
  | tup xs=>
   simp only [Option.map_eq_some_iff] at e
   obtain ⟨ds,e1,e2⟩:=e
   subst e2
   obtain ⟨a1,a2⟩:=dO (λ w d e=>bN n e) e1
   exact ⟨a1,by simp only [PyData.depth]; omega⟩
  | fz xs=>
   simp only [Option.map_eq_some_iff] at e
   obtain ⟨ds,e1,e2⟩:=e
   subst e2
   obtain ⟨a1,a2⟩:=dO (λ w d e=>bN n e) e1
   exact ⟨a1,by simp only [PyData.depth]; omega⟩
  | obj c ks vs=>cases e
  | ref k=>
   dsimp only at e
   split at e
   ·simp only [Option.map_eq_some_iff] at e
    obtain ⟨ds,e2,e3⟩:=e
    subst e3
    obtain ⟨a1,a2⟩:=dO (λ w d e=>bN n e) e2
    exact ⟨a1,by simp only [PyData.depth]; omega⟩
   ·cases e
theorem R.aa {α γ:Type} {x:R α} {f:α->Mem->R γ} {c:γ} (h:x.bind f=.ok c m'):∃a m,x=.ok a m/\f a m=.ok c m':=by
 cases x with
 | no=>cases h
 | ok a m=>exact ⟨a,m,rfl,h⟩
end
end D
end
section
namespace D
open PySem PySem.Spec PyProof.Rows L2
structure UN (X:L2.Cx) (cl:Cl):Prop where
 un:X.A.units+64 < cLine
 P:cl.P=X.prog
 w:cl.w=X.w
 gd:X.A.guards=some []
theorem br:lim<=sizeLine:=by rw [sizeLine_eq]; decide
section
variable (X:L2.Cx) (cl:Cl)
noncomputable def SE (ev:Loc->Mem->R W):TE:=fun σ H Q=>∃β ρ m w m',Rel X.K cl β m H/\RL X.K β H ρ σ/\ev ρ m=.ok w m'/\∀β' H' v,Ext β H β' H'->Rel X.K cl β' m' H'->RW X.K β' H' w v->Q v H'
noncomputable def ST (ev:Loc->Mem->R Bool):TT:=fun σ H Q=>∃β ρ m b m',Rel X.K cl β m H/\RL X.K β H ρ σ/\ev ρ m=.ok b m'/\∀β' H',Ext β H β' H'->Rel X.K cl β' m' H'->Q b H'
noncomputable def SA (ev:Loc->Mem->R (List W)):TA:=fun σ H Q=>∃β ρ m ws m',Rel X.K cl β m H/\RL X.K β H ρ σ/\ev ρ m=.ok ws m'/\∀β' H' vs,Ext β H β' H'->Rel X.K cl β' m' H'->RWs X.K β' H' ws vs->Q vs H'
noncomputable def SOo (ev:Loc->Mem->R (Option Int)):TO:=fun σ H Q=>∃β ρ m o m',Rel X.K cl β m H/\RL X.K β H ρ σ/\ev ρ m=.ok o m'/\∀β' H',Ext β H β' H'->Rel X.K cl β' m' H'->Q o H'
noncomputable def SO2 (f:W->W->Mem->R W):R2:=λ x y H Q=>∃β m wx wy w m',Rel X.K cl β m H/\RW X.K β H wx x/\RW X.K β H wy y/\f wx wy m=.ok w m'/\∀β' H' v,Ext β H β' H'->Rel X.K cl β' m' H'->RW X.K β' H' w v->Q v H'
noncomputable def SOl (f:List W->Mem->R W):List V->Hp->VK->Prop:=λ xs H Q=>∃β m ws w m',Rel X.K cl β m H/\RWs X.K β H ws xs/\f ws m=.ok w m'/\∀β' H' v,Ext β H β' H'->Rel X.K cl β' m' H'->RW X.K β' H' w v->Q v H'
end
theorem PE.imp {X:L2.Cx} {e:Expr} {t t':TE} (h:PE X e t) (i:∀σ H Q,t' σ H Q->t σ H Q):PE X e t':=λ pins s σ H Q I q=>h pins s σ H Q I (i σ H Q q)
theorem PT.imp {X:L2.Cx} {e:Expr} {t t':TT} (h:PT X e t) (i:∀σ H Q,t' σ H Q->t σ H Q):PT X e t':=λ pins s σ H Q I q=>h pins s σ H Q I (i σ H Q q)
theorem PW.imp {X:L2.Cx} {e:Expr} {t t':TT} (h:PW X e t) (i:∀σ H Q,t' σ H Q->t σ H Q):PW X e t':=λ wh pins s σ H Q I q=>h wh pins s σ H Q I (i σ H Q q)
theorem PA.imp {X:L2.Cx} {e:List Expr} {t t':TA} (h:PA X e t) (i:∀σ H Q,t' σ H Q->t σ H Q):PA X e t':=λ pos pins s σ H Q I q=>h pos pins s σ H Q I (i σ H Q q)
theorem PO.imp {X:L2.Cx} {e:Option Expr} {t t':TO} (h:PO X e t) (i:∀σ H Q,t' σ H Q->t σ H Q):PO X e t':=λ pins s σ H Q I q=>h pins s σ H Q I (i σ H Q q)
theorem fR {z:Str}:∀(fs:List (Str×V)),gn (keyed fs) (.inr z)=fs.lookup z:=by
 intro fs
 induction fs with
 | nil=>rfl
 | cons p r ih=>
  obtain ⟨k,v⟩:=p
  unfold gn keyed at ih ⊢
  rw [List.map_cons,List.find?_cons,List.lookup_cons]
  by_cases h:k=z
  ·subst h; simp
  ·have h1:(z==k)=false:=by simpa using λ e=>h e.symm
   have h2:decide ((Sum.inr k:Key)=.inr z)=false:=decide_eq_false λ e=>h (Sum.inr.inj e)
   rw [h1]
   simp only [h2]
   exact ih
theorem RFs.look {K:PySem.W.Frag} {β:List Addr} {H:Hp} {z:Str} {fs:List (Str×W)} {gs:List (Str×V)} (h:RFs K β H fs gs):(fs.lookup z).isSome=(gs.lookup z).isSome/\∀w,fs.lookup z=some w->∃v,gs.lookup z=some v/\RW K β H w v:=by
 induction h with
 | nil=>exact ⟨rfl,λ w e=>by cases e⟩
 | @cons f w v ws vs q t ih=>
  rw [List.lookup_cons,List.lookup_cons]
  cases h:z==f with
  | true=>exact ⟨rfl,λ w' e=>by cases e; exact ⟨v,rfl,q⟩⟩
  | false=>exact ih
theorem zT {X:L2.Cx}:IxR X (λ x y H Q=>∃z a fs v,y=.str z/\x=.ref a/\H a=some (.dK (keyed fs))/\fs.lookup z=some v/\Q v H):=by
 intro value slice pins s σ H x y v u Q I rx ry h hs
 obtain ⟨z,a,fs,o,rfl,rfl,e,hl,q⟩:=h
 cases rx
 obtain ⟨_,hd,vs,rel,dd⟩:=oj I.hok (.inl e)
 obtain ⟨w',hw,rw'⟩:=cU.some_of (v:=o) (o:=valueAt vs (.inr z)) (by rw [<-hl,<-fR]; exact rel.val (.inr z))
 exact tail_any dd.typeIs slot_dict_getitem.lookup (wpAny_getItem_of (kM (k:=.inr z) ry) dd.mapOf hw ⟨o,H,I.tok _,rw',q⟩) hs
section
variable {X:L2.Cx} {cl:Cl}
theorem sW:OpR X (binaryOp .Add) (λ x y H Q=>∃a b ys,x=.ref a/\y=.ref b/\SqT X.K H a []/\SqT X.K H b ys/\Q (.ref b) H):=by
 intro pins s σ H x y v u Q I rx ry h
 obtain ⟨a,b,ys,rfl,rfl,h1,h2,q⟩:=h
 cases rx; cases ry
 obtain ⟨its,rv,p1,_⟩:=I.tuple h1
 obtain ⟨its2,rv2,p2,_⟩:=I.tuple h2
 cases rv
 obtain ⟨⟨cls,dd,data,sl⟩,ho,hc,n,hd⟩:=id p1
 obtain ⟨⟨cls2,dd2,data2,sl2⟩,ho2,hc2,n2,hd2⟩:=id p2
 simp only at hc hd hc2 hd2
 subst hc hd hc2 hd2
 exact concat_meets ⟨_,ho,rfl⟩ ⟨_,ho2,rfl⟩ noFill_tuple_add seq_tuple_add PySem.F.slot_tuple_add PySem.F.entry_tuple_add (PySem.F.args_tuple_add_2 _ _)
   (tuple_addW0 a b _ its2.toArray n n2 dd dd2 sl sl2 (by simp)) ⟨ho,ho2,⟨.ref b,H,I,rfl,q⟩⟩
theorem vU:OpR X (binaryOp .Add) (λ x y H Q=>∃a b xs ys,x=.ref a/\y=.ref b/\SqL X.K H a xs/\SqL X.K H b ys/\xs.length+ys.length<=sizeLine/\∀p,H p=none->Q (.ref p) (upd H p (.lst (xs++ys)))):=by
 intro pins s σ H x y v u Q I rx ry h
 obtain ⟨a,b,xs,ys,rfl,rfl,h1,h2,hz,q⟩:=h
 cases rx; cases ry
 obtain ⟨its,rv,p1,_⟩:=I.list h1
 obtain ⟨its2,rv2,p2,_⟩:=I.list h2
 obtain ⟨⟨cls,dd,data,sl⟩,n,ho,hc,hdd,hd⟩:=id p1
 obtain ⟨⟨cls2,dd2,data2,sl2⟩,n2,ho2,hc2,hdd2,hd2⟩:=id p2
 simp only at hc hd hc2 hd2
 subst hc hd hc2 hd2
 have l1:=rv.length
 have l2:=rv2.length
 have ea:its.toArray++its2.toArray=(its++its2).toArray:=by simp
 refine concat_meets ⟨_,ho,rfl⟩ ⟨_,ho2,rfl⟩ noFill_list_add seq_list_add PySem.F.slot_list_add PySem.F.entry_list_add (PySem.F.args_list_add_2 _ _)
   (list_addW a b its.toArray its2.toArray n n2 dd dd2 sl sl2 (by rw [List.size_toArray,List.size_toArray]; omega)) ⟨ho,ho2,?_⟩
 rw [ea]
 exact ⟨.ref _,_,I.BC (t':=s.toks) (rv.append rv2) (by rw [List.length_append]; omega),rfl,q _ I.fresh⟩
theorem zU (op:Operator):OpR X (binaryOp op) (SO2 X cl (binop op)):=by
 intro pins s σ H x y v u Q I rx ry h
 obtain ⟨β,m,wx,wy,w,m',r,qx,qy,e,k⟩:=h
 unfold binop at e
 split at e
 ·
  split at e
  ·cases e; cases qx; cases qy
   exact yX pins s σ H _ _ v u Q I rx ry ⟨_,_,rfl,rfl,k _ _ _ Ext.refl r (.int _)⟩
  ·rename_i xs ys
   split at e
   ·rename_i hm
    cases e
    cases qx with
    | tup h1 t1=>
     cases qy with
     | tup h2 t2=>
      rename_i a vs b us
      cases t1 with
      | nil=>exact sW pins s σ H _ _ v u Q I rx ry ⟨_,_,_,rfl,rfl,h1,h2,k _ _ _ Ext.refl r (.tup h2 (by simpa using t2))⟩
      | cons t1 tt1=>
       rename_i w1 v1 ws1 vs1
       have hl:(v1::vs1).length+us.length<=lim:=by
        rw [<-(RWs.cons t1 tt1).length,<-t2.length]; exact hm
       refine vv pins s σ H _ _ v u Q I rx ry ⟨_,_,_,_,rfl,rfl,h1,h2,by simp,Nat.le_trans hl br,λ z=>?_,λ z p hp=>?_⟩
       ·subst z
        cases t2
        exact k _ _ _ Ext.refl r (.tup h1 (by simpa using RWs.cons t1 tt1))
       ·obtain ⟨x',r'⟩:=r.k9 hp (v1::vs1++us)
        refine k _ _ _ x' r' (.tup (.of aA) ?_)
        exact ((RWs.cons t1 tt1).append t2).mono r x'
   ·cases e
  ·split at e
   ·rename_i hm
    cases e; cases qx; cases qy
    exact mC pins s σ H _ _ v u Q I rx ry ⟨_,_,rfl,rfl,Nat.le_trans hm br,k _ _ _ Ext.refl r (.str _)⟩
   ·cases e
  ·unfold vR at e
   split at e
   ·rename_i xs ys e1 e2
    split at e
    ·rename_i hm
     cases e
     obtain ⟨a,vs,rfl,h1,t1⟩:=r.getL qx e1
     obtain ⟨b,us,rfl,h2,t2⟩:=r.getL qy e2
     refine vU pins s σ H _ _ v u Q I rx ry ⟨_,_,_,_,rfl,rfl,h1,h2,?_,λ p hp=>?_⟩
     ·rw [<-t1.length,<-t2.length]; exact Nat.le_trans hm br
     ·obtain ⟨x',r'⟩:=r.newL hp (t1.append t2)
      exact k _ _ _ x' r' (.ref (r.last p))
    ·cases e
   ·cases e
 ·
  split at e
  ·cases e; cases qx; cases qy
   exact yY pins s σ H _ _ v u Q I rx ry ⟨_,_,rfl,rfl,k _ _ _ Ext.refl r (.int _)⟩
  ·cases e
 ·
  split at e
  ·split at e
   ·rename_i hm
    cases e; cases qx; cases qy
    refine yZ pins s σ H _ _ v u Q I rx ry ⟨_,_,rfl,rfl,?_,k _ _ _ Ext.refl r (.int _)⟩
    simpa [eN,vc] using hm
   ·cases e
  ·cases e
 ·split at e
  ·split at e
   ·rename_i hm
    cases e; cases qx; cases qy
    exact vd pins s σ H _ _ v u Q I rx ry ⟨_,_,rfl,rfl,hm,k _ _ _ Ext.refl r (.int _)⟩
   ·cases e
  ·cases e
 ·split at e
  ·split at e
   ·rename_i hm
    cases e; cases qx; cases qy
    exact y9 pins s σ H _ _ v u Q I rx ry ⟨_,_,rfl,rfl,hm,k _ _ _ Ext.refl r (.int _)⟩
   ·cases e
  ·cases e
 ·split at e
  ·split at e
   ·rename_i hm
    cases e; cases qx; cases qy
    exact za pins s σ H _ _ v u Q I rx ry ⟨_,_,rfl,rfl,hm,k _ _ _ Ext.refl r (.int _)⟩
   ·cases e
  ·cases e
 ·split at e
  ·split at e
   ·rename_i hm
    cases e; cases qx; cases qy
    exact zb pins s σ H _ _ v u Q I rx ry ⟨_,_,rfl,rfl,hm,k _ _ _ Ext.refl r (.int _)⟩
   ·cases e
  ·cases e
 ·split at e
  ·split at e
   ·rename_i hm
    cases e; cases qx; cases qy
    exact zc pins s σ H _ _ v u Q I rx ry ⟨_,_,rfl,rfl,hm,k _ _ _ Ext.refl r (.int _)⟩
   ·cases e
  ·cases e
 ·split at e
  ·cases e; cases qx; cases qy
   exact zd pins s σ H _ _ v u Q I rx ry ⟨_,_,rfl,rfl,k _ _ _ Ext.refl r (.int _)⟩
  ·cases e
 ·cases e
theorem BP (hu:UN X cl):OpR X (compareOp .Eq) (SO2 X cl λ x y m=>(eqW m x y).bind λ c m=>.ok (.bl c) m):=by
 intro pins s σ H x y v u Q I rx ry h
 obtain ⟨β,m,wx,wy,w,m',r,qx,qy,e,k⟩:=h
 obtain ⟨c,m1,e1,e2⟩:=R.aa e
 cases e2
 unfold eqW at e1
 split at e1
 ·rename_i d1 d2 f1 f2
  cases e1
  exact zG hu.un pins s σ H _ _ v u Q I rx ry ⟨_,_,cQ r _ qx f1,cQ r _ qy f2,(bN _ f1).1,(bN _ f2).1,(bN _ f1).2,k _ _ _ Ext.refl r (.bl _)⟩
 ·cases e1
theorem BQ (hu:UN X cl):OpR X (compareOp .NotEq) (SO2 X cl λ x y m=>((eqW m x y).bind λ b m=>.ok (!b) m).bind λ c m=>.ok (.bl c) m):=by
 intro pins s σ H x y v u Q I rx ry h
 obtain ⟨β,m,wx,wy,w,m',r,qx,qy,e,k⟩:=h
 obtain ⟨c,m1,e1,e2⟩:=R.aa e
 cases e2
 obtain ⟨c,m1,e1,e2⟩:=R.aa e1
 cases e2
 unfold eqW at e1
 split at e1
 ·rename_i d1 d2 f1 f2
  cases e1
  exact zH hu.un pins s σ H _ _ v u Q I rx ry ⟨_,_,cQ r _ qx f1,cQ r _ qy f2,(bN _ f1).1,(bN _ f2).1,(bN _ f1).2,k _ _ _ Ext.refl r (.bl _)⟩
 ·cases e1
theorem fS (hu:UN X cl) (neg:Bool) {pins:List (Addr×Obj)} {s:Shared} {σ:L2.St} {H:Hp} {x y:V} {v u:Value} {Q:VK} {β:List Addr} {m m':Mem} {wx wy:W} {ys:List W} {c:Bool} (I:Inv X pins σ H s) (rx:RelV x v) (ry:RelV y u)
  (r:Rel X.K cl β m H) (qx:RW X.K β H wx x) (qy:RW X.K β H wy y) (e1:bG m wy=some ys) (e2:iU m wx ys=.ok c m') (k:m'=m->Q (.bl (if neg then !c else c)) H) :
  wpAny (model X.prog X.w) X.A (compareOp (if neg then .NotIn else .In) v u) (EP X pins σ Q) X.xe s:=by
 obtain ⟨a,vs,rfl,hs,t⟩:=r.bG qy e1
 cases ry
 unfold iU at e2
 split at e2
 ·rename_i d es f1 f2
  cases e2
  have k:=k rfl
  obtain ⟨l1,l2⟩:=bN _ f1
  obtain ⟨l3,l4⟩:=dO (λ w d e=>bN 60 e) f2
  have ds:Dts X.K H vs es:=dN (λ w v d _ q e=>cQ r _ q e) t f2
  obtain ⟨as,ra⟩:=I.reads (cQ r _ qx f1) rx
  have hu':X.A.units+1+min (PyData.depthAll es) d.depth < cLine:=by
   have:min (PyData.depthAll es) d.depth<=d.depth:=Nat.min_le_right _ _
   have:=hu.un
   omega
  rcases hs with hs | hs
  ·obtain ⟨bs,rb⟩:=I.reads (Dt.lst hs ds) (u:=Value.ref a) rfl
   cases neg with
   | false=>exact SeqAt.in_list_reads rb ra l3 l1 hu' ⟨.bl _,H,I,rfl,k⟩
   | true=>exact SeqAt.notIn_list_reads rb ra l3 l1 hu' ⟨.bl _,H,I,rfl,k⟩
  ·obtain ⟨bs,rb⟩:=I.reads (Dt.tup hs ds) (u:=Value.ref a) rfl
   cases neg with
   | false=>exact SeqAt.in_tuple_reads rb ra l3 l1 hu' ⟨.bl _,H,I,rfl,k⟩
   | true=>exact SeqAt.notIn_tuple_reads rb ra l3 l1 hu' ⟨.bl _,H,I,rfl,k⟩
 ·cases e2
theorem RWs.dJ {K:PySem.W.Frag} {β:List Addr} {H:Hp}:∀{ws:List W} {vs:List V} {ns:List Int},RWs K β H ws vs->D.dJ ws=some ns->vs=ns.map V.int
 | _,_,_,.nil,h=>by cases h; rfl
 | _,_,_,.cons (w:=w) q t,h=>by
  cases w with
  | int i=>
   simp only [D.dJ,Option.map_eq_some_iff] at h
   obtain ⟨r,h1,rfl⟩:=h
   cases q
   rw [t.dJ h1]; rfl
  | _=>cases h
theorem lg {K:PySem.W.Frag} {β:List Addr} {H:Hp} {w:W} {v:V} {k:L2.Key} (q:RW K β H w v) (e:sO w=some k):v=kV k:=by
 cases q with
 | int i=>cases e; rfl
 | str x=>cases e; rfl
 | _=>cases e
theorem BR (hu:UN X cl):OpR X (compareOp .In) (SO2 X cl λ x y m=>(ng m x y).bind λ c m=>.ok (.bl c) m):=by
 rintro pins s σ H x y v u Q I rx ry ⟨β,m,wx,wy,w,m',r,qx,qy,e,k⟩
 obtain ⟨c,m1,e1,e2⟩:=R.aa e
 cases e2
 unfold ng at e1
 split at e1
 ·split at e1
  ·cases e1; cases qx; cases qy
   exact pT pins s σ H _ _ v u Q I rx ry ⟨_,_,rfl,rfl,k _ _ _ Ext.refl r (.bl _)⟩
  ·cases e1
 ·rename_i n
  split at e1
  ·rename_i ys e0
   exact fS hu false I rx ry r qx qy (by simp [bG,getL,e0]) e1 λ z=>by subst z; exact k _ _ _ Ext.refl r (.bl _)
  ·rename_i ks e0
   split at e1
   ·rename_i kk e3
    cases e1
    cases qy with
    | ref hb=>
     obtain ⟨S,hS,hk⟩:=r.obj e0 hb
     rw [hu.P,hu.w] at hS
     refine qc pins s σ H _ _ v u Q I rx ry ⟨_,S,_,kk,rfl,lg qx e3,hS,?_⟩
     rw [hk]
     exact k _ _ _ Ext.refl r (.bl _)
   ·cases e1
  ·rename_i fs e0
   split at e1
   ·rename_i z
    cases e1
    cases qx
    cases qy with
    | ref hb=>
     obtain ⟨gs,hg,t⟩:=r.obj e0 hb
     cases ry
     refine DF (o:=gs.lookup z) (by have:=hu.un; omega) I (by rw [<-fR]; exact .k (k:=.inr z) hg) rx λ s' I'=>⟨.bl _,H,I',rfl,?_⟩
     rw [<-t.look.1]
     exact k _ _ _ Ext.refl r (.bl _)
   ·cases e1
  ·cases e1
 ·exact fS hu false I rx ry r qx qy rfl e1 λ z=>by subst z; exact k _ _ _ Ext.refl r (.bl _)
 ·exact fS hu false I rx ry r qx qy rfl e1 λ z=>by subst z; exact k _ _ _ Ext.refl r (.bl _)
 ·cases e1
theorem oB {K:PySem.W.Frag} {β:List Addr} {H:Hp} {w:W} {v:V} (q:RW K β H w v):decide (v=.non)=ow w:=by
 cases q<;>first | rfl | exact decide_eq_false (λ z=>nomatch z)
theorem fT (hu:UN X cl) (op:CmpOp):OpR X (compareOp op) (SO2 X cl λ x y m=>(ak op x y m).bind λ c m=>.ok (.bl c) m):=by
 cases op with
 | Eq=>exact BP hu
 | NotEq=>exact BQ hu
 | Lt=>
  rintro pins s σ H x y v u Q I rx ry ⟨β,m,wx,wy,w,m',r,qx,qy,e,k⟩
  obtain ⟨c,m1,e1,e2⟩:=R.aa e
  cases e2
  unfold ak at e1
  dsimp only at e1
  split at e1
  ·cases e1; cases qx; cases qy
   exact Bq pins s σ H _ _ v u Q I rx ry ⟨_,_,rfl,rfl,k _ _ _ Ext.refl r (.bl _)⟩
  ·cases e1; cases qx; cases qy
   exact pS pins s σ H _ _ v u Q I rx ry ⟨_,_,rfl,rfl,k _ _ _ Ext.refl r (.bl _)⟩
  ·cases e1
 | LtE=>
  rintro pins s σ H x y v u Q I rx ry ⟨β,m,wx,wy,w,m',r,qx,qy,e,k⟩
  obtain ⟨c,m1,e1,e2⟩:=R.aa e
  cases e2
  unfold ak at e1
  dsimp only at e1
  split at e1
  ·cases e1; cases qx; cases qy
   exact Br pins s σ H _ _ v u Q I rx ry ⟨_,_,rfl,rfl,k _ _ _ Ext.refl r (.bl _)⟩
  ·cases e1; cases qx; cases qy
   exact qd pins s σ H _ _ v u Q I rx ry ⟨_,_,rfl,rfl,k _ _ _ Ext.refl r (.bl _)⟩
  ·cases e1
 | Gt=>
  rintro pins s σ H x y v u Q I rx ry ⟨β,m,wx,wy,w,m',r,qx,qy,e,k⟩
  obtain ⟨c,m1,e1,e2⟩:=R.aa e
  cases e2
  unfold ak at e1
  dsimp only at e1
  split at e1
  ·cases e1; cases qx; cases qy
   exact Bs pins s σ H _ _ v u Q I rx ry ⟨_,_,rfl,rfl,k _ _ _ Ext.refl r (.bl _)⟩
  ·cases e1
 | GtE=>
  rintro pins s σ H x y v u Q I rx ry ⟨β,m,wx,wy,w,m',r,qx,qy,e,k⟩
  obtain ⟨c,m1,e1,e2⟩:=R.aa e
  cases e2
  unfold ak at e1
  dsimp only at e1
  split at e1
  ·cases e1; cases qx; cases qy
   exact Bt pins s σ H _ _ v u Q I rx ry ⟨_,_,rfl,rfl,k _ _ _ Ext.refl r (.bl _)⟩
  ·cases e1
 | Is=>
  rintro pins s σ H x y v u Q I rx ry ⟨β,m,wx,wy,w,m',r,qx,qy,e,k⟩
  obtain ⟨c,m1,e1,e2⟩:=R.aa e
  cases e2
  unfold ak at e1
  dsimp only at e1
  split at e1
  ·cases e1; cases qy
   refine zf pins s σ H _ _ v u Q I rx ry ⟨rfl,?_⟩
   rw [oB qx]
   exact k _ _ _ Ext.refl r (.bl _)
  ·cases e1
 | IsNot=>
  rintro pins s σ H x y v u Q I rx ry ⟨β,m,wx,wy,w,m',r,qx,qy,e,k⟩
  obtain ⟨c,m1,e1,e2⟩:=R.aa e
  cases e2
  unfold ak at e1
  dsimp only at e1
  split at e1
  ·cases e1; cases qy
   refine ve pins s σ H _ _ v u Q I rx ry ⟨rfl,?_⟩
   rw [oB qx]
   exact k _ _ _ Ext.refl r (.bl _)
  ·cases e1
 | In=>exact BR hu
 | NotIn=>
  rintro pins s σ H x y v u Q I rx ry ⟨β,m,wx,wy,w,m',r,qx,qy,e,k⟩
  obtain ⟨c,m1,e1,e2⟩:=R.aa e
  cases e2
  unfold ak at e1
  dsimp only at e1
  split at e1
  ·rename_i n
   split at e1
   ·rename_i ys e0
    obtain ⟨c',m2,e3,e4⟩:=R.aa e1
    cases e4
    exact fS hu true I rx ry r qx qy (by simp [bG,getL,e0]) e3 λ z=>by subst z; exact k _ _ _ Ext.refl r (.bl _)
   ·rename_i fs e0
    split at e1
    ·rename_i z
     cases e1
     cases qx
     cases qy with
     | ref hb=>
      obtain ⟨gs,hg,t⟩:=r.obj e0 hb
      cases ry
      refine vD (o:=gs.lookup z) (by have:=hu.un; omega) I (by rw [<-fR]; exact .k (k:=.inr z) hg) rx λ s' I'=>⟨.bl _,H,I',rfl,?_⟩
      rw [<-t.look.1]
      exact k _ _ _ Ext.refl r (.bl _)
    ·cases e1
   ·cases e1
  ·obtain ⟨c',m2,e3,e4⟩:=R.aa e1
   cases e4
   exact fS hu true I rx ry r qx qy rfl e3 λ z=>by subst z; exact k _ _ _ Ext.refl r (.bl _)
  ·obtain ⟨c',m2,e3,e4⟩:=R.aa e1
   cases e4
   exact fS hu true I rx ry r qx qy rfl e3 λ z=>by subst z; exact k _ _ _ Ext.refl r (.bl _)
  ·cases e1
theorem vW {K:PySem.W.Frag} {β:List Addr} {H:Hp} {ws:List W} {vs:List V} {i:Int} {w:W} (t:RWs K β H ws vs) (e:atI ws i=some w):∃v,atI vs i=some v/\RW K β H w v:=by
 unfold atI at e ⊢
 rw [<-t.length]
 cases h:ixN ws.length i with
 | none=>rw [h] at e; cases e
 | some j=>rw [h] at e; exact t.get e
theorem zV:IxR X (SO2 X cl aQ):=by
 intro value slice pins s σ H x y v u Q I rx ry h hs
 obtain ⟨β,m,wx,wy,w,m',r,qx,qy,e,k⟩:=h
 unfold aQ at e
 split at e
 ·rename_i i
  split at e
  ·split at e
   ·rename_i hl
    split at e
    ·rename_i c e2
     cases e; cases qx; cases qy
     exact zu value slice pins s σ H _ _ v u Q I rx ry ⟨_,_,_,rfl,rfl,Nat.le_trans hl br,e2,k _ _ _ Ext.refl r (.str _)⟩ hs
    ·cases e
   ·cases e
  ·split at e
   ·rename_i ws e1
    split at e
    ·rename_i w' e2
     cases e; cases qy
     obtain ⟨a,vs,rfl,hq,t⟩:=r.bG qx e1
     obtain ⟨z,e3,qz⟩:=vW t e2
     rcases hq with hq | hq
     ·exact vz value slice pins s σ H _ _ v u Q I rx ry ⟨_,_,_,_,rfl,rfl,hq,e3,k _ _ _ Ext.refl r qz⟩ hs
     ·exact zq value slice pins s σ H _ _ v u Q I rx ry ⟨_,_,_,_,rfl,rfl,hq,e3,k _ _ _ Ext.refl r qz⟩ hs
    ·cases e
   ·cases e
 ·split at e
  ·split at e
   ·rename_i fs e0
    split at e
    ·rename_i w' e2
     cases e; cases qy
     cases qx with
     | ref hb=>
      obtain ⟨gs,hg,t⟩:=r.obj e0 hb
      obtain ⟨z,e3,qz⟩:=t.look.2 _ e2
      exact zT value slice pins s σ H _ _ v u Q I rx ry ⟨_,_,_,_,rfl,rfl,hg,e3,k _ _ _ Ext.refl r qz⟩ hs
    ·cases e
   ·cases e
  ·cases e
 ·cases e
end
end D
end
section
namespace D
open PySem PySem.Spec PyProof.Rows L2
section
variable {X:L2.Cx} {cl:Cl} {C:D.Cx} {pos:Pos}
theorem sX {i:Nat} {x:Str} (hN:X.N[i]?=some x) (hv:Vis X.env.scope x) (hd:(x==("__debug__":Str))=false) (hcd:(x==("__classdict__":Str))=false):PE X (.Name x pos) (SE X cl (evE C (.var i))):=by
 refine PE.imp (yC hN hv hd hcd) ?_
 rintro σ H Q ⟨β,ρ,m,w,m',r,l,e,k⟩
 simp only [evE] at e
 split at e
 ·rename_i w' e1
  cases e
  obtain ⟨v,e2,q⟩:=l.at_ e1
  exact ⟨v,e2,k _ _ _ Ext.refl r q⟩
 ·cases e
theorem BS {i:Int} {j:Nat}:PE X (.Constant (.int i) j pos) (SE X cl (evE C (.cst (.int i)))):=by
 refine PE.imp yD ?_
 rintro σ H Q ⟨β,ρ,m,w,m',r,l,e,k⟩
 simp only [evE] at e
 cases e
 exact k _ _ _ Ext.refl r (.int i)
theorem DM {i:Bool} {j:Nat}:PE X (.Constant (.bool i) j pos) (SE X cl (evE C (.cst (.bl i)))):=by
 refine PE.imp A7 ?_
 rintro σ H Q ⟨β,ρ,m,w,m',r,l,e,k⟩
 simp only [evE] at e
 cases e
 exact k _ _ _ Ext.refl r (.bl i)
theorem BU {j:Nat}:PE X (.Constant .none j pos) (SE X cl (evE C (.cst .non))):=by
 refine PE.imp qY ?_
 rintro σ H Q ⟨β,ρ,m,w,m',r,l,e,k⟩
 simp only [evE] at e
 cases e
 exact k _ _ _ Ext.refl r .non
theorem BV {x:Str} {j:Nat}:PE X (.Constant (.str x) j pos) (SE X cl (evE C (.cst (.str x)))):=by
 refine PE.imp qZ ?_
 rintro σ H Q ⟨β,ρ,m,w,m',r,l,e,k⟩
 simp only [evE] at e
 cases e
 exact k _ _ _ Ext.refl r (.str x)
theorem BW {x:Str} {w:W} (hg:Gl X x) (h:∃u v,X.mg x=some u/\RelV v u/\∀β H,RW X.K β H w v) (hd:(x==("__debug__":Str))=false):PE X (.Name x pos) (SE X cl (evE C (.cst w))):=by
 obtain ⟨u,v,h1,h2,h3⟩:=h
 refine PE.imp (dY hg h1 h2 hd) ?_
 rintro σ H Q ⟨β,ρ,m,w,m',r,l,e,k⟩
 simp only [evE] at e
 cases e
 exact k _ _ _ Ext.refl r (h3 _ _)
variable {a b c:Expr} {da db dc:E}
theorem BX {op:Operator} (ha:PE X a (SE X cl (evE C da))) (hb:PE X b (SE X cl (evE C db))):PE X (.BinOp a op b pos) (SE X cl (evE C (.bin op da db))):=by
 refine PE.imp (Bl (zU (cl:=cl) op) ha hb) ?_
 rintro σ H Q ⟨β,ρ,m,w,m',r,l,e,k⟩
 simp only [evE] at e
 obtain ⟨x,m1,e1,e⟩:=R.aa e
 obtain ⟨y,m2,e2,e⟩:=R.aa e
 refine ⟨β,ρ,m,x,m1,r,l,e1,fun β1 H1 v1 x1 r1 q1=>?_⟩
 refine ⟨β1,ρ,m1,y,m2,r1,l.mono r x1,e2,fun β2 H2 v2 x2 r2 q2=>?_⟩
 exact ⟨β2,m2,x,y,w,m',r2,q1.mono r1 x2,q2,e,fun β3 H3 v x3 r3 q3=>k β3 H3 v ((x1.trans r1 x2).trans r2 x3) r3 q3⟩
theorem BY {op:CmpOp} (hu:UN X cl) (ha:PE X a (SE X cl (evE C da))) (hb:PE X b (SE X cl (evE C db))) (hm:behindInMarks op b=false):PE X (.Compare a [op] [b] pos) (SE X cl (evE C (.cmp op da db))):=by
 refine PE.imp (jA (fT (cl:=cl) hu op) ha hb hm) ?_
 rintro σ H Q ⟨β,ρ,m,w,m',r,l,e,k⟩
 simp only [evE] at e
 obtain ⟨x,m1,e1,e⟩:=R.aa e
 obtain ⟨y,m2,e2,e⟩:=R.aa e
 refine ⟨β,ρ,m,x,m1,r,l,e1,fun β1 H1 v1 x1 r1 q1=>?_⟩
 refine ⟨β1,ρ,m1,y,m2,r1,l.mono r x1,e2,fun β2 H2 v2 x2 r2 q2=>?_⟩
 exact ⟨β2,m2,x,y,w,m',r2,q1.mono r1 x2,q2,e,fun β3 H3 v x3 r3 q3=>k β3 H3 v ((x1.trans r1 x2).trans r2 x3) r3 q3⟩
theorem BZ {op:CmpOp} (hu:UN X cl) (ha:PE X a (SE X cl (evE C da))) (hb:PE X b (SE X cl (evE C db))) (hm:behindInMarks op b=false):PT X (.Compare a [op] [b] pos) (ST X cl (evT C (.cmp op da db))):=by
 refine PT.imp (jB (fT (cl:=cl) hu op) ha hb hm) ?_
 rintro σ H Q ⟨β,ρ,m,w,m',r,l,e,k⟩
 simp only [evT] at e
 obtain ⟨x,m1,e1,e⟩:=R.aa e
 obtain ⟨y,m2,e2,e⟩:=R.aa e
 refine ⟨β,ρ,m,x,m1,r,l,e1,fun β1 H1 v1 x1 r1 q1=>?_⟩
 refine ⟨β1,ρ,m1,y,m2,r1,l.mono r x1,e2,fun β2 H2 v2 x2 r2 q2=>?_⟩
 refine ⟨β2,m2,x,y,.bl w,m',r2,q1.mono r1 x2,q2,by dsimp only; rw [e]; rfl,fun β3 H3 v x3 r3 q3=>?_⟩
 cases q3
 exact ⟨w,rfl,k β3 H3 ((x1.trans r1 x2).trans r2 x3) r3⟩
theorem B0 (ha:PE X a (SE X cl (evE C da))):PE X (.UnaryOp .USub a pos) (SE X cl (evE C (.neg da))):=by
 refine PE.imp (Bm ze ha) ?_
 rintro σ H Q ⟨β,ρ,m,w,m',r,l,e,k⟩
 simp only [evE] at e
 obtain ⟨x,m1,e1,e⟩:=R.aa e
 refine ⟨β,ρ,m,x,m1,r,l,e1,fun β1 H1 v1 x1 r1 q1=>?_⟩
 split at e
 ·cases e; cases q1
  exact ⟨_,rfl,k _ _ _ x1 r1 (.int _)⟩
 ·cases e
theorem B3 (ha:PE X a (SE X cl (evE C da))):PE X (.UnaryOp .Not a pos) (SE X cl (evE C (.not da))):=by
 refine PE.imp (yI ha) ?_
 rintro σ H Q ⟨β,ρ,m,w,m',r,l,e,k⟩
 simp only [evE] at e
 obtain ⟨x,m1,e1,e⟩:=R.aa e
 refine ⟨β,ρ,m,x,m1,r,l,e1,fun β1 H1 v1 x1 r1 q1=>?_⟩
 split at e
 ·cases e; cases q1
  exact ⟨_,rfl,k _ _ _ x1 r1 (.bl _)⟩
 ·cases e
theorem B4 (ha:PT X a (ST X cl (evT C da))):PT X (.UnaryOp .Not a pos) (ST X cl (evT C (.not da))):=by
 refine PT.imp (yG ha) ?_
 rintro σ H Q ⟨β,ρ,m,w,m',r,l,e,k⟩
 simp only [evT] at e
 obtain ⟨x,m1,e1,e⟩:=R.aa e
 cases e
 exact ⟨β,ρ,m,x,_,r,l,e1,fun β1 H1 x1 r1=>k _ _ x1 r1⟩
variable {rest:List Expr}
theorem B5 (ha:PE X a (SE X cl (evE C da))) (hb:PE X (.BoolOp .And (b::rest) pos) (SE X cl (evE C db))):PE X (.BoolOp .And (a::b::rest) pos) (SE X cl (evE C (.and da db))):=by
 refine PE.imp (yH ha hb) ?_
 rintro σ H Q ⟨β,ρ,m,w,m',r,l,e,k⟩
 simp only [evE] at e
 obtain ⟨x,m1,e1,e⟩:=R.aa e
 refine ⟨β,ρ,m,x,m1,r,l,e1,fun β1 H1 v1 x1 r1 q1=>?_⟩
 split at e
 ·rename_i c
  cases q1
  refine ⟨c,rfl,?_⟩
  split at e
  ·rename_i hc
   rw [if_pos hc]
   exact ⟨β1,ρ,m1,w,m',r1,l.mono r x1,e,fun β2 H2 v2 x2 r2 q2=>k _ _ _ (x1.trans r1 x2) r2 q2⟩
  ·rename_i hc
   rw [if_neg hc]
   cases e
   exact k _ _ _ x1 r1 (.bl _)
 ·cases e
theorem DN (ha:PE X a (SE X cl (evE C da))) (hb:PE X (.BoolOp .Or (b::rest) pos) (SE X cl (evE C db))):PE X (.BoolOp .Or (a::b::rest) pos) (SE X cl (evE C (.or da db))):=by
 refine PE.imp (Bb ha hb) ?_
 rintro σ H Q ⟨β,ρ,m,w,m',r,l,e,k⟩
 simp only [evE] at e
 obtain ⟨x,m1,e1,e⟩:=R.aa e
 refine ⟨β,ρ,m,x,m1,r,l,e1,fun β1 H1 v1 x1 r1 q1=>?_⟩
 split at e
 ·rename_i c
  cases q1
  refine ⟨c,rfl,?_⟩
  split at e
  ·rename_i hc
   rw [if_pos hc]
   cases e
   exact k _ _ _ x1 r1 (.bl _)
  ·rename_i hc
   rw [if_neg hc]
   exact ⟨β1,ρ,m1,w,m',r1,l.mono r x1,e,fun β2 H2 v2 x2 r2 q2=>k _ _ _ (x1.trans r1 x2) r2 q2⟩
 ·cases e
theorem w_and (ha:PT X a (ST X cl (evT C da))) (hb:PW X (.BoolOp .And (b::rest) pos) (ST X cl (evT C db))):PW X (.BoolOp .And (a::b::rest) pos) (ST X cl (evT C (.and da db))):=by
 refine PW.imp (yF ha hb) ?_
 rintro σ H Q ⟨β,ρ,m,w,m',r,l,e,k⟩
 simp only [evT] at e
 obtain ⟨x,m1,e1,e⟩:=R.aa e
 refine ⟨β,ρ,m,x,m1,r,l,e1,fun β1 H1 x1 r1=>?_⟩
 split at e
 ·rename_i hc
  rw [if_pos hc]
  exact ⟨β1,ρ,m1,w,m',r1,l.mono r x1,e,fun β2 H2 x2 r2=>k _ _ (x1.trans r1 x2) r2⟩
 ·rename_i hc
  rw [if_neg hc]
  cases e
  exact k _ _ x1 r1
theorem w_or (ha:PT X a (ST X cl (evT C da))) (hb:PW X (.BoolOp .Or (b::rest) pos) (ST X cl (evT C db))):PW X (.BoolOp .Or (a::b::rest) pos) (ST X cl (evT C (.or da db))):=by
 refine PW.imp (A8 ha hb) ?_
 rintro σ H Q ⟨β,ρ,m,w,m',r,l,e,k⟩
 simp only [evT] at e
 obtain ⟨x,m1,e1,e⟩:=R.aa e
 refine ⟨β,ρ,m,x,m1,r,l,e1,fun β1 H1 x1 r1=>?_⟩
 split at e
 ·rename_i hc
  rw [if_pos hc]
  cases e
  exact k _ _ x1 r1
 ·rename_i hc
  rw [if_neg hc]
  exact ⟨β1,ρ,m1,w,m',r1,l.mono r x1,e,fun β2 H2 x2 r2=>k _ _ (x1.trans r1 x2) r2⟩
theorem qt {K:PySem.W.Frag} {β:List Addr} {m m':Mem} {H:Hp} {w:W} {v:V} {b:Bool} (r:Rel K cl β m H) (q:RW K β H w v) (e:truthy m w=.ok b m'):m'=m/\zg K v H b:=by
 cases q with
 | non=>cases e; exact ⟨rfl,rfl⟩
 | bl c=>cases e; exact ⟨rfl,rfl⟩
 | int i=>cases e; exact ⟨rfl,rfl⟩
 | str x=>
  simp only [truthy] at e
  split at e
  ·rename_i h
   cases e
   exact ⟨rfl,Nat.le_trans h br,rfl⟩
  ·cases e
 | tup h t=>
  cases e
  refine ⟨rfl,.inr (.inl ⟨_,h,?_⟩)⟩
  cases t<;>rfl
 | fz h t=>
  cases e
  refine ⟨rfl,.inl ⟨_,h.l,?_⟩⟩
  cases t<;>rfl
 | obj h e0 t=>cases e
 | ref h=>
  simp only [truthy] at e
  split at e
  ·rename_i xs e1
   cases e
   obtain ⟨a,vs,z,hs,t⟩:=r.getL (.ref h) e1
   cases z
   refine ⟨rfl,.inl ⟨_,hs,?_⟩⟩
   cases t<;>rfl
  ·cases e
theorem xR (ha:PE X a (SE X cl (evE C da))) (he:∀whole,isTrue a X.env whole=(do let v <-whole; standAt a.pos; holding [v] (PySem.truthy v))) (hd:∀ρ m,evT C da ρ m=(evE C da ρ m).bind λ w m=>D.truthy m w):PT X a (ST X cl (evT C da)):=by
 refine PT.imp (rF ha he) ?_
 rintro σ H Q ⟨β,ρ,m,w,m',r,l,e,k⟩
 rw [hd] at e
 obtain ⟨x,m1,e1,e⟩:=R.aa e
 refine ⟨β,ρ,m,x,m1,r,l,e1,fun β1 H1 v1 x1 r1 q1=>?_⟩
 obtain ⟨rfl,z⟩:=qt r1 q1 e
 exact ⟨w,z,k _ _ x1 r1⟩
theorem B6 {t:Expr} {dt:E} (ht:PT X t (ST X cl (evT C dt))) (ha:PE X a (SE X cl (evE C da))) (hb:PE X b (SE X cl (evE C db))):PE X (.IfExp t a b pos) (SE X cl (evE C (.ife dt da db))):=by
 refine PE.imp (q9 ht ha hb) ?_
 rintro σ H Q ⟨β,ρ,m,w,m',r,l,e,k⟩
 simp only [evE] at e
 obtain ⟨x,m1,e1,e⟩:=R.aa e
 refine ⟨β,ρ,m,x,m1,r,l,e1,fun β1 H1 x1 r1=>?_⟩
 split at e
 ·rename_i hc
  rw [if_pos hc]
  exact ⟨β1,ρ,m1,w,m',r1,l.mono r x1,e,fun β2 H2 v2 x2 r2 q2=>k _ _ _ (x1.trans r1 x2) r2 q2⟩
 ·rename_i hc
  rw [if_neg hc]
  exact ⟨β1,ρ,m1,w,m',r1,l.mono r x1,e,fun β2 H2 v2 x2 r2 q2=>k _ _ _ (x1.trans r1 x2) r2 q2⟩
theorem vX {o1 o2:CmpOp} (hu:UN X cl) (ha:PE X a (SE X cl (evE C da))) (hb:PE X b (SE X cl (evE C db))) (hc:PE X c (SE X cl (evE C dc)))
  (h:PE X (.Compare a [o1,o2] [b,c] pos) (mw (SO2 X cl λ x y m=>(ak o1 x y m).bind λ c m=>.ok (.bl c) m) (SO2 X cl λ x y m=>(ak o2 x y m).bind λ c m=>.ok (.bl c) m) (SE X cl (evE C da)) (SE X cl (evE C db)) (SE X cl (evE C dc)))) :
  PE X (.Compare a [o1,o2] [b,c] pos) (SE X cl (evE C (.chain o1 o2 da db dc))):=by
 refine PE.imp h ?_
 rintro σ H Q ⟨β,ρ,m,w,m',r,l,e,k⟩
 simp only [evE] at e
 obtain ⟨x,m1,e1,e⟩:=R.aa e
 obtain ⟨y,m2,e2,e⟩:=R.aa e
 obtain ⟨z,m3,e3,e⟩:=R.aa e
 refine ⟨β,ρ,m,x,m1,r,l,e1,fun β1 H1 v1 x1 r1 q1=>?_⟩
 refine ⟨β1,ρ,m1,y,m2,r1,l.mono r x1,e2,fun β2 H2 v2 x2 r2 q2=>?_⟩
 have l2:=(l.mono r x1).mono r1 x2
 refine ⟨β2,m2,x,y,.bl z,m3,r2,q1.mono r1 x2,q2,by dsimp only; rw [e3]; rfl,fun β3 H3 v3 x3 r3 q3=>?_⟩
 cases q3
 refine ⟨z,rfl,?_⟩
 have x03:=(x1.trans r1 x2).trans r2 x3
 split at e
 ·rename_i hc
  rw [if_pos hc]
  obtain ⟨u,m4,e4,e⟩:=R.aa e
  refine ⟨β3,ρ,m3,u,m4,r3,l2.mono r2 x3,e4,fun β4 H4 v4 x4 r4 q4=>?_⟩
  exact ⟨β4,m4,y,u,w,m',r4,(q2.mono r2 x3).mono r3 x4,q4,e,fun β5 H5 v5 x5 r5 q5=>k _ _ _ ((x03.trans r3 x4).trans r4 x5) r5 q5⟩
 ·rename_i hc
  rw [if_neg hc]
  cases e
  exact k _ _ _ x03 r3 (.bl _)
theorem xS:PA X [] (SA X cl (aH C .nil)):=by
 refine PA.imp cN ?_
 rintro σ H Q ⟨β,ρ,m,w,m',r,l,e,k⟩
 simp only [aH] at e
 cases e
 exact k _ _ _ Ext.refl r .nil
theorem nv {es:List Expr} {d:E} {ds:Es} (ha:PE X a (SE X cl (evE C d))) (hr:PA X es (SA X cl (aH C ds))) (hs:starEach (a::es) X.env=(false,eval a X.env)::starEach es X.env):PA X (a::es) (SA X cl (aH C (.cons d ds))):=by
 refine PA.imp (bL ha hr hs) ?_
 rintro σ H Q ⟨β,ρ,m,w,m',r,l,e,k⟩
 simp only [aH] at e
 obtain ⟨x,m1,e1,e⟩:=R.aa e
 obtain ⟨y,m2,e2,e⟩:=R.aa e
 cases e
 refine ⟨β,ρ,m,x,m1,r,l,e1,fun β1 H1 v1 x1 r1 q1=>?_⟩
 exact ⟨β1,ρ,m1,y,_,r1,l.mono r x1,e2,fun β2 H2 v2 x2 r2 q2=>k _ _ _ (x1.trans r1 x2) r2 (.cons (q1.mono r1 x2) q2)⟩
theorem B7 {es:List Expr} {ds:Es} {x1} (ha:PA X es (SA X cl (aH C ds))):PE X (.Tuple es x1 pos) (SE X cl (evE C (.tup ds))):=by
 refine PE.imp (zk ha) ?_
 rintro σ H Q ⟨β,ρ,m,w,m',r,l,e,k⟩
 simp only [evE] at e
 obtain ⟨x,m1,e1,e⟩:=R.aa e
 split at e
 ·rename_i hl
  cases e
  refine ⟨β,ρ,m,x,_,r,l,e1,fun β1 H1 v1 x1 r1 q1=>⟨by rw [<-q1.length]; exact Nat.le_trans hl br,λ p hp=>?_⟩⟩
  obtain ⟨x2,r2⟩:=r1.k9 hp v1
  exact k _ _ _ (x1.trans r1 x2) r2 (.tup (.of aA) (q1.mono r1 x2))
 ·cases e
theorem B8 {es:List Expr} {ds:Es} (ha:PA X es (SA X cl (aH C ds))):PE X (.List es pos) (SE X cl (evE C (.lst ds))):=by
 refine PE.imp (zl ha) ?_
 rintro σ H Q ⟨β,ρ,m,w,m',r,l,e,k⟩
 simp only [evE] at e
 obtain ⟨x,m1,e1,e⟩:=R.aa e
 split at e
 ·rename_i hl
  cases e
  refine ⟨β,ρ,m,x,_,r,l,e1,fun β1 H1 v1 x1 r1 q1=>⟨by rw [<-q1.length]; exact Nat.le_trans hl br,λ p hp=>?_⟩⟩
  obtain ⟨x2,r2⟩:=r1.newL hp q1
  exact k _ _ _ (x1.trans r1 x2) r2 (.ref (r1.last p))
 ·cases e
theorem B9 (ha:PE X a (SE X cl (evE C da))) (hb:PE X b (SE X cl (evE C db))) (hs:gA b):PE X (.Subscript a b pos) (SE X cl (evE C (.idx da db))):=by
 refine PE.imp (xM (zV (cl:=cl)) ha hb hs) ?_
 rintro σ H Q ⟨β,ρ,m,w,m',r,l,e,k⟩
 simp only [evE] at e
 obtain ⟨x,m1,e1,e⟩:=R.aa e
 obtain ⟨y,m2,e2,e⟩:=R.aa e
 refine ⟨β,ρ,m,x,m1,r,l,e1,fun β1 H1 v1 x1 r1 q1=>?_⟩
 refine ⟨β1,ρ,m1,y,m2,r1,l.mono r x1,e2,fun β2 H2 v2 x2 r2 q2=>?_⟩
 exact ⟨β2,m2,x,y,w,m',r2,q1.mono r1 x2,q2,e,fun β3 H3 v x3 r3 q3=>k β3 H3 v ((x1.trans r1 x2).trans r2 x3) r3 q3⟩
theorem zW:PO X none (SOo X cl (evO C .none)):=by
 refine PO.imp vq ?_
 rintro σ H Q ⟨β,ρ,m,w,m',r,l,e,k⟩
 simp only [evO] at e
 cases e
 exact k _ _ Ext.refl r
theorem zX (ha:PE X a (SE X cl (evE C da))):PO X (some a) (SOo X cl (evO C (.some da))):=by
 refine PO.imp (vt ha) ?_
 rintro σ H Q ⟨β,ρ,m,w,m',r,l,e,k⟩
 simp only [evO] at e
 obtain ⟨x,m1,e1,e⟩:=R.aa e
 refine ⟨β,ρ,m,x,m1,r,l,e1,fun β1 H1 v1 x1 r1 q1=>?_⟩
 split at e
 ·cases e; cases q1
  exact ⟨_,rfl,k _ _ x1 r1⟩
 ·cases e
theorem oE {K:PySem.W.Frag} {β:List Addr} {H:Hp} {ws:List W} {vs:List V} {lo hi:Option Int} (t:RWs K β H ws vs):RWs K β H (fk ws lo hi) (jD vs lo hi):=by
 unfold fk jD
 rw [<-t.length]
 exact (t.drop _).take _
theorem zY:SlR X (λ x lo hi H Q=>∃β m wx w m',Rel X.K cl β m H/\RW X.K β H wx x/\cG wx lo hi m=.ok w m'/\∀β' H' v,Ext β H β' H'->Rel X.K cl β' m' H'->RW X.K β' H' w v->Q v H'):=by
 intro pins s σ H x v vl vu lo hi sl Q I rx hs pl pu h
 obtain ⟨β,m,wx,w,m',r,q,e,k⟩:=h
 unfold cG at e
 split at e
 ·cases e
  cases q with
  | tup h t=>
   rename_i xs a vs
   by_cases hw:HT.sIx vs.length 0 lo=0/\HT.sIx vs.length vs.length hi=vs.length
   ·refine vQ pins s σ H _ v vl vu lo hi sl Q I rx hs pl pu ⟨_,_,rfl,h,hw,k _ _ _ Ext.refl r ?_⟩
    have:fk xs lo hi=xs:=by
     unfold fk
     rw [t.length,hw.1,hw.2,<-t.length]
     simp
    rw [this]
    exact .tup h t
   ·refine zp pins s σ H _ v vl vu lo hi sl Q I rx hs pl pu ⟨_,_,rfl,h,hw,λ p hp=>?_⟩
    obtain ⟨x2,r2⟩:=r.k9 hp (jD _ lo hi)
    exact k _ _ _ x2 r2 (.tup (.of aA) ((oE t).mono r x2))
 ·split at e
  ·rename_i hl
   cases e; cases q
   exact zM pins s σ H _ v vl vu lo hi sl Q I rx hs pl pu ⟨_,rfl,Nat.le_trans hl br,k _ _ _ Ext.refl r (.str _)⟩
  ·cases e
 ·split at e
  ·rename_i xs e1
   cases e
   obtain ⟨a,vs,rfl,hs',t⟩:=r.getL q e1
   refine vA pins s σ H _ v vl vu lo hi sl Q I rx hs pl pu ⟨_,_,rfl,hs',λ p hp=>?_⟩
   obtain ⟨x2,r2⟩:=r.newL hp (oE t)
   exact k _ _ _ x2 r2 (.ref (r.last p))
  ·cases e
theorem Ca {lo hi:Option Expr} {dl dh:Oe} {p2:Pos} (ha:PE X a (SE X cl (evE C da))) (hl:PO X lo (SOo X cl (evO C dl))) (hh:PO X hi (SOo X cl (evO C dh))):PE X (.Subscript a (.Slice lo hi none p2) pos) (SE X cl (evE C (.slc da dl dh))):=by
 refine PE.imp (rP (zY (cl:=cl)) ha hl hh) ?_
 rintro σ H Q ⟨β,ρ,m,w,m',r,l,e,k⟩
 simp only [evE] at e
 obtain ⟨x,m1,e1,e⟩:=R.aa e
 obtain ⟨y,m2,e2,e⟩:=R.aa e
 obtain ⟨z,m3,e3,e⟩:=R.aa e
 refine ⟨β,ρ,m,x,m1,r,l,e1,fun β1 H1 v1 x1 r1 q1=>?_⟩
 refine ⟨β1,ρ,m1,y,m2,r1,l.mono r x1,e2,fun β2 H2 x2 r2=>?_⟩
 refine ⟨β2,ρ,m2,z,m3,r2,(l.mono r x1).mono r1 x2,e3,fun β3 H3 x3 r3=>?_⟩
 exact ⟨β3,m3,x,w,m',r3,(q1.mono r1 x2).mono r2 x3,e,fun β4 H4 v x4 r4 q4=>k _ _ _ (((x1.trans r1 x2).trans r2 x3).trans r3 x4) r4 q4⟩
end
end D
end
section
namespace D
open PySem PySem.Spec PyProof.Rows L2 PySem.W
noncomputable def TIs (K:PySem.W.Frag) (H:Hp) (v:V) (ns:List Int):Prop:=∃a,v=.ref a/\SqT K H a (ns.map V.int)
section
variable {X:L2.Cx}
end
end D
end
section
namespace D
open PySem PySem.Spec PyProof.Rows L2
theorem vY {X:L2.Cx}:aZ X (.builtin "sorted") (λ xs H Q=>∃(p:Addr) (y:V),xs=[.ref p]/\SqL X.K H p [y]/\∀l,H l=none->Q (.ref l) (upd H l (.lst [y]))):=by
 intro pins s σ H xs us Q I rv h
 obtain ⟨p,y,rfl,hq,q⟩:=h
 obtain ⟨u,rfl,rx⟩:=vals1 rv
 cases rx
 obtain ⟨its,rvs,pl,_⟩:=I.list hq
 obtain ⟨v,rfl,ry⟩:=vals1 rvs
 refine gr (v:=v) pl.isList λ D h' n' hD hg hk=>?_
 exact ⟨.ref D,_,I.laid (t':=s.toks) (o:=.lst [y]) hk hD ⟨by simp; decide +kernel,[v],n',.cons ry .nil,hg⟩,rfl,q _ (I.hok.fresh hD)⟩
end D
end
section
namespace D
open PySem PySem.Spec PyProof.Rows L2
section
variable {X:L2.Cx}
theorem qu {α β:Type} {R:α->β->Prop} {xs:List α} {ys:List β} (h:Paired R xs ys):∀{j:Nat} {y:β},ys[j]?=some y->∃x,xs[j]?=some x/\R x y:=by
 induction h with
 | nil=>intro j y e; simp at e
 | cons r t ih=>
  intro j y e
  cases j with
  | zero=>cases e; exact ⟨_,rfl,r⟩
  | succ j=>exact ih (by simpa using e)
theorem ny {α β:Type} {R:α->β->Prop} {xs:List α} {ys:List β} (h:Paired R xs ys):∀{j:Nat} {x:α},xs[j]?=some x->∃y,ys[j]?=some y/\R x y:=by
 induction h with
 | nil=>intro j y e; simp at e
 | cons r t ih=>
  intro j y e
  cases j with
  | zero=>cases e; exact ⟨_,rfl,r⟩
  | succ j=>exact ih (by simpa using e)
theorem oF {pins:List (Addr×Obj)} {σ:L2.St} {H:Hp} {s:Shared} {ys:List V} {its:List Value} {tss:List (List Int)} (I:Inv X pins σ H s) (rv:Vals ys its) (hp:Paired (TIs X.K H) ys tss) (j:Nat) (ns:List Int) (v:Value) (h1:tss[j]?=some ns) (h2:its.toArray[j]?=some v) :
  ∃(a:Addr) (jt:Array Value),v=Value.ref a/\IsTup s.heap a jt/\IntsAre jt.toList ns:=by
 obtain ⟨y,hy,a,rfl,hq⟩:=qu hp h1
 obtain ⟨u,hu,ru⟩:=ny rv hy
 have e:v=u:=by
  have:its[j]?=some v:=by simpa using h2
  rw [hu] at this; cases this; rfl
 subst e
 cases ru
 obtain ⟨jt,rj,tj,_⟩:=I.tuple hq
 exact ⟨a,jt.toArray,rfl,tj,by simpa using intsAre_of rj⟩
theorem sY {prog:Program} {w:World} {vs:List Value} {ns:List Int} (h:IntsAre vs ns):ItemsAre (intKind prog w) ns vs:=by
 induction h with
 | nil=>exact .nil
 | cons a t h ih=>exact .cons (by show Value.isInt a (.int a t)=true; simp [Value.isInt]) ih
noncomputable def ia (a:Addr) (n:Nat):HO:=.ext λ h=>∃hs,gX h a n hs
theorem qw {P:Program} {w:World} {H:Hp} {h:Heap} {a:Addr} {n:Nat} (x:∃hs,gX h a n hs):aT P w H h a (ia a n):=by
 obtain ⟨hs,es,ep,t,e,r⟩:=id x
 exact ⟨x,⟨_,e⟩,λ h1 h2 ⟨hs1,es1,ep1,t1,e1,r1⟩ k=>⟨hs1,es1,ep1,t1,k _ e1,r1⟩⟩
theorem qA (hh:X.A.handled=none) (hu:X.A.units+64 < cLine):aZ X (.type "set") (λ xs H Q=>∃(p:Addr) (ys:List V) (tss:List (List Int)),xs=[.ref p]/\SqL X.K H p ys/\Paired (TIs X.K H) ys tss/\
  tss.length<=4/\(∀t∈tss,cD t=true)/\tss.Nodup/\∀l,H l=none->Q (.ref l) (upd H l (ia l tss.length))):=by
 intro pins s σ H xs us Q I rv h
 obtain ⟨p,ys,tss,rfl,hq,hp,hz,hok,hnd,q⟩:=h
 obtain ⟨u,rfl,rx⟩:=vals1 rv
 cases rx
 obtain ⟨its,rvs,pl,_⟩:=I.list hq
 refine gY (kss:=tss) hh (by omega) pl.isList hz (by rw [List.size_toArray,<-rvs.length,hp.length]) hok hnd (λ j ks v h1 h2=>?_) λ h' tk hs hL hk=>?_
 ·obtain ⟨a,jt,hv,⟨o,ho,hc,n,hd⟩,hi⟩:=oF I rvs hp j ks v h1 h2
  exact ⟨a,hv,o,jt,n,ho,hc,hd,sY hi⟩
 ·have kp:∀b o,s.heap.get? b=some o->h'.get? b=some o:=λ b o e=>hk b o (Heap.lt_size e) e
  exact ⟨.ref s.heap.objs.size,_,I.laid (t':=tk) (o:=ia s.heap.objs.size tss.length) kp (Nat.le_refl _) (qw ⟨hs,hL⟩),rfl,q _ (I.hok.fresh (Nat.le_refl _))⟩
theorem qB:aZ X (.builtin "len") (λ xs H Q=>∃(a:Addr) (n:Nat),xs=[.ref a]/\H a=some (ia a n)/\n<=4/\Q (.int n) H):=by
 intro pins s σ H xs us Q I r h
 obtain ⟨a,n,rfl,hq,hz,q⟩:=h
 obtain ⟨u,rfl,rx⟩:=vals1 r
 cases rx
 obtain ⟨⟨hs,es,ep,t,h1,h2,h3,h4,h5,h6⟩,_⟩:=I.hok _ _ hq
 subst h5
 refine call_len_set h1 ⟨rfl,rfl,rfl⟩ rfl (by unfold SetTable.fits SetTable.fill; rw [h2,h3,h4]; simp; omega) (by omega) ⟨.int _,H,I.tok _,⟨_,rfl⟩,q⟩
end
end D
end
section
namespace D
open PySem PySem.Spec PyProof.Rows L2
section
variable {X:L2.Cx}
noncomputable def Cb (K:PySem.W.Frag) (te:TE):TE:=fun σ H Q=>te σ H λ x H1=>∃(p:Addr) (ys:List V) (tss:List (List Int)),x=.ref p/\SqL K H1 p ys/\Paired (TIs K H1) ys tss/\(∀n0,tss.head?=some n0->∀ns∈tss,HT.lexLt ns n0=false)/\Q (ys.head?.getD .non) H1
theorem vZ {e:Expr} {te:TE} {p pos kpos cpos:Pos} {j:Nat} (hh:X.A.handled=none) (hu:X.A.units+64 < cLine) (hg:Gl X "min") (hm:X.mg "min"=none) (ha:PE X e te) (he:starEach [e] X.env=[(false,eval e X.env)]) :
  PE X (.Call (.Name "min" p) [e] [⟨some "default",.Constant .none j cpos,kpos⟩] pos) (Cb X.K te):=by
 intro pins s σ H Q I h
 refine wpAny_Call_Name_kw (dD (u:=.builtin "min") I hg hm (by decide +kernel) ?_ (by decide +kernel) (by decide +kernel))
 refine callWith_builtin_kwB (by rw [he]; rfl) rfl ?_
 have hp:=bL ha cN he pos pins s σ H (λ vs H1=>match vs with
  | [x]=>∃(p:Addr) (ys:List V) (tss:List (List Int)),x=.ref p/\SqL X.K H1 p ys/\Paired (TIs X.K H1) ys tss/\(∀n0,tss.head?=some n0->∀ns∈tss,HT.lexLt ns n0=false)/\Q (ys.head?.getD .non) H1
  | _=>False) I h
 rw [he] at hp ⊢
 refine evalArgs_kwB rfl (thn hp λ us s1 hz=>?_)
 obtain ⟨vs,H1,I1,rv,hz⟩:=hz
 match vs,hz,rv with
 | [x],hz,rv=>
 obtain ⟨a,ys,tss,rfl,hq,hp,hlt,q⟩:=hz
 refine thn (vn qY zm pos pins s1 σ H1 (λ zs H2=>zs=[.non]/\H2=H1) I1 ⟨rfl,rfl⟩) λ ws s2 hz=>?_
 obtain ⟨zs,H2,I2,rz,rfl,rfl⟩:=hz
 obtain ⟨u,rfl,rx⟩:=vals1 rv
 obtain ⟨z,rfl,rz1⟩:=vals1 rz
 cases rx
 cases rz1
 obtain ⟨its,rvs,pl,_⟩:=I2.list hq
 refine iT (nss:=tss) hh (by omega) pl.isList (by rw [List.size_toArray,<-rvs.length,hp.length]) hlt (λ j ns v h1 h2=>oF I2 rvs hp j ns v h1 h2) λ h' tk hk=>?_
 cases rvs with
 | nil=>exact ⟨.non,H2,I2.kept (t':=tk) hk,rfl,q⟩
 | cons r t=>exact ⟨_,H2,I2.kept (t':=tk) hk,r,q⟩
end
end D
end
section
namespace D
open PySem PySem.Spec PyProof.Rows L2
section
variable {X:L2.Cx} {cl:Cl} {C:D.Cx} {pos:Pos}
theorem sZ (bs:List Bool):((List.range bs.length).any λ i=>bs.getD i true)=bs.any id:=by
 have e:∀(f g:Nat->Bool) (l:List Nat),(∀i∈l,f i=g i)->l.any f=l.any g:=λ f g l h=>by
  induction l with
  | nil=>rfl
  | cons x r ih=>rw [List.any_cons,List.any_cons,h x List.mem_cons_self,ih λ i hi=>h i (List.mem_cons_of_mem _ hi)]
 induction bs with
 | nil=>rfl
 | cons b r ih=>
  rw [List.length_cons,List.range_succ_eq_map,List.any_cons,List.any_map,List.any_cons]
  have:((List.range r.length).any ((λ i=>(b::r).getD i true)∘Nat.succ))=((List.range r.length).any λ i=>r.getD i true):=e _ _ _ λ i _=>by simp
  rw [this,ih]
  rfl
theorem s8 (hh:X.A.handled=none):aZ X (.builtin "any") (λ xs H Q=>∃(p:Addr) (bs:List Bool),xs=[.ref p]/\SqL X.K H p (bs.map V.bl)/\Q (.bl (bs.any id)) H):=by
 intro pins s σ H xs us Q I r h
 obtain ⟨p,bs,rfl,hq,q⟩:=h
 obtain ⟨u,rfl,rx⟩:=vals1 r
 cases rx
 obtain ⟨its,rv,pl,hz⟩:=I.list hq
 have hl:=pl.isList
 have hlt:p < s.heap.objs.size:=by obtain ⟨_,e,_⟩:=hl; exact Heap.lt_size e
 have len:=rv.length
 rw [List.length_map] at len
 refine call_any_walk (wpAny_pyIter_list hl ?_)
 refine ⟨_,_,_,_,_,_,(λ i=>bs.getD i true),rfl,Walks.list (A:=X.A.in1) hh s.heap.objs.size p (Nat.ne_of_lt hlt) its.toArray,⟨⟨_,Heap.get?_push_size _ rfl,rfl,rfl⟩,hl.push _⟩,?_,?_⟩
 ·intro i v s' Q' E' hv hq'
  have hv:its[i]?=some v:=by simpa using hv
  have hi:i < its.length:=(List.getElem?_eq_some_iff.mp hv).1
  have hb:i < bs.length:=by omega
  have e:(bs.map V.bl)[i]?=some (V.bl (bs[i])):=by simp [hb]
  obtain ⟨u,hu,ru⟩:=rv.get e
  rw [hv] at hu
  cases hu
  cases ru
  have:bs.getD i true=bs[i]:=by simp [List.getD,hb]
  dsimp only at hq'
  rw [this] at hq'
  exact wpAny_truthy_bool hq'
 ·intro h' tk hk
  have e:((List.range its.toArray.size).any λ i=>bs.getD i true)=bs.any id:=by
   rw [List.size_toArray,<-len]
   exact sZ bs
  rw [e]
  refine ⟨.bl _,H,I.kept (t':=tk) λ b o eb=>hk b o (λ z=>?_) (Heap.get?_push_of_some _ eb),rfl,q⟩
  rw [List.mem_singleton] at z
  exact Nat.ne_of_lt (Heap.lt_size eb) z
noncomputable def tu:B->Value
 | .len=>.builtin "len" | .abs=>.builtin "abs" | .max=>.builtin "max" | .min=>.builtin "min" | .divmod=>.builtin "divmod" | .all=>.builtin "all" | .any=>.builtin "any"
 | .list=>.type "list" | .tuple=>.type "tuple" | .int=>.type "int" | .sorted=>.builtin "sorted" | .sum=>.builtin "sum" | .repr=>.builtin "repr"
theorem dP {K:PySem.W.Frag} {β:List Addr} {H:Hp} {w:W} {vs:List V} (h:RWs K β H [w] vs):∃v,vs=[v]/\RW K β H w v:=by
 cases h with
 | cons q t=>cases t; exact ⟨_,rfl,q⟩
theorem v7 {K:PySem.W.Frag} {β:List Addr} {H:Hp} {w w':W} {vs:List V} (h:RWs K β H [w,w'] vs):∃v v',vs=[v,v']/\RW K β H w v/\RW K β H w' v':=by
 cases h with
 | cons q t=>obtain ⟨v',rfl,q'⟩:=dP t; exact ⟨_,_,rfl,q,q'⟩
theorem RWs.tups {K:PySem.W.Frag} {β:List Addr} {H:Hp}:∀{ws:List W} {vs:List V} {tss:List (List Int)},RWs K β H ws vs->bT sP ws=some tss->Paired (TIs K H) vs tss
 | _,_,_,.nil,h=>by cases h; exact .nil
 | _,_,_,.cons (w:=w) q t,h=>by
  simp only [bT] at h
  split at h
  ·cases h
  ·rename_i d h1
   split at h
   ·cases h
   ·rename_i ds h2
    cases h
    refine .cons ?_ (t.tups h2)
    cases w with
    | tup xs=>
     cases q with
     | tup hs t'=>
      have:=t'.dJ h1
      subst this
      exact ⟨_,rfl,hs⟩
    | _=>cases h1
set_option maxHeartbeats 2000000 in
theorem tw (hu:UN X cl) (hc:X.calm=true) (hh:X.A.handled=none) (b:B):aZ X (tu b) (SOl X cl (bf b)):=by
 intro pins s σ H xs us Q I rv h
 obtain ⟨β,m,ws,w,m',r,q,e,k⟩:=h
 unfold bf at e
 split at e
 ·split at e
  ·
   split at e
   ·split at e
    ·rename_i hl
     cases e
     obtain ⟨v,rfl,qv⟩:=dP q
     cases qv
     exact jI pins s σ H _ us Q I rv ⟨_,rfl,Nat.le_trans hl br,k _ _ _ Ext.refl r (.int _)⟩
    ·cases e
   ·split at e
    ·rename_i ys e1
     cases e
     obtain ⟨v,rfl,qv⟩:=dP q
     obtain ⟨a,vs,rfl,hs,t⟩:=r.bG qv e1
     exact jH pins s σ H _ us Q I rv ⟨_,_,rfl,hs,k _ _ _ Ext.refl r (by rw [<-t.length]; exact .int _)⟩
    ·cases e
  ·cases e
 ·split at e
  ·
   cases e
   obtain ⟨v,rfl,qv⟩:=dP q
   cases qv
   exact rG pins s σ H _ us Q I rv ⟨_,rfl,k _ _ _ Ext.refl r (.int _)⟩
  ·cases e
 ·split at e
  ·cases e
   obtain ⟨v,v',rfl,qv,qv'⟩:=v7 q
   cases qv; cases qv'
   exact pU hc pins s σ H _ us Q I rv ⟨_,_,rfl,k _ _ _ Ext.refl r (.int _)⟩
  ·cases e
 ·split at e
  ·cases e
   obtain ⟨v,v',rfl,qv,qv'⟩:=v7 q
   cases qv; cases qv'
   exact pV hc pins s σ H _ us Q I rv ⟨_,_,rfl,k _ _ _ Ext.refl r (.int _)⟩
  ·cases e
 ·split at e
  ·split at e
   ·rename_i hd
    cases e
    obtain ⟨v,v',rfl,qv,qv'⟩:=v7 q
    cases qv; cases qv'
    refine kD pins s σ H _ us Q I rv ⟨_,_,rfl,hd,λ p hp=>?_⟩
    obtain ⟨x2,r2⟩:=r.k9 hp [.int _,.int _]
    exact k _ _ _ x2 r2 (.tup (.of aA) (.cons (.int _) (.cons (.int _) .nil)))
   ·cases e
  ·cases e
 ·split at e
  ·
   split at e
   ·rename_i ys e1
    split at e
    ·rename_i bs e2
     cases e
     obtain ⟨v,rfl,qv⟩:=dP q
     obtain ⟨a,vs,rfl,hs,t⟩:=r.getL qv e1
     have z:=t.bools e2
     subst z
     exact se hh pins s σ H _ us Q I rv ⟨_,_,rfl,hs,k _ _ _ Ext.refl r (.bl _)⟩
    ·cases e
   ·cases e
  ·cases e
 ·split at e
  ·split at e
   ·rename_i ys e1
    split at e
    ·rename_i bs e2
     cases e
     obtain ⟨v,rfl,qv⟩:=dP q
     obtain ⟨a,vs,rfl,hs,t⟩:=r.getL qv e1
     have z:=t.bools e2
     subst z
     exact s8 hh pins s σ H _ us Q I rv ⟨_,_,rfl,hs,k _ _ _ Ext.refl r (.bl _)⟩
    ·cases e
   ·cases e
  ·cases e
 ·split at e
  ·
   split at e
   ·rename_i ys e1
    cases e
    obtain ⟨v,rfl,qv⟩:=dP q
    obtain ⟨a,vs,rfl,hs,t⟩:=r.bG qv e1
    refine jJ pins s σ H _ us Q I rv ⟨_,_,rfl,hs,λ p hp=>?_⟩
    obtain ⟨x2,r2⟩:=r.newL hp t
    exact k _ _ _ x2 r2 (.ref (r.last p))
   ·cases e
  ·cases e
 ·split at e
  ·split at e
   ·rename_i ys e1
    cases e
    obtain ⟨v,rfl,qv⟩:=dP q
    obtain ⟨a,vs,rfl,hs,t⟩:=r.bG qv e1
    refine iM pins s σ H _ us Q I rv ⟨_,vs,rfl,?_⟩
    rcases hs with hs | hs
    ·refine .inl ⟨hs,λ p hp=>?_⟩
     obtain ⟨x2,r2⟩:=r.k9 hp vs
     exact k _ _ _ x2 r2 (.tup (.of aA) (t.mono r x2))
    ·exact .inr ⟨hs,k _ _ _ Ext.refl r (.tup hs t)⟩
   ·cases e
  ·cases e
 ·split at e
  ·cases e
   obtain ⟨v,rfl,qv⟩:=dP q
   cases qv
   exact i8 pins s σ H _ us Q I rv (.inl ⟨_,rfl,k _ _ _ Ext.refl r (.int _)⟩)
  ·cases e
   obtain ⟨v,rfl,qv⟩:=dP q
   cases qv
   exact i8 pins s σ H _ us Q I rv (.inr ⟨_,rfl,k _ _ _ Ext.refl r (.int _)⟩)
  ·cases e
 ·split at e
  ·split at e
   ·rename_i d e1
    split at e
    ·rename_i hd
     cases e
     obtain ⟨v,rfl,qv⟩:=dP q
     have z:=cQ r _ qv e1
     simp only [shD,Bool.and_eq_true,Bool.not_eq_true',decide_eq_true_eq] at hd
     obtain ⟨a,rfl⟩:∃a,v=.ref a:=by
      have DO:=hd.1.1.1.1.1
      cases z<;>first | exact ⟨_,rfl⟩ | cases DO
     exact p6 hu.gd hu.un pins s σ H _ us Q I rv ⟨_,d,rfl,z,hd.1.1.1.1.2,hd.1.1.1.2,hd.1.1.2,hd.1.2,hd.2,k _ _ _ Ext.refl r (.str _)⟩
    ·cases e
   ·cases e
  ·cases e
 ·cases e
theorem zZ {x:Str} {b:B} {id:String} {a:Expr} {es:List Expr} {p:Pos} {ds:Es} (hu:UN X cl) (hc:X.calm=true) (hh:X.A.handled=none) (hb:tu b=.builtin id) (hg:Gl X x) (hm:X.mg x=none) (hv:bootBuiltins x=some (.builtin id)) (ha:PA X (a::es) (SA X cl (aH C ds)))
  (hn:x≠"__name__") (hdb:(x==("__debug__":Str))=false) (he:starEach (a::es) X.env=(false,eval a X.env)::starEach es X.env) (hpl:(backTo pos (starEach es X.env)).any (·.1)=false):PE X (.Call (.Name x p) (a::es) [] pos) (SE X cl (evE C (.blt b ds))):=by
 refine PE.imp (gK (hb▸tw (cl:=cl) hu hc hh b) hg hm hv ha hn hdb he hpl) ?_
 rintro σ H Q ⟨β,ρ,m,w,m',r,l,e,k⟩
 simp only [evE] at e
 obtain ⟨x,m1,e1,e⟩:=R.aa e
 exact ⟨β,ρ,m,x,m1,r,l,e1,fun β1 H1 v1 x1 r1 q1=>⟨β1,m1,x,w,m',r1,q1,e,fun β2 H2 v2 x2 r2 q2=>k _ _ _ (x1.trans r1 x2) r2 q2⟩⟩
theorem z6 {x:Str} {b:B} {id:String} {a:Expr} {es:List Expr} {p:Pos} {ds:Es} (hu:UN X cl) (hc:X.calm=true) (hh:X.A.handled=none) (hb:tu b=.type id) (hg:Gl X x) (hm:X.mg x=none) (hv:bootBuiltins x=some (.type id)) (ha:PA X (a::es) (SA X cl (aH C ds)))
  (hn:x≠"__name__") (hdb:(x==("__debug__":Str))=false) (he:starEach (a::es) X.env=(false,eval a X.env)::starEach es X.env) (hpl:(backTo pos (starEach es X.env)).any (·.1)=false):PE X (.Call (.Name x p) (a::es) [] pos) (SE X cl (evE C (.blt b ds))):=by
 refine PE.imp (d7 (hb▸tw (cl:=cl) hu hc hh b) hg hm hv ha hn hdb he hpl) ?_
 rintro σ H Q ⟨β,ρ,m,w,m',r,l,e,k⟩
 simp only [evE] at e
 obtain ⟨x,m1,e1,e⟩:=R.aa e
 exact ⟨β,ρ,m,x,m1,r,l,e1,fun β1 H1 v1 x1 r1 q1=>⟨β1,m1,x,w,m',r1,q1,e,fun β2 H2 v2 x2 r2 q2=>k _ _ _ (x1.trans r1 x2) r2 q2⟩⟩
theorem Rel.tB {K:PySem.W.Frag} {cl:Cl} {β:List Addr} {H:Hp} {m:Mem} (r:Rel K cl β m H) {p:Addr} (hp:H p=none) (o:HO):Ext β H β (upd H p o)/\Rel K cl β m (upd H p o):=by
 have x:Ext β H β (upd H p o):=⟨⟨[],by simp,by simp⟩,λ h _ _=>by rw [ai (aq h hp)]; exact h⟩
 refine ⟨x,r.len,r.nd,λ h1 h2=>?_⟩
 have q:=r.obj h1 h2
 obtain ⟨u,e,_⟩:=q.ex
 exact q.mono r x (ai (aq e hp))
theorem tD {K:PySem.W.Frag} {β:List Addr} {H:Hp} (n:Nat):RWs K β H ((List.range n).map λ i=>W.int (i:Nat)) (L2.upTo n):=by
 unfold L2.upTo
 generalize List.range n=l
 induction l with
 | nil=>exact .nil
 | cons a l ih=>exact .cons (.int _) ih
theorem z7 {a:Expr} {d:E} {p p2 pos2:Pos} (hh:X.A.handled=none) (hg:Gl X "list") (hm:X.mg "list"=none) (hg2:Gl X "range") (hm2:X.mg "range"=none) (ha:PE X a (SE X cl (evE C d))) (he:starEach [a] X.env=[(false,eval a X.env)]) :
  PE X (.Call (.Name "list" p) [.Call (.Name "range" p2) [a] [] pos2] [] pos) (SE X cl (evE C (.lrng d))):=by
 refine PE.imp (d7 (iQ hh) hg hm (by decide +kernel) (bL (d7 sy hg2 hm2 (by decide +kernel) (bL ha cN he) (by decide +kernel) (by decide +kernel) he rfl) cN) (by decide +kernel) (by decide +kernel) rfl rfl) ?_
 rintro σ H Q ⟨β,ρ,m,w,m',r,l,e,k⟩
 simp only [evE] at e
 obtain ⟨x,m1,e1,e⟩:=R.aa e
 split at e
 ·rename_i j
  split at e
  ·rename_i hj
   cases e
   refine ⟨β,ρ,m,.int j,_,r,l,e1,fun β1 H1 v1 x1 r1 q1=>?_⟩
   cases q1
   refine ⟨j,rfl,λ p hp=>?_⟩
   obtain ⟨x2,r2⟩:=r1.tB hp (.rng 0 j)
   refine ⟨p,j.toNat,rfl,by rw [aA,Int.toNat_of_nonneg hj.1],by omega,λ q hq=>?_⟩
   obtain ⟨x3,r3⟩:=r2.newL hq (tD j.toNat)
   exact k _ _ _ ((x1.trans r1 x2).trans r2 x3) r3 (.ref (r2.last q))
  ·cases e
 ·cases e
noncomputable def bE:List String:=["int","bool","str","list","tuple","dict","NoneType"]
theorem nA (K:PySem.W.Frag):∀t∈bE,∀c∈bE,PySem.W.kitOne K (.type t) (.type c)=some (t==c||(t=="bool"&&c=="int")):=by
 intro t ht c hc
 simp only [bE,List.mem_cons,List.not_mem_nil,or_false] at ht hc
 rcases ht with rfl | rfl | rfl | rfl | rfl | rfl | rfl<;>rcases hc with rfl | rfl | rfl | rfl | rfl | rfl | rfl<;>with_unfolding_all rfl
theorem tE {pins:List (Addr×Obj)} {s:Shared} {σ:L2.St} {H:Hp} {a:Addr} {vs:List V} {c:Value} {b:Bool} {A:Around} {Q:Value->Shared->Prop} {E:Value->Shared->Prop} (I:Inv X pins σ H s) (h:SqT X.K H a vs) (e:PySem.W.kitOne X.K (.type "tuple") c=some b) (q:∀tk,Q (.bool b) {s with toks:=tk}) :
  wpAny (model X.prog X.w) A (call (.builtin "isinstance") [.ref a,c]) Q E s:=by
 obtain ⟨its,rv,⟨o,e1,e2,n,e3⟩,hz⟩:=I.tuple h
 exact PySem.W.kia_one PySem.W.kitx_tuple I.kIn ⟨_,e1,e2⟩ e (λ z=>nomatch z) q
theorem lq {pins:List (Addr×Obj)} {s:Shared} {σ:L2.St} {H:Hp} {a:Addr} {vs:List V} {c:Value} {b:Bool} {A:Around} {Q:Value->Shared->Prop} {E:Value->Shared->Prop} (I:Inv X pins σ H s) (h:SqL X.K H a vs) (e:PySem.W.kitOne X.K (.type "list") c=some b) (q:∀tk,Q (.bool b) {s with toks:=tk}) :
  wpAny (model X.prog X.w) A (call (.builtin "isinstance") [.ref a,c]) Q E s:=by
 obtain ⟨its,rv,⟨o,n,e1,e2,e3,e4⟩,hz⟩:=I.list h
 exact PySem.W.kia_one PySem.W.kitx_list I.kIn ⟨_,e1,e2⟩ e (λ z=>nomatch z) q
theorem z8 {t:String} (ht:t∈bE):aZ X (.builtin "isinstance") (λ xs H Q=>∃x,xs=[x,.ty t]/\∃β m w b,Rel X.K cl β m H/\RW X.K β H w x/\gu m t w=some b/\Q (.bl b) H):=by
 intro pins s σ H xs us Q I rv h
 obtain ⟨x,rfl,β,m,w,b,r,q,e,k⟩:=h
 obtain ⟨u,u',rfl,r1,r2⟩:=vals2 rv
 cases r2
 have fin:∀tk,EP X pins σ Q (.bool b) {s with toks:=tk}:=λ tk=>⟨.bl b,H,I.tok tk,rfl,k⟩
 cases q with
 | non=>simp only [gu] at e; exact dZ I r1 .non (by rw [nA _ _ (by decide) _ ht,<-e]; simp only [bE,List.mem_cons,List.not_mem_nil,or_false] at ht; rcases ht with rfl | rfl | rfl | rfl | rfl | rfl | rfl<;>rfl) fin
 | bl c=>simp only [gu] at e; exact dZ I r1 (.bl c) (by rw [nA _ _ (by decide) _ ht,<-e]; simp only [bE,List.mem_cons,List.not_mem_nil,or_false] at ht; rcases ht with rfl | rfl | rfl | rfl | rfl | rfl | rfl<;>rfl) fin
 | int i=>simp only [gu] at e; exact dZ I r1 (.int i) (by rw [nA _ _ (by decide) _ ht,<-e]; simp only [bE,List.mem_cons,List.not_mem_nil,or_false] at ht; rcases ht with rfl | rfl | rfl | rfl | rfl | rfl | rfl<;>rfl) fin
 | str y=>simp only [gu] at e; exact dZ I r1 (.str y) (by rw [nA _ _ (by decide) _ ht,<-e]; simp only [bE,List.mem_cons,List.not_mem_nil,or_false] at ht; rcases ht with rfl | rfl | rfl | rfl | rfl | rfl | rfl<;>rfl) fin
 | tup h tt=>
  simp only [gu] at e
  cases r1
  exact tE I h (by rw [nA _ _ (by decide) _ ht,<-e]; simp only [bE,List.mem_cons,List.not_mem_nil,or_false] at ht; rcases ht with rfl | rfl | rfl | rfl | rfl | rfl | rfl<;>rfl) fin
 | fz h tt=>
  simp only [gu] at e
  cases r1
  exact lq I h.l (by rw [nA _ _ (by decide) _ ht,<-e]; simp only [bE,List.mem_cons,List.not_mem_nil,or_false] at ht; rcases ht with rfl | rfl | rfl | rfl | rfl | rfl | rfl<;>rfl) fin
 | obj h e0 tt=>simp only [gu] at e; cases e
 | ref h=>
  simp only [gu] at e
  cases r1
  rename_i n0 a0
  have go:∀{vs:List V},SqL X.K H a0 vs->some (t=="list")=some b->wpAny (model X.prog X.w) X.A (call (.builtin "isinstance") [.ref a0,.type t]) (EP X pins σ Q) X.xe s:=λ {vs} hs e=>lq (A:=X.A) (E:=X.xe) I hs (c:=.type t) (b:=b) (by rw [nA _ _ (by decide) _ ht,<-e]; simp only [bE,List.mem_cons,List.not_mem_nil,or_false] at ht; rcases ht with rfl | rfl | rfl | rfl | rfl | rfl | rfl<;>rfl) fin
  split at e
  ·rename_i xs e1
   obtain ⟨vs,z,_⟩:=r.obj e1 h
   exact go (.inl (.inl z)) e
  ·cases e
theorem Cd {a:Expr} {d:E} {t:Str} {tn:String} {p p2:Pos} (ht:tn∈bE) (hg:Gl X "isinstance") (hm:X.mg "isinstance"=none) (hg2:Gl X t) (hm2:X.mg t=none) (hb2:bootBuiltins t=some (.type tn)) (ha:PE X a (SE X cl (evE C d)))
  (hn:t≠"__name__") (hdb:(t==("__debug__":Str))=false) (he:starEach [a,.Name t p2] X.env=(false,eval a X.env)::starEach [.Name t p2] X.env):PE X (.Call (.Name "isinstance" p) [a,.Name t p2] [] pos) (SE X cl (evE C (.isI d tn))):=by
 refine PE.imp (gK (z8 (cl:=cl) ht) hg hm (by decide +kernel) (bL ha (bL (uV (v:=.ty tn) (u:=.type tn) hg2 hm2 hb2 rfl hn hdb) cN) he) (by decide +kernel) (by decide +kernel) he rfl) ?_
 rintro σ H Q ⟨β,ρ,m,w,m',r,l,e,k⟩
 simp only [evE] at e
 obtain ⟨x,m1,e1,e⟩:=R.aa e
 split at e
 ·rename_i b e2
  cases e
  exact ⟨β,ρ,m,x,_,r,l,e1,fun β1 H1 v1 x1 r1 q1=>⟨v1,rfl,β1,_,x,b,r1,q1,e2,k _ _ _ x1 r1 (.bl b)⟩⟩
 ·cases e
noncomputable def SM (X:L2.Cx) (cl:Cl) (name:String):V->List V->Hp->VK->Prop:=λ x xs H Q=>∃β m wx ws w m',Rel X.K cl β m H/\RW X.K β H wx x/\RWs X.K β H ws xs/\aM wx name ws m=.ok w m'/\∀β' H' v,Ext β H β' H'->Rel X.K cl β' m' H'->RW X.K β' H' w v->Q v H'
theorem v8 {name:String} (h:kdM name=.lst):¬name="join"/\¬name="index"/\¬name="add":=by
 unfold kdM at h
 split at h
 ·cases h
 ·rename_i h1
  split at h
  ·cases h
  ·rename_i h2
   exact ⟨λ z=>h1 (.inl z),λ z=>h1 (.inr z),h2⟩
theorem cX {o:W} {name:String} {ws:List W} {m m':Mem} {w:W} (hn:kdM name=.lst) (e:aM o name ws m=.ok w m'):∃n ys,o=.ref n/\m[n]?=some (.lst ys)/\bY n ys name ws m=.ok w m':=by
 obtain ⟨h1,h2,h3⟩:=v8 hn
 unfold aM at e
 split at e
 ·split at e
  ·rename_i n _ ys e1
   exact ⟨_,_,rfl,e1,e⟩
  ·simp only [ee,h3,if_false] at e; cases e
  ·cases e
 ·simp only [kY,h1,h2,if_false] at e; cases e
 ·cases e
theorem qC:MtR X "list.append" (SM X cl "append"):=by
 intro pins s σ H x xs v us Q I rx rv h
 obtain ⟨β,m,wx,ws,w,m',r,qx,qs,e,k⟩:=h
 obtain ⟨n,ys,rfl,e0,e⟩:=cX (by decide) e
 simp only [bY,if_pos] at e
 unfold fm at e
 split at e
 ·split at e
  ·rename_i hl
   cases e
   obtain ⟨a,vs,rfl,hb,ha,t⟩:=r.lst qx e0
   obtain ⟨v1,rfl,q1⟩:=dP qs
   obtain ⟨x2,r2⟩:=r.nu e0 hb (t.append (.cons q1 .nil))
   exact je pins s σ H _ _ v us Q I rx rv ⟨_,_,_,rfl,rfl,ha,Nat.lt_of_lt_of_le (by rw [<-t.length]; exact hl) br,k _ _ _ x2 r2 .non⟩
  ·cases e
 ·cases e
theorem tF:MtR X "list.clear" (SM X cl "clear"):=by
 intro pins s σ H x xs v us Q I rx rv h
 obtain ⟨β,m,wx,ws,w,m',r,qx,qs,e,k⟩:=h
 obtain ⟨n,ys,rfl,e0,e⟩:=cX (by decide) e
 simp only [bY,if_pos,String.reduceEq,if_false] at e
 unfold oz at e
 split at e
 ·cases e
  obtain ⟨a,vs,rfl,hb,ha,t⟩:=r.lst qx e0
  cases qs
  obtain ⟨x2,r2⟩:=r.nu e0 hb .nil
  exact rV pins s σ H _ _ v us Q I rx rv ⟨_,_,rfl,rfl,ha,k _ _ _ x2 r2 .non⟩
 ·cases e
theorem nB:MtR X "list.reverse" (SM X cl "reverse"):=by
 intro pins s σ H x xs v us Q I rx rv h
 obtain ⟨β,m,wx,ws,w,m',r,qx,qs,e,k⟩:=h
 obtain ⟨n,ys,rfl,e0,e⟩:=cX (by decide) e
 simp only [bY,if_pos,String.reduceEq,if_false] at e
 unfold jl at e
 split at e
 ·cases e
  obtain ⟨a,vs,rfl,hb,ha,t⟩:=r.lst qx e0
  cases qs
  obtain ⟨x2,r2⟩:=r.nu e0 hb t.reverse
  exact mT pins s σ H _ _ v us Q I rx rv ⟨_,_,rfl,rfl,ha,k _ _ _ x2 r2 .non⟩
 ·cases e
theorem z9:MtR X "list.pop" (SM X cl "pop"):=by
 intro pins s σ H x xs v us Q I rx rv h
 obtain ⟨β,m,wx,ws,w,m',r,qx,qs,e,k⟩:=h
 obtain ⟨n,ys,rfl,e0,e⟩:=cX (by decide) e
 simp only [bY,if_pos,String.reduceEq,if_false] at e
 unfold oA at e
 obtain ⟨a,vs,rfl,hb,ha,t⟩:=r.lst qx e0
 split at e
 ·split at e
  ·rename_i y e1
   cases e
   cases qs
   obtain ⟨z,e2,qz⟩:=t.get e1
   obtain ⟨x2,r2⟩:=r.nu e0 hb t.dropLast
   exact zx pins s σ H _ _ v us Q I rx rv ⟨_,_,_,rfl,rfl,ha,by rw [<-t.length]; exact e2,k _ _ _ x2 r2 (qz.mono r x2)⟩
  ·cases e
 ·split at e
  ·rename_i hi
   split at e
   ·rename_i kk e3
    split at e
    ·rename_i y e1
     cases e
     obtain ⟨v1,rfl,q1⟩:=dP qs
     cases q1
     obtain ⟨z,e2,qz⟩:=t.get e1
     obtain ⟨x2,r2⟩:=r.nu e0 hb (t.eraseIdx kk)
     exact rS pins s σ H _ _ v us Q I rx rv ⟨_,_,_,kk,_,rfl,rfl,ha,hi.1,hi.2,by rw [<-t.length]; exact e3,e2,k _ _ _ x2 r2 (qz.mono r x2)⟩
    ·cases e
   ·cases e
  ·cases e
 ·cases e
theorem RWs.strs {K:PySem.W.Frag} {β:List Addr} {H:Hp}:∀{ws:List W} {vs:List V} {ss:List Str},RWs K β H ws vs->cK ws=some ss->vs=ss.map V.str
 | [],_,_,.nil,h=>by cases h; rfl
 | w::ws,_,ss,.cons q t,h=>by
  cases w with
  | str z=>
   simp only [cK,Option.map_eq_some_iff] at h
   obtain ⟨ss',h1,rfl⟩:=h
   cases q
   rw [t.strs h1]
   rfl
  | _=>cases h
theorem tG:MtR X "list.count" (SM X cl "count"):=by
 intro pins s σ H x xs v us Q I rx rv h
 obtain ⟨β,m,wx,ws,w,m',r,qx,qs,e,k⟩:=h
 obtain ⟨n,ys,rfl,e0,e⟩:=cX (by decide) e
 simp only [bY,if_pos,String.reduceEq,if_false] at e
 unfold jN at e
 split at e
 ·split at e
  ·rename_i z _
   split at e
   ·rename_i ss e1
    cases e
    obtain ⟨a,vs,rfl,hb,ha,t⟩:=r.lst qx e0
    have hv:=t.strs e1
    subst hv
    obtain ⟨v1,rfl,q1⟩:=dP qs
    cases q1
    refine sj pins s σ H _ _ v us Q I rx rv ⟨_,_,_,rfl,rfl,ha,rfl,?_,?_⟩
    ·rw [List.all_map]; exact List.all_eq_true.mpr λ _ _=>rfl
    ·have:((ss.map V.str).countP λ y=>eqV y (.str z))=ss.count z:=by
      rw [List.countP_map,List.count]
      rfl
     rw [this]
     exact k _ _ _ Ext.refl r (.int _)
   ·cases e
  ·cases e
 ·cases e
theorem qD:MtR X "list.insert" (SM X cl "insert"):=by
 intro pins s σ H x xs v us Q I rx rv h
 obtain ⟨β,m,wx,ws,w,m',r,qx,qs,e,k⟩:=h
 obtain ⟨n,ys,rfl,e0,e⟩:=cX (by decide) e
 simp only [bY,if_pos,String.reduceEq,if_false] at e
 unfold fq at e
 obtain ⟨a,vs,rfl,hb,ha,t⟩:=r.lst qx e0
 split at e
 ·split at e
  ·rename_i hl
   cases e
   obtain ⟨v1,v2,rfl,q1,q2⟩:=v7 qs
   cases q1
   obtain ⟨x2,r2⟩:=r.nu e0 hb (((t.take _).append (.cons q2 .nil)).append (t.drop _))
   exact p7 pins s σ H _ _ v us Q I rx rv ⟨_,_,_,_,rfl,rfl,ha,hl.1,by rw [<-t.length]; exact hl.2.1,Nat.lt_of_lt_of_le (by rw [<-t.length]; exact hl.2.2) br,k _ _ _ x2 r2 .non⟩
  ·cases e
 ·cases e
theorem ly {o:W} {name:String} {ws:List W} {m m':Mem} {w:W} (hn:kdM name=.str) (e:aM o name ws m=.ok w m'):∃z,o=.str z/\kY z name ws m=.ok w m':=by
 have hj:name="join"\/name="index":=by
  unfold kdM at hn
  split at hn
  ·assumption
  ·split at hn<;>cases hn
 unfold aM at e
 split at e
 ·split at e
  ·rcases hj with rfl | rfl<;>(simp only [bY,String.reduceEq,if_false] at e; cases e)
  ·rcases hj with rfl | rfl<;>(simp only [ee,String.reduceEq,if_false] at e; cases e)
  ·cases e
 ·exact ⟨_,rfl,e⟩
 ·cases e
theorem RWs.cK {K:PySem.W.Frag} {β:List Addr} {H:Hp}:∀{ws:List W} {vs:List V} {ns:List Str},RWs K β H ws vs->D.cK ws=some ns->vs=ns.map V.str
 | _,_,_,.nil,h=>by cases h; rfl
 | _,_,_,.cons (w:=w) q t,h=>by
  cases w with
  | str i=>
   simp only [D.cK,Option.map_eq_some_iff] at h
   obtain ⟨r,h1,rfl⟩:=h
   cases q
   rw [t.cK h1]; rfl
  | _=>cases h
theorem v9:MtR X "str.join" (SM X cl "join"):=by
 intro pins s σ H x xs v us Q I rx rv h
 obtain ⟨β,m,wx,ws,w,m',r,qx,qs,e,k⟩:=h
 obtain ⟨z,rfl,e⟩:=ly (by decide) e
 replace e:jO z ws m=.ok w m':=e
 unfold jO at e
 split at e
 ·split at e
  ·rename_i ys e1
   split at e
   ·rename_i ss e2
    split at e
    ·rename_i hl
     cases e; cases qx
     obtain ⟨v1,rfl,q1⟩:=dP qs
     obtain ⟨a,vs,rfl,hs,t⟩:=r.getL q1 e1
     have z1:=t.cK e2
     subst z1
     exact vJ pins s σ H _ _ v us Q I rx rv ⟨_,_,_,rfl,rfl,hs,hl,k _ _ _ Ext.refl r (.str _)⟩
    ·cases e
   ·cases e
  ·cases e
 ·cases e
theorem qE:MtR X "str.index" (SM X cl "index"):=by
 intro pins s σ H x xs v us Q I rx rv h
 obtain ⟨β,m,wx,ws,w,m',r,qx,qs,e,k⟩:=h
 obtain ⟨z,rfl,e⟩:=ly (by decide) e
 replace e:g6 z ws m=.ok w m':=e
 unfold g6 at e
 split at e
 ·rename_i _ y _
  split at e
  ·rename_i p e1
   cases e; cases qx
   obtain ⟨v1,rfl,q1⟩:=dP qs
   cases q1
   obtain ⟨t,rfl⟩:=rx
   obtain ⟨u,rfl,t2,rfl⟩:=Vals.one rv
   cases ho:Builtin.Str.occurrences z y 0 z.length 1 with
   | nil=>rw [ho] at e1; cases e1
   | cons i rest=>
    rw [ho] at e1
    cases e1
    exact SC.index ho ⟨.int _,H,I.tok _,⟨_,rfl⟩,k _ _ _ Ext.refl r (.int _)⟩
  ·cases e
 ·cases e
theorem tH {o:W} {ws:List W} {m m':Mem} {w:W} (e:aM o "add" ws m=.ok w m'):∃n ks,o=.ref n/\m[n]?=some (.set ks)/\ee n ks "add" ws m=.ok w m':=by
 unfold aM at e
 split at e
 ·split at e
  ·simp only [bY,String.reduceEq,if_false] at e; cases e
  ·rename_i n _ ks e1
   exact ⟨_,_,rfl,e1,e⟩
  ·cases e
 ·simp only [kY,String.reduceEq,if_false] at e; cases e
 ·cases e
theorem Rel.DP {K:PySem.W.Frag} {cl:Cl} {β:List Addr} {H:Hp} {m:Mem} {a:Addr} (r:Rel K cl β m H) {n:Nat} {o:O} {ks:List L2.Key} {S:L2.Key->Bool} (hm:m[n]?=some o) (hb:β[n]?=some a) (q:∀k,S k=gZ k ks) :
  Ext β H β (upd H a (gW cl.P cl.w a S ks.length))/\Rel K cl β (m.set n (.set ks)) (upd H a (gW cl.P cl.w a S ks.length)):=by
 have ha:a∈β:=List.mem_of_getElem? hb
 have x:Ext β H β (upd H a (gW cl.P cl.w a S ks.length)):=⟨⟨[],by simp,by simp⟩,λ {b u} h hn _=>by rw [ai (show b≠a from λ z=>hn (by rw [z]; exact ha))]; exact h⟩
 refine ⟨x,by simp [r.len],r.nd,λ {k o' b} h1 h2=>?_⟩
 by_cases hk:n=k
 ·subst hk
  rw [hb] at h2; cases h2
  rw [List.getElem?_set_self (List.getElem?_eq_some_iff.mp hm).1] at h1
  cases h1
  exact ⟨S,aA,q⟩
 ·rw [List.getElem?_set_ne hk] at h1
  have q':=r.obj h1 h2
  refine q'.mono r x (ai ?_)
  rintro rfl
  obtain ⟨h3,e3⟩:=List.getElem?_eq_some_iff.mp h2
  obtain ⟨h4,e4⟩:=List.getElem?_eq_some_iff.mp hb
  exact hk ((List.getElem_inj r.nd).mp (e4.trans e3.symm))
theorem Aa (hu:UN X cl):MtR X "set.add" (SM X cl "add"):=by
 intro pins s σ H x xs v us Q I rx rv h
 obtain ⟨β,m,wx,ws,w,m',r,qx,qs,e,k⟩:=h
 obtain ⟨n,ks,rfl,e0,e⟩:=tH e
 simp only [ee,if_pos] at e
 unfold sU at e
 split at e
 ·split at e
  ·rename_i kk e1
   split at e
   ·rename_i hl
    cases e
    obtain ⟨v1,rfl,q1⟩:=dP qs
    have z:=lg q1 e1
    subst z
    cases qx with
    | ref hb=>
     obtain ⟨S,hS,hk⟩:=r.obj e0 hb
     have hS':=hS
     rw [hu.P,hu.w] at hS'
     refine mW pins s σ H _ _ v us Q I rx rv ⟨_,S,_,kk,rfl,rfl,hS',hl,?_⟩
     have hk':∀j,(S j||decide (j=kk))=gZ j (if gZ kk ks then ks else ks++[kk]):=λ j=>by
      rw [hk]
      split
      ·rename_i hm
       cases hd:decide (j=kk) with
       | false=>simp
       | true=>
        have:=of_decide_eq_true hd
        subst this
        simp [hm]
      ·simp only [gZ,List.any_append,List.any_cons,List.any_nil,Bool.or_false]
       congr 1
       exact decide_eq_decide.mpr eq_comm
     obtain ⟨x2,r2⟩:=r.DP e0 hb hk'
     have hlen:(if gZ kk ks then ks else ks++[kk]).length=if S kk then ks.length else ks.length+1:=by
      rw [hk]; split<;>simp
     rw [hlen,hu.P,hu.w] at x2 r2
     exact k _ _ _ x2 r2 .non
   ·cases e
  ·cases e
 ·cases e
noncomputable def TyG (X:L2.Cx) (T:String) (x:V) (H:Hp):Prop:=∀(pins:List (Addr×Obj)) (s:Shared) (σ:L2.St) (v:Value),Inv X pins σ H s->RelV x v->s.TypeIs v T/\∀a,v=.ref a->∃ob,s.heap.get? a=some ob/\ob.dict=none
noncomputable def kdT:Kd->String
 | .lst=>"list" | .str=>"str" | .set=>"set" | .no=>""
theorem xT {β:List Addr} {m:Mem} {H:Hp} {w:W} {v:V} {kd:Kd} (r:Rel X.K cl β m H) (q:RW X.K β H w v) (hk:kd≠.no) (e:kdOf m w=kd):TyG X (kdT kd) v H:=by
 intro pins s σ u I rv
 cases q with
 | ref h=>
  simp only [kdOf] at e
  split at e
  ·rename_i ws e1
   obtain ⟨vs,z,_⟩:=r.obj e1 h
   subst e
   exact rR (T:="list") I rv (.inl ⟨rfl,_,.inl (.inl z)⟩)
  ·rename_i ks e1
   subst e
   obtain ⟨S,z,_⟩:=r.obj e1 h
   cases rv
   obtain ⟨⟨o,_,_,_,e,ex,_⟩,_⟩:=I.hok _ _ z
   refine ⟨⟨o,e,ex.1⟩,λ a e2=>?_⟩
   cases e2
   exact ⟨o,e,ex.2.1⟩
  ·exact absurd e.symm hk
 | str x=>
  simp only [kdOf] at e
  subst e
  exact rR (T:="str") I rv rfl
 | _=>exact absurd (by simpa [kdOf] using e.symm) hk
section
variable {o:Expr} {d:E} {name:Str} {nm id:String} {apos:Pos}
theorem wc {T:String} (hT:T=kdT (kdM nm)) (pa:PlainAttrs T) (slot:Slot T name id) (hty:typeOf (.builtin id)=pure (.type "method_descriptor")) (hm:MtR X id (SM X cl nm)) (ho:PE X o (SE X cl (evE C d)))
  (hbase:attributeBase o name X.env (eval o X.env)=eval o X.env) (hline:(apos.endLine==pos.line)=true):PE X (.Call (.Attribute o name apos) [] [] pos) (SE X cl (evE C (.meth d nm .nil))):=by
 intro pins s σ H Q I h
 refine wpAny_Call_method0_late hbase hline ?_
 obtain ⟨β,ρ,m,w,m',r,l,e,k⟩:=h
 simp only [evE] at e
 obtain ⟨x,m1,e1,e⟩:=R.aa e
 refine thn (ho pins s σ H (λ v H1=>TyG X T v H1/\SM X cl nm v [] H1 Q) I ⟨β,ρ,m,x,m1,r,l,e1,fun β1 H1 v1 x1 r1 q1=>?_⟩) λ v s1 ⟨x,H1,I1,r1,ty,q1⟩=>?_
 ·split at e
  ·rename_i hk
   simp only [aH,R.bind] at e
   exact ⟨by rw [hT]; exact xT r1 q1 (by unfold kdM; split<;>(try split)<;>(intro z; cases z)) hk,β1,m1,x,[],w,m',r1,q1,.nil,e,fun β2 H2 v2 x2 r2 q2=>k _ _ _ (x1.trans r1 x2) r2 q2⟩
  ·cases e
 ·obtain ⟨h1,h2⟩:=ty pins s1 σ v I1 r1
  exact ⟨T,id,pa,slot,hty,h1,h2,Calls.callWith_builtin rfl (PySem.evalArgs_none (hm pins s1 σ H1 x [] v [] Q I1 r1 .nil q1))⟩
theorem Ab {T:String} {a:Expr} {es:List Expr} {ds:Es} (hT:T=kdT (kdM nm)) (pa:PlainAttrs T) (slot:Slot T name id) (hty:typeOf (.builtin id)=pure (.type "method_descriptor")) (hm:MtR X id (SM X cl nm)) (ho:PE X o (SE X cl (evE C d))) (ha:PA X (a::es) (SA X cl (aH C ds)))
  (hbase:attributeBase o name X.env (eval o X.env)=eval o X.env)
  (hfew:((backTo pos (starEach (a::es) X.env)).all (λ x=>!x.1)&&(backToKw pos (keywordEach [] X.env)).all (λ x=>x.1.isSome)
   && decide ((a::es).length+([]:List Keyword).length+(if ([]:List Keyword).isEmpty then 0 else 1) < 30))=true)
  (hline:(apos.endLine==pos.line)=true) (hs:starEach (a::es) X.env=(false,eval a X.env)::starEach es X.env) (hplain:(backTo pos (starEach es X.env)).any (·.1)=false):PE X (.Call (.Attribute o name apos) (a::es) [] pos) (SE X cl (evE C (.meth d nm ds))):=by
 intro pins s σ H Q I h
 refine wpAny_Call_method_late hbase hfew hline rfl ?_
 obtain ⟨β,ρ,m,w,m',r,l,e,k⟩:=h
 simp only [evE] at e
 obtain ⟨x,m1,e1,e⟩:=R.aa e
 refine thn (ho pins s σ H (λ v H1=>TyG X T v H1/\SA X cl (aH C ds) σ H1 λ xs H2=>SM X cl nm v xs H2 Q) I ⟨β,ρ,m,x,m1,r,l,e1,fun β1 H1 v1 x1 r1 q1=>?_⟩) λ v s1 ⟨x,H1,I1,r1,ty,q1⟩=>?_
 ·split at e
  ·rename_i hk
   obtain ⟨ws,m2,e2,e⟩:=R.aa e
   exact ⟨by rw [hT]; exact xT r1 q1 (by unfold kdM; split<;>(try split)<;>(intro z; cases z)) hk,β1,ρ,m1,ws,m2,r1,l.mono r x1,e2,fun β2 H2 v2 x2 r2 q2=>
    ⟨β2,m2,x,ws,w,m',r2,q1.mono r1 x2,q2,e,fun β3 H3 v3 x3 r3 q3=>k _ _ _ ((x1.trans r1 x2).trans r2 x3) r3 q3⟩⟩
  ·cases e
 ·obtain ⟨h1,h2⟩:=ty pins s1 σ v I1 r1
  refine ⟨T,id,pa,slot,hty,h1,h2,?_⟩
  have hA:=ha pos pins s1 σ H1 _ I1 q1
  rw [hs] at hA ⊢
  refine Calls.callWith_builtin (by show (false||(backTo pos (starEach es X.env)).any (·.1))=false; rw [hplain]<;>rfl) (Calls.evalArgs_plain ?_)
  exact thn hA λ us s2 ⟨vs,H2,I2,r2,q2⟩=>hm pins s2 σ H2 x vs v us Q I2 r1 r2 q2
end
theorem Ac {p:Pos} (hu:UN X cl) (hg:Gl X "set") (hm:X.mg "set"=none):PE X (.Call (.Name "set" p) [] [] pos) (SE X cl (evE C .set0)):=by
 refine PE.imp (mJ qb hg hm (by decide +kernel) (by decide +kernel) (by decide +kernel)) ?_
 rintro σ H Q ⟨β,ρ,m,w,m',r,l,e,k⟩
 simp only [evE,new] at e
 cases e
 refine ⟨rfl,λ p hp=>?_⟩
 have:=r.zS (o:=.set []) (ho:=gW cl.P cl.w p (λ _=>false) 0) hp λ x=>⟨_,aA,λ _=>rfl⟩
 rw [hu.P,hu.w] at this
 exact k _ _ _ this.1 this.2 (.ref (r.last p))
noncomputable def spD (K:PySem.W.Frag) (cl:Cl) (np:Nat) (f:List W->Mem->R W):Sp:=λ vs H Q _=>vs.length=np/\∃β m ws w m',Rel K cl β m H/\RWs K β H ws vs/\f ws m=.ok w m'/\∀β' H' v,Ext β H β' H'->Rel K cl β' m' H'->RW K β' H' w v->Q v H'
theorem s_call {k f:Nat} {fa:Addr} {fd:FuncData} {ps:List Str} {x:Str} {p:Pos} {a:Expr} {es:List Expr} {ds:Es} (F:cV X.prog X.w X.K X.mg X.base CX0 k fa fd ps (spD X.K cl ps.length (C.call f))) (hr:bR k X.A) (hg:Gl X x) (hm:X.mg x=some (.ref fa)) (hk:PySem.W.keepIn X.K (.ref fa)=true) (hb:Binds X.K fd ps [])
  (ha:PA X (a::es) (SA X cl (aH C ds))) (hl:∀ρ m ws m',aH C ds ρ m=.ok ws m'->ws.length=ps.length) (hdb:(x==("__debug__":Str))=false) (he:starEach (a::es) X.env=(false,eval a X.env)::starEach es X.env) (hpl:(backTo pos (starEach es X.env)).any (·.1)=false) :
  PE X (.Call (.Name x p) (a::es) [] pos) (SE X cl (evE C (.call f ds))):=by
 refine PE.imp (vj F hr hg hm hk hb .nil kO ha hdb he hpl) ?_
 rintro σ H Q ⟨β,ρ,m,w,m',r,l,e,k⟩
 simp only [evE] at e
 obtain ⟨x,m1,e1,e⟩:=R.aa e
 refine ⟨β,ρ,m,x,m1,r,l,e1,fun β1 H1 v1 x1 r1 q1=>⟨?_,β1,m1,x,w,m',r1,by rw [List.append_nil]; exact q1,e,fun β2 H2 v2 x2 r2 q2=>k _ _ _ (x1.trans r1 x2) r2 q2⟩⟩
 rw [List.append_nil,<-q1.length]
 exact hl _ _ _ _ e1
end
end D
end
section
namespace D
open PySem PySem.Spec PyProof.Rows L2
section
variable (X:L2.Cx) (cl:Cl)
noncomputable def IS (J:It) (src:Src) (β0:List Addr) (H0:Hp):Prop:=∀(β:List Addr) (m:Mem) (H:Hp) (i:Nat),(∃γ,β=β0++γ)->(∀{a:Addr} {vs:List V},SqT X.K H0 a vs->SqT X.K H a vs)->(∀{a:Addr} {o:Obj} {u:HO},H0 a=some (.frz o u)->H a=some (.frz o u))->Rel X.K cl β m H->
 (∀w,src.get m i=.it w->J.go i H/\∀x H',J.yld i H x H'->Ext β H β H'/\Rel X.K cl β m H'/\RW X.K β H' w x)/\(src.get m i=.fin->J.stop i H)
noncomputable def SI (ev:Loc->Mem->R Src):TI:=fun σ H Rr=>∃β ρ m src m',Rel X.K cl β m H/\RL X.K β H ρ σ/\ev ρ m=.ok src m'/\∀β' H' J,Ext β H β' H'->Rel X.K cl β' m' H'->IS X cl J src β' H'->Rr J H'
noncomputable def SG (ev:W->Loc->Mem->R Loc):TG:=λ v σ H Q=>∃β ρ m w ρ' m',Rel X.K cl β m H/\RL X.K β H ρ σ/\RW X.K β H w v/\ev w ρ m=.ok ρ' m'/\∀β' H' σ',Ext β H β' H'->Rel X.K cl β' m' H'->RL X.K β' H' ρ' σ'->Q σ' H'
noncomputable def SGs (ev:List W->Loc->Mem->R Loc):TGs:=λ vs σ H Q=>∃β ρ m ws ρ' m',Rel X.K cl β m H/\RL X.K β H ρ σ/\RWs X.K β H ws vs/\ev ws ρ m=.ok ρ' m'/\∀β' H' σ',Ext β H β' H'->Rel X.K cl β' m' H'->RL X.K β' H' ρ' σ'->Q σ' H'
noncomputable def DQ (D:Ends) (β:List Addr) (H:Hp):F->Prop
 | .nx ρ=>∀σ,RL X.K β H ρ σ->D.nx σ H
 | .rt w=>∀v,RW X.K β H w v->D.rt v H
 | .bk ρ=>∀σ,RL X.K β H ρ σ->D.bk σ H
 | .ct ρ=>∀σ,RL X.K β H ρ σ->D.ct σ H
noncomputable def SS (ev:Loc->Mem->R F):TS:=λ D σ H=>∃β ρ m f m',Rel X.K cl β m H/\RL X.K β H ρ σ/\ev ρ m=.ok f m'/\∀β' H',Ext β H β' H'->Rel X.K cl β' m' H'->DQ X D β' H' f
end
theorem PI.imp {X:L2.Cx} {tg e:Expr} {t t':TI} (h:PI X tg e t) (i:∀σ H R,t' σ H R->t σ H R):PI X tg e t':=λ pins s σ H R I q=>h pins s σ H R I (i σ H R q)
theorem PI.or {X:L2.Cx} {tg e:Expr} {t t':TI} (h:PI X tg e t) (h':PI X tg e t'):PI X tg e (fun σ H R=>t σ H R\/t' σ H R):=λ pins s σ H R I q=>q.elim (h pins s σ H R I) (h' pins s σ H R I)
theorem PG.imp {X:L2.Cx} {e:Expr} {t t':TG} (h:PG X e t) (i:∀v σ H Q,t' v σ H Q->t v σ H Q):PG X e t':=λ pins s σ H v u Q I r q=>h pins s σ H v u Q I r (i v σ H Q q)
theorem PGs.imp {X:L2.Cx} {e:List Expr} {t t':TGs} (h:PGs X e t) (i:∀v σ H Q,t' v σ H Q->t v σ H Q):PGs X e t':=λ pins s σ H v u Q I r q=>h pins s σ H v u Q I r (i v σ H Q q)
theorem PS.imp {X:L2.Cx} {e:Stmt} {t t':TS} (h:PS X e t) (i:∀D σ H,t' D σ H->t D σ H):PS X e t':=λ pins s σ H D I q=>h pins s σ H D I (i D σ H q)
theorem PSs.imp {X:L2.Cx} {e:List Stmt} {t t':TS} (h:PSs X e t) (i:∀D σ H,t' D σ H->t D σ H):PSs X e t':=λ pins s σ H D I q=>h pins s σ H D I (i D σ H q)
section
variable {X:L2.Cx} {cl:Cl} {C:D.Cx} {pos:Pos}
theorem SqF.keep {K:PySem.W.Frag} {H H':Hp} (hf:∀{a:Addr} {o:Obj} {u:HO},H a=some (.frz o u)->H' a=some (.frz o u)) {a:Addr} {vs:List V} (h:SqF K H a vs):SqF K H' a vs:=
 h.elim (λ ⟨o,e⟩=>.inl ⟨o,hf e⟩) .inr
theorem RW.keep {K:PySem.W.Frag} {β β':List Addr} {H H':Hp} (hb:∃γ,β'=β++γ) (ht:∀{a:Addr} {vs:List V},SqT K H a vs->SqT K H' a vs) (hf:∀{a:Addr} {o:Obj} {u:HO},H a=some (.frz o u)->H' a=some (.frz o u)) {w:W} {v:V} (q:RW K β H w v):RW K β' H' w v:=
 q.gen ht (λ h=>h.keep hf) hf (λ h=>by obtain ⟨γ,rfl⟩:=hb; rw [List.getElem?_append_left (List.getElem?_eq_some_iff.mp h).1]; exact h)
theorem RWs.keep {K:PySem.W.Frag} {β β':List Addr} {H H':Hp} (hb:∃γ,β'=β++γ) (ht:∀{a:Addr} {vs:List V},SqT K H a vs->SqT K H' a vs) (hf:∀{a:Addr} {o:Obj} {u:HO},H a=some (.frz o u)->H' a=some (.frz o u)) {w:List W} {v:List V} (q:RWs K β H w v):RWs K β' H' w v:=q.qq (RW.keep hb ht hf)
theorem tK {n:Nat} {a:Addr} {β0:List Addr} {H0:Hp} (hb:β0[n]?=some a):IS X cl (Itl X.K a) (.lst n) β0 H0:=by
 intro β m H i hβ _ _ r
 obtain ⟨γ,rfl⟩:=hβ
 have hb':(β0++γ)[n]?=some a:=by rw [List.getElem?_append_left (List.getElem?_eq_some_iff.mp hb).1]; exact hb
 refine ⟨λ w e=>?_,λ e=>?_⟩
 ·simp only [Src.get] at e
  split at e
  ·rename_i xs e1
   split at e
   ·rename_i w' e2
    cases e
    obtain ⟨a',vs,z,hs,t⟩:=r.getL (.ref hb') e1
    cases z
    obtain ⟨v,e3,q⟩:=t.get e2
    refine ⟨⟨vs,v,hs,e3⟩,λ x H' y=>?_⟩
    obtain ⟨rfl,y⟩:=y
    have:=y vs hs
    rw [e3] at this
    cases this
    exact ⟨Ext.refl,r,q⟩
   ·cases e
  ·cases e
 ·simp only [Src.get] at e
  split at e
  ·rename_i xs e1
   split at e
   ·cases e
   ·rename_i e2
    obtain ⟨a',vs,z,hs,t⟩:=r.getL (.ref hb') e1
    cases z
    refine ⟨vs,hs,?_⟩
    rw [<-t.length]
    exact List.getElem?_eq_none_iff.mp e2
  ·cases e
theorem tL {a:Addr} {vs:List V} {ws:List W} {β0:List Addr} {H0:Hp} (hq0:SqT X.K H0 a vs) (t0:RWs X.K β0 H0 ws vs):IS X cl (Itt X.K a) (.tup ws) β0 H0:=by
 intro β m H i hβ ht hf r
 have hq:=ht hq0
 have t:=t0.keep hβ ht hf
 refine ⟨λ w e=>?_,λ e=>?_⟩
 ·simp only [Src.get] at e
  split at e
  ·rename_i w' e2
   cases e
   obtain ⟨v,e3,q⟩:=t.get e2
   refine ⟨⟨vs,v,hq,e3⟩,λ x H' y=>?_⟩
   obtain ⟨rfl,y⟩:=y
   have:=y vs hq
   rw [e3] at this
   cases this
   exact ⟨Ext.refl,r,q⟩
  ·cases e
 ·simp only [Src.get] at e
  split at e
  ·cases e
  ·rename_i e2
   exact ⟨vs,hq,by rw [<-t.length]; exact List.getElem?_eq_none_iff.mp e2⟩
theorem xU {a:Addr} {vs:List V} {ws:List W} {β0:List Addr} {H0:Hp} (hq0:SqF X.K H0 a vs) (t0:RWs X.K β0 H0 ws vs):IS X cl (Itl X.K a) (.tup ws) β0 H0:=by
 intro β m H i hβ ht hf r
 have hq:=(hq0.keep hf).l
 have t:=t0.keep hβ ht hf
 refine ⟨λ w e=>?_,λ e=>?_⟩
 ·simp only [Src.get] at e
  split at e
  ·rename_i w' e2
   cases e
   obtain ⟨v,e3,q⟩:=t.get e2
   refine ⟨⟨vs,v,hq,e3⟩,λ x H' y=>?_⟩
   obtain ⟨rfl,y⟩:=y
   have:=y vs hq
   rw [e3] at this
   cases this
   exact ⟨Ext.refl,r,q⟩
  ·cases e
 ·simp only [Src.get] at e
  split at e
  ·cases e
  ·rename_i e2
   exact ⟨vs,hq,by rw [<-t.length]; exact List.getElem?_eq_none_iff.mp e2⟩
theorem Ad {a:Addr} {vs:List V} {ws:List W} {β0:List Addr} {H0:Hp} (hq0:SqF X.K H0 a vs) (t0:RWs X.K β0 H0 ws vs):IS X cl (Iel X.K a) (.enm (.tup ws)) β0 H0:=by
 intro β m H i hβ ht hf r
 obtain ⟨k1,k2⟩:=xU (X:=X) (cl:=cl) hq0 t0 β m H i hβ ht hf r
 refine ⟨λ w e=>?_,λ e=>?_⟩
 ·simp only [Src.get] at e k1
  split at e
  ·rename_i w' e1
   cases e
   obtain ⟨⟨xs,x,hs,hx⟩,g⟩:=k1 w' e1
   refine ⟨⟨xs,x,hs,hx⟩,λ y H' z=>?_⟩
   obtain ⟨p,v,hp,rfl,rfl,hv⟩:=z
   obtain ⟨_,_,q⟩:=g v H ⟨rfl,hv⟩
   obtain ⟨x2,r2⟩:=r.k9 hp [.int i,v]
   exact ⟨x2,r2,.tup (.of aA) (.cons (.int _) (.cons (q.mono r x2) .nil))⟩
  ·cases e
  ·cases e
 ·simp only [Src.get] at e k2
  split at e
  ·cases e
  ·rename_i e1
   exact k2 e1
  ·cases e
theorem Ae {lo:Int} {n:Nat} {β0:List Addr} {H0:Hp}:IS X cl (Itr lo n) (.rng lo n) β0 H0:=by
 intro β m H i hβ _ _ r
 refine ⟨λ w e=>?_,λ e=>?_⟩
 ·simp only [Src.get] at e
  split at e
  ·rename_i h
   cases e
   refine ⟨h,λ x H' y=>?_⟩
   obtain ⟨rfl,rfl⟩:=y
   exact ⟨Ext.refl,r,.int _⟩
  ·cases e
 ·simp only [Src.get] at e
  split at e
  ·cases e
  ·rename_i h
   exact Nat.le_of_not_lt h
theorem Af {β:List Addr} {m:Mem} {H:Hp} {w:W} {v:V} {s:Src} (r:Rel X.K cl β m H) (q:RW X.K β H w v) (e:srcOf m w=some s) :
  ∃a,v=.ref a/\((∃n vs,s=.lst n/\w=.ref n/\β[n]?=some a/\SqL X.K H a vs)\/(∃ws vs,s=.tup ws/\w=.fz ws/\SqF X.K H a vs/\RWs X.K β H ws vs)\/∃ws vs,s=.tup ws/\w=.tup ws/\SqT X.K H a vs/\RWs X.K β H ws vs):=by
 cases q with
 | tup h t=>cases e; exact ⟨_,rfl,.inr (.inr ⟨_,_,rfl,rfl,h,t⟩)⟩
 | fz h t=>cases e; exact ⟨_,rfl,.inr (.inl ⟨_,_,rfl,rfl,h,t⟩)⟩
 | ref h=>
  simp only [srcOf] at e
  split at e
  ·rename_i xs e1
   cases e
   obtain ⟨a,vs,z,hs,t⟩:=r.getL (.ref h) e1
   cases z
   exact ⟨_,rfl,.inl ⟨_,_,rfl,rfl,h,hs⟩⟩
  ·cases e
 | _=>cases e
theorem oG {β:List Addr} {m:Mem} {H:Hp} {ws:List W} {v:V} {s:Src} (r:Rel X.K cl β m H) (q:RW X.K β H (.tup ws) v) (e:srcOf m (.tup ws)=some s):∃a vs,v=.ref a/\s=.tup ws/\SqT X.K H a vs/\RWs X.K β H ws vs:=by
 cases q with
 | tup h t=>cases e; exact ⟨_,_,rfl,rfl,h,t⟩
theorem tM {β:List Addr} {m:Mem} {H:Hp} {ws:List W} {v:V} {s:Src} (r:Rel X.K cl β m H) (q:RW X.K β H (.fz ws) v) (e:srcOf m (.fz ws)=some s):∃a vs,v=.ref a/\s=.tup ws/\SqF X.K H a vs/\RWs X.K β H ws vs:=by
 cases q with
 | fz h t=>cases e; exact ⟨_,_,rfl,rfl,h,t⟩
theorem oH {β:List Addr} {m:Mem} {H:Hp} {n:Nat} {v:V} {s:Src} (r:Rel X.K cl β m H) (q:RW X.K β H (.ref n) v) (e:srcOf m (.ref n)=some s):∃a vs,v=.ref a/\s=.lst n/\β[n]?=some a/\SqL X.K H a vs:=by
 obtain ⟨a,rfl,⟨n',vs,rfl,z,hb,hs⟩ | ⟨_,_,_,z,_⟩ | ⟨_,_,_,z,_⟩⟩:=Af r q e
 ·cases z; exact ⟨a,vs,rfl,rfl,hb,hs⟩
 ·cases z
 ·cases z
theorem Ag {z:Str} {β0:List Addr} {H0:Hp}:IS X cl (Its z) (.tup (signs z)) β0 H0:=by
 intro β m H i hβ _ _ r
 have hg:∀j:Nat,(signs z)[j]?=(z.cps[j]?).map λ c=>W.str ⟨#[c]⟩:=λ j=>by simp [signs]
 refine ⟨λ w e=>?_,λ e=>?_⟩
 ·simp only [Src.get,hg] at e
  cases hc:z.cps[i]? with
  | none=>rw [hc] at e; cases e
  | some c=>
   rw [hc] at e
   cases e
   have hi:i < z.cps.size:=by
    rcases Nat.lt_or_ge i z.cps.size with h | h
    ·exact h
    ·rw [Array.getElem?_eq_none h] at hc; cases hc
   refine ⟨hi,λ x H' y=>?_⟩
   obtain ⟨rfl,c',h1,rfl⟩:=y
   rw [hc] at h1; cases h1
   exact ⟨Ext.refl,r,.str _⟩
 ·simp only [Src.get,hg] at e
  cases hc:z.cps[i]? with
  | none=>exact Array.getElem?_eq_none_iff.mp hc
  | some c=>rw [hc] at e; cases e
theorem Ce {tg a:Expr} {d:E} (ha:PE X a (SE X cl (evE C d))) (hd:∀ρ m,evI C d ρ m=(evE C d ρ m).bind toI):PI X tg a (SI X cl (evI C d)):=by
 refine PI.imp (PI.or (PI.or (u7 ha) (yT ha)) (zJ ha)) ?_
 rintro σ H Rr ⟨β,ρ,m,src,m',r,l,e,k⟩
 rw [hd] at e
 obtain ⟨x,m1,e1,e⟩:=R.aa e
 unfold toI at e
 split at e
 ·rename_i s e2
  cases e
  cases x with
  | tup xs=>
   refine .inl (.inr ⟨β,ρ,m,_,_,r,l,e1,fun β1 H1 v1 x1 r1 q1=>?_⟩)
   obtain ⟨a,vs,rfl,rfl,hs,t⟩:=oG r1 q1 e2
   exact ⟨a,rfl,⟨vs,hs⟩,k _ _ _ x1 r1 (tL hs t)⟩
  | fz xs=>
   refine .inl (.inl ⟨β,ρ,m,_,_,r,l,e1,fun β1 H1 v1 x1 r1 q1=>?_⟩)
   obtain ⟨a,vs,rfl,rfl,hs,t⟩:=tM r1 q1 e2
   exact ⟨a,rfl,⟨vs,hs.l⟩,k _ _ _ x1 r1 (xU hs t)⟩
  | ref n=>
   refine .inl (.inl ⟨β,ρ,m,_,_,r,l,e1,fun β1 H1 v1 x1 r1 q1=>?_⟩)
   obtain ⟨a,vs,rfl,rfl,hb,hs⟩:=oH r1 q1 e2
   exact ⟨a,rfl,⟨vs,hs⟩,k _ _ _ x1 r1 (tK hb)⟩
  | str z=>
   refine .inr ⟨β,ρ,m,_,_,r,l,e1,fun β1 H1 v1 x1 r1 q1=>?_⟩
   cases q1
   simp only [nj] at e2
   split at e2
   ·rename_i hz
    cases e2
    exact ⟨z,rfl,hz,k _ _ _ x1 r1 Ag⟩
   ·cases e2
  | _=>cases e2
 ·cases e
theorem Cg {tg a:Expr} {d:E} {p:Pos} (hg:Gl X "range") (hm:X.mg "range"=none) (ha:PE X a (SE X cl (evE C d))) (hs:starEach [a] X.env=[(false,eval a X.env)]):PI X tg (.Call (.Name "range" p) [a] [] pos) (SI X cl (evI C (.rng d))):=by
 refine PI.imp (pQ hg hm (bL ha cN hs) hs) ?_
 rintro σ H Rr ⟨β,ρ,m,src,m',r,l,e,k⟩
 simp only [evI] at e
 obtain ⟨x,m1,e1,e⟩:=R.aa e
 refine ⟨β,ρ,m,x,m1,r,l,e1,fun β1 H1 v1 x1 r1 q1=>?_⟩
 split at e
 ·split at e
  ·rename_i hj
   cases e; cases q1
   exact ⟨_,rfl,hj.1,hj.2,k _ _ _ x1 r1 Ae⟩
  ·cases e
 ·cases e
theorem Ah {n:Nat} {a:Addr} {β0:List Addr} {H0:Hp} (hb:β0[n]?=some a):IS X cl (Iel X.K a) (.enm (.lst n)) β0 H0:=by
 intro β m H i hβ ht hf r
 obtain ⟨k1,k2⟩:=tK (X:=X) (cl:=cl) (H0:=H0) hb β m H i hβ ht hf r
 refine ⟨λ w e=>?_,λ e=>?_⟩
 ·simp only [Src.get] at e k1
  split at e
  ·rename_i w' e1
   cases e
   obtain ⟨⟨xs,x,hs,hx⟩,g⟩:=k1 w' e1
   refine ⟨⟨xs,x,hs,hx⟩,λ y H' z=>?_⟩
   obtain ⟨p,v,hp,rfl,rfl,hv⟩:=z
   obtain ⟨_,_,q⟩:=g v H ⟨rfl,hv⟩
   obtain ⟨x2,r2⟩:=r.k9 hp [.int i,v]
   exact ⟨x2,r2,.tup (.of aA) (.cons (.int _) (.cons (q.mono r x2) .nil))⟩
  ·cases e
  ·cases e
 ·simp only [Src.get] at e k2
  split at e
  ·cases e
  ·rename_i e1
   exact k2 e1
  ·cases e
theorem Ai {a:Addr} {vs:List V} {ws:List W} {β0:List Addr} {H0:Hp} (hq0:SqT X.K H0 a vs) (t0:RWs X.K β0 H0 ws vs):IS X cl (Iet X.K a) (.enm (.tup ws)) β0 H0:=by
 intro β m H i hβ ht hf r
 obtain ⟨k1,k2⟩:=tL (X:=X) (cl:=cl) hq0 t0 β m H i hβ ht hf r
 refine ⟨λ w e=>?_,λ e=>?_⟩
 ·simp only [Src.get] at e k1
  split at e
  ·rename_i w' e1
   cases e
   obtain ⟨⟨xs,x,hs,hx⟩,g⟩:=k1 w' e1
   refine ⟨⟨xs,x,hs,hx⟩,λ y H' z=>?_⟩
   obtain ⟨p,v,hp,rfl,rfl,hv⟩:=z
   obtain ⟨_,_,q⟩:=g v H ⟨rfl,hv⟩
   obtain ⟨x2,r2⟩:=r.k9 hp [.int i,v]
   exact ⟨x2,r2,.tup (.of aA) (.cons (.int _) (.cons (q.mono r x2) .nil))⟩
  ·cases e
  ·cases e
 ·simp only [Src.get] at e k2
  split at e
  ·cases e
  ·rename_i e1
   exact k2 e1
  ·cases e
theorem Cj {a:Expr} {d:E} {p tpos:Pos} {elts:List Expr} {x1} (hg:Gl X "enumerate") (hm:X.mg "enumerate"=none) (ha:PE X a (SE X cl (evE C d))) (hs:starEach [a] X.env=[(false,eval a X.env)]):PI X (.Tuple elts x1 tpos) (.Call (.Name "enumerate" p) [a] [] pos) (SI X cl (evI C (.enm d))):=by
 refine PI.imp (PI.or (vK hg hm (bL ha cN hs) hs) (sC hg hm (bL ha cN hs) hs)) ?_
 rintro σ H Rr ⟨β,ρ,m,src,m',r,l,e,k⟩
 simp only [evI] at e
 obtain ⟨x,m1,e1,e⟩:=R.aa e
 split at e
 ·rename_i s e2
  cases e
  cases x with
  | tup xs=>
   refine .inr ⟨β,ρ,m,_,_,r,l,e1,fun β1 H1 v1 x1 r1 q1=>?_⟩
   obtain ⟨a,vs,rfl,rfl,hs,t⟩:=oG r1 q1 e2
   exact ⟨a,rfl,⟨vs,hs⟩,k _ _ _ x1 r1 (Ai hs t)⟩
  | fz xs=>
   refine .inl ⟨β,ρ,m,_,_,r,l,e1,fun β1 H1 v1 x1 r1 q1=>?_⟩
   obtain ⟨a,vs,rfl,rfl,hs,t⟩:=tM r1 q1 e2
   exact ⟨a,rfl,⟨vs,hs.l⟩,k _ _ _ x1 r1 (Ad hs t)⟩
  | ref n=>
   refine .inl ⟨β,ρ,m,_,_,r,l,e1,fun β1 H1 v1 x1 r1 q1=>?_⟩
   obtain ⟨a,vs,rfl,rfl,hb,hs⟩:=oH r1 q1 e2
   exact ⟨a,rfl,⟨vs,hs⟩,k _ _ _ x1 r1 (Ah hb)⟩
  | _=>cases e2
 ·cases e
theorem RL.set {K:PySem.W.Frag} {β:List Addr} {H:Hp} {ρ:Loc} {σ:L2.St} {i:Nat} {w:W} {v:V} (l:RL K β H ρ σ) (q:RW K β H w v):RL K β H (ρ.set i (some w)) (σ.set i (some v)):=by
 refine ⟨by simp [l.len],λ {j w'} h=>?_⟩
 by_cases e:i=j
 ·subst e
  have hl:i < ρ.length:=by have:=(List.getElem?_eq_some_iff.mp h).1; simpa using this
  rw [List.getElem?_set_self hl] at h
  cases h
  exact ⟨v,List.getElem?_set_self (by rw [<-l.len]; exact hl),q⟩
 ·rw [List.getElem?_set_ne e] at h ⊢
  exact l.at_ h
theorem xV {i:Nat} {x:Str} (hN:X.N.Nodup) (hi:X.N[i]?=some x) (hx:L2.Loc X.env.scope x) (hf:X.fn x=true\/X.env.scope.names.lookup x=some .local):PG X (.Name x pos) (SG X cl (evA C (.pt (.var i)))):=by
 refine PG.imp (u5 hN hi hx hf) ?_
 rintro v σ H Q ⟨β,ρ,m,w,ρ',m',r,l,q,e,k⟩
 simp only [evA,aD] at e
 cases e
 exact k _ _ _ Ext.refl r (l.set q)
theorem tN:PGs X [] (SGs X cl (cP C .nil)):=by
 refine PGs.imp u6 ?_
 rintro vs σ H Q ⟨β,ρ,m,ws,ρ',m',r,l,q,e,k⟩
 cases q with
 | nil=>
  simp only [cP] at e
  cases e
  exact ⟨rfl,k _ _ _ Ext.refl r l⟩
 | cons _ _=>simp only [cP] at e; cases e
theorem oJ {a:Expr} {es:List Expr} {da:A} {ds:As} (h1:PG X a (SG X cl (evA C da))) (h2:PGs X es (SGs X cl (cP C ds))) (hs:(assignEach (a::es) X.env).map (·.2)=assign a X.env::(assignEach es X.env).map (·.2)):PGs X (a::es) (SGs X cl (cP C (.cons da ds))):=by
 refine PGs.imp (rB h1 h2 hs) ?_
 rintro vs σ H Q ⟨β,ρ,m,ws,ρ',m',r,l,q,e,k⟩
 cases q with
 | nil=>simp only [cP] at e; cases e
 | cons q1 q2=>
  simp only [cP] at e
  obtain ⟨ρ1,m1,e1,e⟩:=R.aa e
  refine ⟨_,_,rfl,β,ρ,m,_,ρ1,m1,r,l,q1,e1,fun β1 H1 σ1 x1 r1 l1=>?_⟩
  exact ⟨β1,ρ1,m1,_,ρ',m',r1,l1,q2.mono r x1,e,fun β2 H2 σ2 x2 r2 l2=>k _ _ _ (x1.trans r1 x2) r2 l2⟩
noncomputable def As.len:As->Nat
 | .nil=>0
 | .cons _ l=>l.len+1
theorem ic {C:D.Cx}:∀{ds:As} {ws:List W} {ρ ρ':Loc} {m m':Mem},cP C ds ws ρ m=.ok ρ' m'->ws.length=ds.len
 | .nil,ws,_,_,_,_,e=>by
  cases ws with
  | nil=>rfl
  | cons _ _=>simp only [cP] at e; cases e
 | .cons a l,ws,_,_,_,_,e=>by
  cases ws with
  | nil=>simp only [cP] at e; cases e
  | cons w ws=>
   simp only [cP] at e
   obtain ⟨ρ1,m1,e1,e⟩:=R.aa e
   rw [List.length_cons,ic e]; rfl
theorem PG.or {e:Expr} {t t':TG} (h:PG X e t) (h':PG X e t'):PG X e (λ v σ H Q=>t v σ H Q\/t' v σ H Q):=λ pins s σ H v u Q I r q=>q.elim (h pins s σ H v u Q I r) (h' pins s σ H v u Q I r)
theorem xW {es:List Expr} {k:Nat} {ds:As} (hc:X.calm=true) (h:PGs X es (SGs X cl (cP C ds))) (hn:(assignEach es X.env).length=ds.len) (hst:(assignEach es X.env).findIdx? (·.1)=none):PG X (.Tuple es k pos) (SG X cl (evA C (.tup ds))):=by
 refine PG.imp (PG.or (yO hc h hn hst) (zL hc h hn hst)) ?_
 rintro v σ H Q ⟨β,ρ,m,w,ρ',m',r,l,q,e,k⟩
 simp only [evA] at e
 split at e
 ·rename_i xs e1
  obtain ⟨a,vs,rfl,hs,t⟩:=r.bG q e1
  rcases hs with hs | hs
  ·exact .inr ⟨_,_,rfl,hs,by rw [<-t.length]; exact ic e,β,ρ,m,_,ρ',m',r,l,t,e,k⟩
  ·exact .inl ⟨_,_,rfl,hs,by rw [<-t.length]; exact ic e,β,ρ,m,_,ρ',m',r,l,t,e,k⟩
 ·cases e
noncomputable def T.nE:Ts->As
 | .nil=>.nil
 | .cons t ts=>.cons (.pt t) (T.nE ts)
theorem fU {C:D.Cx}:∀(ts:Ts) (ws:List W) (ρ ρ':Loc) (m:Mem),bU ts ws ρ=some ρ'->cP C (T.nE ts) ws ρ m=.ok ρ' m
 | .nil,ws,ρ,ρ',m,h=>by
  cases ws with
  | nil=>simp only [bU] at h; cases h; simp only [T.nE,cP]
  | cons _ _=>simp only [bU] at h; cases h
 | .cons t ts,ws,ρ,ρ',m,h=>by
  cases ws with
  | nil=>simp only [bU] at h; cases h
  | cons w ws=>
   simp only [bU] at h
   split at h
   ·rename_i ρ1 e1
    simp only [T.nE,cP,evA,e1,R.bind]
    exact fU ts ws ρ1 ρ' m h
   ·cases h
theorem Aj {es:List Expr} {k:Nat} {ts:Ts} (h:PG X (.Tuple es k pos) (SG X cl (evA C (.tup (T.nE ts))))):PG X (.Tuple es k pos) (SG X cl (evA C (.pt (.tup ts)))):=by
 refine PG.imp h ?_
 rintro v σ H Q ⟨β,ρ,m,w,ρ',m',r,l,q,e,k⟩
 refine ⟨β,ρ,m,w,ρ',m',r,l,q,?_,k⟩
 simp only [evA,aD] at e ⊢
 cases w with
 | tup xs=>
  simp only [bG] at e ⊢
  split at e
  ·rename_i ρ1 e1
   cases e
   exact fU _ _ _ _ _ e1
  ·cases e
 | fz xs=>
  simp only [bG,getL] at e ⊢
  split at e
  ·rename_i ρ1 e1
   cases e
   exact fU _ _ _ _ _ e1
  ·cases e
 | _=>cases e
theorem Ak:yN X (λ o i v H Q=>∃β m wo wi wv m',Rel X.K cl β m H/\RW X.K β H wo o/\RW X.K β H wi i/\RW X.K β H wv v/\kX wo wi wv m=.ok () m'/\∀β' H',Ext β H β' H'->Rel X.K cl β' m' H'->Q H'):=by
 intro pins s σ H o i v ov iv u Q I r1 r2 r3 h
 obtain ⟨β,m,wo,wi,wv,m',r,qo,qi,qv,e,k⟩:=h
 unfold kX at e
 split at e
 ·split at e
  ·rename_i xs e1
   split at e
   ·rename_i j e2
    cases e; cases qi
    obtain ⟨a,vs,rfl,hb,ha,t⟩:=r.lst qo e1
    obtain ⟨x2,r2'⟩:=r.nu e1 hb (t.set qv j)
    exact set_list pins s σ H _ _ _ ov iv u Q I r1 r2 r3 ⟨_,_,_,_,rfl,rfl,ha,by rw [<-t.length]; exact e2,k _ _ x2 r2'⟩
   ·cases e
  ·cases e
 ·cases e
theorem Ck {o i:Expr} {do_ di:E} (ho:PE X o (SE X cl (evE C do_))) (hi:PE X i (SE X cl (evE C di))) (ha:∀v,assign (.Subscript o i pos) X.env v=(do
   let ov <-holding [v] (eval o X.env)
   let iv <-holding [v,ov] (eval i X.env)
   standAt pos
   holding [v,ov,iv] (setItem ov iv v)
   release [v,ov,iv] [])):PG X (.Subscript o i pos) (SG X cl (evA C (.sub do_ di))):=by
 refine PG.imp (yP ho hi (Ak (cl:=cl)) ha) ?_
 rintro v σ H Q ⟨β,ρ,m,w,ρ',m',r,l,q,e,k⟩
 simp only [evA] at e
 obtain ⟨x,m1,e1,e⟩:=R.aa e
 obtain ⟨y,m2,e2,e⟩:=R.aa e
 obtain ⟨u,m3,e3,e⟩:=R.aa e
 cases e
 refine ⟨β,ρ,m,x,m1,r,l,e1,fun β1 H1 v1 x1 r1 q1=>?_⟩
 refine ⟨β1,ρ,m1,y,m2,r1,l.mono r x1,e2,fun β2 H2 v2 x2 r2 q2=>?_⟩
 exact ⟨β2,m2,x,y,w,_,r2,q1.mono r1 x2,q2,(q.mono r x1).mono r1 x2,e3,fun β3 H3 x3 r3=>k _ _ _ ((x1.trans r1 x2).trans r2 x3) r3 (((l.mono r x1).mono r1 x2).mono r2 x3)⟩
theorem Al:PSs X [] (SS X cl (aF C .nil)):=by
 refine PSs.imp uX ?_
 rintro D σ H ⟨β,ρ,m,f,m',r,l,e,k⟩
 simp only [aF] at e
 cases e
 exact k _ _ Ext.refl r σ l
theorem we {st:Stmt} {rest:List Stmt} {d:S} {ds:Ss} (h1:PS X st (SS X cl (evS C d))) (h2:PSs X rest (SS X cl (aF C ds))):PSs X (st::rest) (SS X cl (aF C (.cons d ds))):=by
 refine PSs.imp (rm h1 h2) ?_
 rintro D σ H ⟨β,ρ,m,f,m',r,l,e,k⟩
 simp only [aF] at e
 obtain ⟨f1,m1,e1,e⟩:=R.aa e
 refine ⟨β,ρ,m,f1,m1,r,l,e1,fun β1 H1 x1 r1=>?_⟩
 cases f1 with
 | nx ρ1=>
  intro σ1 l1
  exact ⟨β1,ρ1,m1,f,m',r1,l1,e,fun β2 H2 x2 r2=>k _ _ (x1.trans r1 x2) r2⟩
 | rt w=>simp only at e; cases e; exact k _ _ x1 r1
 | bk ρ1=>simp only at e; cases e; exact k _ _ x1 r1
 | ct ρ1=>simp only at e; cases e; exact k _ _ x1 r1
theorem Am {tg a:Expr} {d:E} {da:A} (he:PE X a (SE X cl (evE C d))) (hg:PG X tg (SG X cl (evA C da))) (hs:swapsWithSole [tg] a pos.line X.env=pure false) (hw:swappedStores [tg] a X.env=pure none) (h1:(assignEach [tg] X.env).map (·.2)=[assign tg X.env]):PS X (.Assign [tg] a pos) (SS X cl (evS C (.asg da d))):=by
 refine PS.imp (yQ he hg hs hw h1) ?_
 rintro D σ H ⟨β,ρ,m,f,m',r,l,e,k⟩
 simp only [evS] at e
 obtain ⟨w,m1,e1,e⟩:=R.aa e
 obtain ⟨ρ2,m2,e2,e⟩:=R.aa e
 cases e
 refine ⟨β,ρ,m,w,m1,r,l,e1,fun β1 H1 v1 x1 r1 q1=>?_⟩
 exact ⟨β1,ρ,m1,w,ρ2,_,r1,l.mono r x1,q1,e2,fun β2 H2 σ2 x2 r2 l2=>k _ _ (x1.trans r1 x2) r2 σ2 l2⟩
theorem tO {x:Str} {i:Nat} {a:Expr} {d:E} {p:Pos} (hN:X.N.Nodup) (hi:X.N[i]?=some x) (hx:L2.Loc X.env.scope x) (he:PE X a (SE X cl (evE C d))) (hs:swapsWith a (some (.Name x p)) pos.line X.env=pure false) (hf:X.fn x=true\/X.env.scope.names.lookup x=some .local):PS X (.Assign [.Name x p] a pos) (SS X cl (evS C (.asg (.pt (.var i)) d))):=by
 refine PS.imp (yR hN hi hx he hs hf) ?_
 rintro D σ H ⟨β,ρ,m,f,m',r,l,e,k⟩
 simp only [evS] at e
 obtain ⟨w,m1,e1,e⟩:=R.aa e
 simp only [evA,aD,R.bind] at e
 cases e
 exact ⟨β,ρ,m,w,_,r,l,e1,fun β1 H1 v1 x1 r1 q1=>k _ _ x1 r1 _ ((l.mono r x1).set q1)⟩
theorem An {i j:Nat} {x y:Str} {a b:Expr} {da db:E} {px py pt pt2:Pos} {kt k2} (hc:X.calm=true) (hN:X.N.Nodup) (hi:X.N[i]?=some x) (hj:X.N[j]?=some y) (hij:i≠j) (hx:X.env.scope.names.lookup x=some .local) (hy:X.env.scope.names.lookup y=some .local)
  (ha:PA X [a,b] (SA X cl (aH C (.cons da (.cons db .nil))))) (hw:swappedStores [.Tuple [.Name x px,.Name y py] kt pt] (.Tuple [a,b] k2 pt2) X.env=pure (some [x,y])) (hs:swapsWithSole [.Tuple [.Name x px,.Name y py] kt pt] (.Tuple [a,b] k2 pt2) pos.line X.env=pure false) :
  PS X (.Assign [.Tuple [.Name x px,.Name y py] kt pt] (.Tuple [a,b] k2 pt2) pos) (SS X cl (evS C (.asg (.pt (.tup (.cons (.var i) (.cons (.var j) .nil)))) (.tup (.cons da (.cons db .nil)))))):=by
 refine PS.imp (yS hc hN hi hj hij hx hy ha hw hs) ?_
 rintro D σ H ⟨β,ρ,m,f,m',r,l,e,k⟩
 simp only [evS,evE] at e
 obtain ⟨w,m1,e1,e⟩:=R.aa e
 obtain ⟨ws,m2,e2,e3⟩:=R.aa e1
 split at e3
 ·cases e3
  refine ⟨β,ρ,m,ws,_,r,l,e2,fun β1 H1 v1 x1 r1 q1=>?_⟩
  obtain ⟨ρ2,m3,e4,e⟩:=R.aa e
  cases e
  simp only [evA,aD] at e4
  cases q1 with
  | nil=>simp only [bU] at e4; cases e4
  | cons q1 q2=>
   cases q2 with
   | nil=>simp only [bU,aD] at e4; cases e4
   | cons q2 q3=>
    cases q3 with
    | nil=>
     simp only [bU,aD] at e4
     cases e4
     exact ⟨_,_,rfl,k _ _ x1 r1 _ (((l.mono r x1).set q1).set q2)⟩
    | cons _ _=>simp only [bU,aD] at e4; cases e4
 ·cases e3
theorem wg {a:Expr} {d:E} (he:PE X a (SE X cl (evE C d))) (hs:swapsWith a none pos.line X.env=pure false):PS X (.Expr a pos) (SS X cl (evS C (.expr d))):=by
 refine PS.imp (uZ he hs) ?_
 rintro D σ H ⟨β,ρ,m,f,m',r,l,e,k⟩
 simp only [evS] at e
 obtain ⟨w,m1,e1,e⟩:=R.aa e
 cases e
 exact ⟨β,ρ,m,w,_,r,l,e1,fun β1 H1 v1 x1 r1 q1=>k _ _ x1 r1 _ (l.mono r x1)⟩
theorem Ao {a:Expr} {d:E} (he:PE X a (SE X cl (evE C d))):PS X (.Return (some a) pos) (SS X cl (evS C (.ret d))):=by
 refine PS.imp (yK he) ?_
 rintro D σ H ⟨β,ρ,m,f,m',r,l,e,k⟩
 simp only [evS] at e
 obtain ⟨w,m1,e1,e⟩:=R.aa e
 cases e
 exact ⟨β,ρ,m,w,_,r,l,e1,fun β1 H1 v1 x1 r1 q1=>k _ _ x1 r1 _ q1⟩
theorem wj:PS X (.Return none pos) (SS X cl (evS C .retN)):=by
 refine PS.imp u0 ?_
 rintro D σ H ⟨β,ρ,m,f,m',r,l,e,k⟩
 simp only [evS] at e
 cases e
 exact k _ _ Ext.refl r _ .non
theorem wk:PS X (.Pass pos) (SS X cl (evS C .pass)):=by
 refine PS.imp uY ?_
 rintro D σ H ⟨β,ρ,m,f,m',r,l,e,k⟩
 simp only [evS] at e
 cases e
 exact k _ _ Ext.refl r _ l
theorem Aq:PS X (.Break pos) (SS X cl (evS C .brk)):=by
 refine PS.imp rq ?_
 rintro D σ H ⟨β,ρ,m,f,m',r,l,e,k⟩
 simp only [evS] at e
 cases e
 exact k _ _ Ext.refl r _ l
theorem wm:PS X (.Continue pos) (SS X cl (evS C .cont)):=by
 refine PS.imp kB ?_
 rintro D σ H ⟨β,ρ,m,f,m',r,l,e,k⟩
 simp only [evS] at e
 cases e
 exact k _ _ Ext.refl r _ l
theorem tP {st:Stmt}:PS X st (SS X cl (evS C .never)):=by
 refine PS.imp rA ?_
 rintro D σ H ⟨β,ρ,m,f,m',r,l,e,k⟩
 simp only [evS] at e
 cases e
theorem Co {t:Expr} {dt:E} {a b:List Stmt} {da db:Ss} (ht:PT X t (ST X cl (evT C dt))) (ha:PSs X a (SS X cl (aF C da))) (hb:PSs X b (SS X cl (aF C db))):PS X (.If t a b pos) (SS X cl (evS C (.ife dt da db))):=by
 refine PS.imp (Bf ht ha hb) ?_
 rintro D σ H ⟨β,ρ,m,f,m',r,l,e,k⟩
 simp only [evS] at e
 obtain ⟨c,m1,e1,e⟩:=R.aa e
 refine ⟨β,ρ,m,c,m1,r,l,e1,fun β1 H1 x1 r1=>?_⟩
 split at e
 ·rename_i hc
  rw [if_pos hc]
  exact ⟨β1,ρ,m1,f,m',r1,l.mono r x1,e,fun β2 H2 x2 r2=>k _ _ (x1.trans r1 x2) r2⟩
 ·rename_i hc
  rw [if_neg hc]
  exact ⟨β1,ρ,m1,f,m',r1,l.mono r x1,e,fun β2 H2 x2 r2=>k _ _ (x1.trans r1 x2) r2⟩
theorem Ext.sq {β β':List Addr} {m:Mem} {H H':Hp} (r:Rel X.K cl β m H) (x:Ext β H β' H') {a:Addr} {vs:List V} (h:SqT X.K H a vs):SqT X.K H' a vs:=x.sqT r noD h
theorem Ar {tg iter:Expr} {t:T} {it:E} {body:List Stmt} {db:Ss} (hp:PassesOwn (model X.prog X.w) X.A X.env X.xe) (hc:X.calm=true) (hi:PI X tg iter (SI X cl (evI C it))) (hg:PG X tg (SG X cl (evA C (.pt t)))) (hb:PSs X body (SS X cl (aF C db)))
  (hs:∀x,foldedSetIterable iter X.env x=pure x):PS X (.For tg iter body [] pos) (SS X cl (evS C (.for_ t it db))):=by
 refine PS.imp (yU hp hc hi hg hb hs) ?_
 rintro D σ H ⟨β,ρ,m,f,m',r,l,e,k⟩
 simp only [evS] at e
 obtain ⟨src,m1,e1,e⟩:=R.aa e
 refine ⟨β,ρ,m,src,m1,r,l,e1,fun β1 H1 J x1 r1 is=>?_⟩
 refine ⟨λ i n σ H=>∃β ρ m,Ext β1 H1 β H/\Rel X.K cl β m H/\RL X.K β H ρ σ/\eH src.get t (fun ρ m=>aF C db ρ m) n i ρ m=.ok f m',⟨_,β1,ρ,m1,Ext.refl,r1,l.mono r x1,e⟩,?_⟩
 rintro i n σ H ⟨β2,ρ2,m2,x2,r2,l2,e2⟩
 have pre:∃γ,β2=β1++γ:=let ⟨γ,h,_⟩:=x2.pre; ⟨γ,h⟩
 obtain ⟨go,stop⟩:=is β2 m2 H i pre (λ h=>x2.sq r1 h) (λ h=>x2.fz r1 noD h) r2
 unfold eH at e2
 split at e2
 ·cases e2
 ·rename_i e3
  cases e2
  exact .inl ⟨stop e3,k _ _ (x1.trans r1 x2) r2 _ l2⟩
 ·rename_i w e3
  obtain ⟨g1,g2⟩:=go w e3
  refine .inr ⟨g1,?_⟩
  split at e2
  ·cases e2
  ·rename_i n'
   split at e2
   ·cases e2
   ·rename_i ρ3 e4
    obtain ⟨ff,m4,e5,e6⟩:=R.aa e2
    refine ⟨fun σ' H'=>∃β ρ m,Ext β1 H1 β H'/\Rel X.K cl β m H'/\RL X.K β H' ρ σ'/\eH src.get t (fun ρ m=>aF C db ρ m) n' (i+1) ρ m=.ok f m',fun σ' H' h=>⟨n',Nat.lt_succ_self _,h⟩,λ x H' y=>?_⟩
    obtain ⟨x3,r3,q3⟩:=g2 x H' y
    refine ⟨β2,ρ2,m2,w,ρ3,m2,r3,l2.mono r2 x3,q3,by simp only [evA,e4],fun β5 H5 σ5 x5 r5 l5=>?_⟩
    refine ⟨β5,ρ3,m2,ff,m4,r5,l5,e5,fun β6 H6 x6 r6=>?_⟩
    have x16:=((x2.trans r2 x3).trans r3 x5).trans r5 x6
    cases ff with
    | nx ρ6=>exact fun σ6 l6=>⟨β6,ρ6,m4,x16,r6,l6,e6⟩
    | ct ρ6=>exact fun σ6 l6=>⟨β6,ρ6,m4,x16,r6,l6,e6⟩
    | bk ρ6=>cases e6; exact fun σ6 l6=>k _ _ (x1.trans r1 x16) r6 σ6 l6
    | rt w6=>cases e6; exact λ v6 q6=>k _ _ (x1.trans r1 x16) r6 v6 q6
end
end D
end
section
namespace D
open PySem PySem.Spec PyProof.Rows L2
noncomputable def jP (prog:Program) (w:World) (A:Around) (e elt:Expr) (d:Nat) (acc:Value) (env:Env) (Q:Shared->Prop):Option Comprehension->Shared->Prop
 | none,s=>wpAny (model prog w) A (eval elt env) (λ x s₄=>wpAny (model prog w) A (call (.builtin "list.append") [acc,x]) (λ _ s₅=>Q s₅) (λ _ _=>False) s₄) (λ _ _=>False) s
 | some g',s=>wpAny (model prog w) A (eval g'.iter env) (λ x s₄=>wpAny (model prog w) A (pyIter x) (λ it' s₅=>codeAny (model prog w) A (.compStart e (d+1) it' acc env) (λ r s₆=>match r with
   | .ok _=>Q s₆
   | .error _=>False) s₅) (λ _ _=>False) s₄) (λ _ _=>False) s
theorem iV (elt target iter:Expr) (gens:List Comprehension) (ifs:List Expr) (scope:Scope) (pos:Pos) (d:Nat) (it acc:Value) (env:Env) (h:gens[d]?=some ⟨target,iter,ifs,0⟩) (hn:gens[d+1]?=none) :
  compTurn (.ListComp elt gens scope pos) d it acc env=(do
   standAt iter.pos
   match <-pyNext it with
   | none=>pure (.done .next)
   | some v=>
    letOwnedTupleGo target it v
    assign target env v
    let mut ok:=true
    for c in ifs do
     if ok then ok <-isTrue c env (eval c env)
    if ok then
     (do let _ <-call (.builtin "list.append") [acc,<-eval elt env])
    again (.compLoop (.ListComp elt gens scope pos) d it acc env)):=by
 unfold compTurn
 simp only [h,hn]
 rfl
theorem iW (elt target iter target' iter':Expr) (gens:List Comprehension) (ifs ifs':List Expr) (scope:Scope) (pos:Pos) (d:Nat) (it acc:Value) (env:Env) (h:gens[d]?=some ⟨target,iter,ifs,0⟩) (hn:gens[d+1]?=some ⟨target',iter',ifs',0⟩) :
  compTurn (.ListComp elt gens scope pos) d it acc env=(do
   standAt iter.pos
   match <-pyNext it with
   | none=>pure (.done .next)
   | some v=>
    letOwnedTupleGo target it v
    assign target env v
    let mut ok:=true
    for c in ifs do
     if ok then ok <-isTrue c env (eval c env)
    if ok then
     let x <-eval iter' env
     standAt iter'.pos
     let x <-foldedSetIterable iter' env x
     let _ <-runOwn (.compStart (.ListComp elt gens scope pos) (d+1) (<-holding [x] (pyIter x)) acc env) env
    again (.compLoop (.ListComp elt gens scope pos) d it acc env)):=by
 unfold compTurn
 simp only [h,hn]
 rfl
section
variable {prog:Program} {w:World} {A:Around} {R:Result->Shared->Prop} {s:Shared}
theorem jQ {elt target iter:Expr} {gens:List Comprehension} {ifs:List Expr} {scope:Scope} {pos:Pos} {d:Nat} {it acc:Value} {env:Env} (hg:gens[d]?=some ⟨target,iter,ifs,0⟩) (hn:∀g',gens[d+1]?=some g'->g'.is_async=0/\∀x,foldedSetIterable g'.iter env x=pure x) (I:Nat->Shared->Prop)
  (turn:∀n s,I n s->wpAny (model prog w) A (pyNext it) (λ r s₁=>match r with
   | none=>R (.ok .next) s₁
   | some v=>wpAny (model prog w) A (letOwnedTupleGo target it v) (λ _ s₁'=>wpAny (model prog w) A (assign target env v) (λ _ s₂=>
     wpAny (model prog w) A (forIn ifs true λ c r=>if r=true then do let ok <-isTrue c env (eval c env); pure (ForInStep.yield ok) else pure (ForInStep.yield r)) (λ ok s₃=>
      if ok=true then jP prog w A (.ListComp elt gens scope pos) elt d acc env (λ s₅=>∃m,m < n/\I m s₅) gens[d+1]? s₃
      else ∃m,m < n/\I m s₃) (λ _ _=>False) s₂) (λ _ _=>False) s₁') (λ _ _=>False) s₁) (λ _ _=>False) s)
  (n:Nat) (h:I n s) :
  codeAny (model prog w) A (.compLoop (.ListComp elt gens scope pos) d it acc env) R s:=by
 refine codeAny_loop rfl I (λ n s hI=>?_) n h
 show wpAny _ A ((compTurn (.ListComp elt gens scope pos) d it acc env).onRaise (λ x=>do noteFrame x env; theTreesLotGoes x)) _ _ s
 refine wpAny_noted ?_
 cases hx:gens[d+1]? with
 | none=>
  rw [iV _ _ _ _ _ _ _ _ _ _ _ hg hx]
  refine wpAny_bind (wpAny_standAt (wpAny_bind (wpAny_mono (turn n s hI) (λ r s₁ h₁=>?_) λ _ _ h'=>h'.elim)))
  cases r with
  | none=>exact wpAny_pure h₁
  | some v=>
   refine wpAny_bind (wpAny_mono h₁ (λ _ s₁' h₁'=>?_) λ _ _ h'=>h'.elim)
   refine wpAny_bind (wpAny_mono h₁' (λ _ s₂ h₂=>wpAny_bind (wpAny_mono h₂ (λ ok s₃ h₃=>?_) λ _ _ h'=>h'.elim)) λ _ _ h'=>h'.elim)
   cases ok with
   | false=>exact wpAny_pure ⟨rfl,h₃⟩
   | true=>
    rw [hx] at h₃
    exact wpAny_bind (wpAny_bind (wpAny_mono h₃ (λ x s₄ h₄=>wpAny_bind (wpAny_mono h₄ (λ _ s₅ h₅=>wpAny_pure (wpAny_pure ⟨rfl,h₅⟩)) λ _ _ h'=>h'.elim)) λ _ _ h'=>h'.elim))
 | some g'=>
  obtain ⟨target',iter',ifs',as⟩:=g'
  obtain ⟨h0,hfs⟩:=hn _ hx
  have h0:as=0:=h0
  subst h0
  rw [iW _ _ _ _ _ _ _ _ _ _ _ _ _ _ hg hx]
  refine wpAny_bind (wpAny_standAt (wpAny_bind (wpAny_mono (turn n s hI) (λ r s₁ h₁=>?_) λ _ _ h'=>h'.elim)))
  cases r with
  | none=>exact wpAny_pure h₁
  | some v=>
   refine wpAny_bind (wpAny_mono h₁ (λ _ s₁' h₁'=>?_) λ _ _ h'=>h'.elim)
   refine wpAny_bind (wpAny_mono h₁' (λ _ s₂ h₂=>wpAny_bind (wpAny_mono h₂ (λ ok s₃ h₃=>?_) λ _ _ h'=>h'.elim)) λ _ _ h'=>h'.elim)
   cases ok with
   | false=>exact wpAny_pure ⟨rfl,h₃⟩
   | true=>
    rw [hx] at h₃
    refine wpAny_bind (wpAny_mono h₃ (λ x s₄ h₄=>?_) λ _ _ h'=>h'.elim)
    refine wpAny_bind (wpAny_standAt (wpAny_bind (wpAny_of_eq (hfs x) (wpAny_bind (wpAny_holding (wpAny_mono h₄ (λ it' s₅ h₅=>?_) λ _ _ h'=>h'.elim))))))
    refine wpAny_bind (wpAny_runOwn (codeAny_mono h₅ λ r s₆ h₆=>?_))
    cases r with
    | ok f=>exact wpAny_pure ⟨rfl,h₆⟩
    | error e=>exact h₆.elim
theorem eO {elt target iter:Expr} {gens:List Comprehension} {ifs:List Expr} {scope:Scope} {pos:Pos} {d:Nat} {it acc:Value} {env:Env} (hg:gens[d]?=some ⟨target,iter,ifs,0⟩)
  (h0:codeAny (model prog w) A (.compLoop (.ListComp elt gens scope pos) d it acc env) R s)
  (h:wpAny (model prog w) A (pyIter it) (λ it' s'=>codeAny (model prog w) A (.compLoop (.ListComp elt gens scope pos) d it' acc env) R s')
   (notedBy (model prog w) A env λ x s'=>R (.error x) s') s) :
  codeAny (model prog w) A (.compStart (.ListComp elt gens scope pos) d it acc env) R s:=by
 refine codeAny_of_tree ?_
 show wpAny _ _ ((compStart (.ListComp elt gens scope pos) d it acc env).onRaise (λ x=>do noteFrame x env; standAt theWindowsPlace)) _ _ s
 refine wpAny_notedAt ?_
 unfold compStart
 have hcl:(clausesOf (.ListComp elt gens scope pos))[d]?=some ⟨target,iter,ifs,0⟩:=hg
 simp only [hcl]
 show wpAny _ _ (ask >>= _) _ _ s
 refine wpAny_bind (wpAny_askSetting (wpAny_ite ?_))
 split
 ·first
   | exact wpAny_bind (wpAny_pure (wpAny_pure (And.intro rfl h0)))
   | exact wpAny_pure (And.intro rfl h0)
 ·first
   | exact wpAny_bind (wpAny_rule (wpAny_bind (wpAny_standAt (wpAny_bind (wpAny_mono h (λ it' s' h'=>wpAny_pure (And.intro rfl h')) λ _ _ x=>x)))))
   | (refine wpAny_bind (wpAny_rule ?_); show wpAny _ _ (standAt iter.pos >>= _) _ _ s; exact wpAny_bind (wpAny_standAt (wpAny_bind (wpAny_mono h (λ it' s' h'=>wpAny_pure (And.intro rfl h')) λ _ _ x=>x))))
end
end D
end
section
namespace D
open PySem PySem.Spec PyProof.Rows L2
noncomputable def PB (X:L2.Cx) (e elt:Expr) (gens:List Comprehension) (d:Nat) (Δ:Addr) (t:L2.St->Hp->(L2.St->Hp->Prop)->Prop):Prop:=
 ∀(pins:List (Addr×Obj)) (s:Shared) (σ:L2.St) (H:Hp) (Q:L2.St->Hp->Prop),Inv X pins σ H s->t σ H Q->
  jP X.prog X.w X.A e elt d (.ref Δ) X.env (λ s'=>∃σ' H',Inv X pins σ' H' s'/\Q σ' H') gens[d+1]? s
noncomputable def SB (X:L2.Cx) (cl:Cl) (Δ:Addr) (ev:Loc->Mem->List W->R (List W×Loc)):L2.St->Hp->(L2.St->Hp->Prop)->Prop:=fun σ H Q=>
 ∃β ρ m acc vs acc' ρ' m',Rel X.K cl β m H/\RL X.K β H ρ σ/\H Δ=some (.lst vs)/\Δ∉β/\RWs X.K β H acc vs/\ev ρ m acc=.ok (acc',ρ') m'/\
  ∀β' H' σ' vs',bK (some Δ) β H β' H'->Rel X.K cl β' m' H'->RL X.K β' H' ρ' σ'->H' Δ=some (.lst vs')->Δ∉β'->RWs X.K β' H' acc' vs'->Q σ' H'
section
variable {X:L2.Cx} {cl:Cl} {C:D.Cx} {e elt:Expr} {gens:List Comprehension} {d:Nat} {Δ:Addr}
theorem Ext.nq {β β':List Addr} {H H':Hp} {vs:List V} (x:Ext β H β' H') (hd:H Δ=some (.lst vs)) (hn:Δ∉β):H' Δ=some (.lst vs)/\Δ∉β':=by
 refine ⟨x.keep hd hn (by simp),λ z=>?_⟩
 obtain ⟨γ,rfl,hγ⟩:=x.pre
 rcases List.mem_append.mp z with z | z
 ·exact hn z
 ·rw [hγ _ z] at hd; cases hd
theorem isL {H:Hp} {vs:List V} (hd:H Δ=some (.lst vs)):∀d,some Δ=some d->∃vs,H d=some (.lst vs):=λ d z=>by cases z; exact ⟨_,hd⟩
theorem wu {H:Hp} {vs:List V} (hd:H Δ=some (.lst vs)):∀d,some Δ=some d->H d≠none:=λ d z=>by cases z; rw [hd]; exact λ z=>nomatch z
theorem Au {de:E} (hx:X.xe=λ _ _=>False) (hn:gens[d+1]?=none) (he:PE X elt (SE X cl (evE C de))):PB X e elt gens d Δ (SB X cl Δ (evG C (.elt de))):=by
 intro pins s σ H Q I h
 obtain ⟨β,ρ,m,acc,vs,acc',ρ',m',r,l,hd,nd,q,ev,k⟩:=h
 simp only [evG] at ev
 obtain ⟨w,m1,e1,ev⟩:=R.aa ev
 split at ev
 ·rename_i hl
  cases ev
  rw [hn]
  have go:=he pins s σ H (λ v H1=>∃β1,Ext β H β1 H1/\Rel X.K cl β1 m' H1/\RW X.K β1 H1 w v) I ⟨β,ρ,m,w,m',r,l,e1,fun β1 H1 v1 x1 r1 q1=>⟨β1,x1,r1,q1⟩⟩
  rw [hx] at go
  refine wpAny_mono go (λ u s1 ⟨v,H1,I1,rv,β1,x1,r1,q1⟩=>?_) λ _ _ z=>z
  obtain ⟨hd1,nd1⟩:=x1.nq hd nd
  have hlen:vs.length < sizeLine:=Nat.lt_of_lt_of_le (by rw [<-q.length]; exact hl) br
  have ap:=je (X:=X) pins s1 σ H1 (.ref Δ) [v] (.ref Δ) [u] (λ _ H'=>H'=upd H1 Δ (.lst (vs++[v]))) I1 rfl (.cons rv .nil) ⟨_,vs,v,rfl,rfl,hd1,hlen,rfl⟩
  rw [hx] at ap
  refine wpAny_mono ap (λ _ s2 ⟨_,H2,I2,_,e2⟩=>?_) λ _ _ z=>z
  subst e2
  obtain ⟨x2,r2⟩:=r1.nq (vs':=vs++[v]) hd1 nd1
  refine ⟨σ,_,I2,k β1 _ σ (vs++[v]) (x1.toD.trans r1 x2 (wu hd1)) r2 ((l.mono r x1).bM r1 (isL hd1) x2) aA nd1 ?_⟩
  exact ((q.mono r x1).bM r1 (isL hd1) x2).append (.cons (q1.bM r1 (isL hd1) x2) .nil)
 ·cases ev
theorem lz {scope:Scope} {pos:Pos} {tg iter:Expr} {ifs:List Expr} {t:T} {di:Es} {rest:G} {J:It} {fp:List Addr} {it:Addr} {tn:Nat->Heap->Prop} {src:Src} {β0:List Addr} {H0:Hp}
  (hx:X.xe=λ _ _=>False) (hc:X.calm=true) (hg:gens[d]?=some ⟨tg,iter,ifs,0⟩) (hn:∀g',gens[d+1]?=some g'->g'.is_async=0/\∀x,foldedSetIterable g'.iter X.env x=pure x)
  (Tu:Turn X.prog X.w X.K tg J fp it tn) (is:IS X cl J src β0 H0) (pg:PG X tg (SG X cl (evA C (.pt t)))) (pif:iO X ifs (ST X cl (aN C di))) (pb:PB X (.ListComp elt gens scope pos) elt gens d Δ (SB X cl Δ (evG C rest)))
  {pins:List (Addr×Obj)} {s:Shared} {σ:L2.St} {H:Hp} {β:List Addr} {ρ ρ':Loc} {m m':Mem} {acc acc':List W} {vs:List V} {n:Nat} (I:Inv X pins σ H s) (st:tn 0 s.heap) (wA:∀b∈fp,fL X pins H b)
  (hpre:∃γ,β=β0++γ) (htup:∀{a:Addr} {vs:List V},SqT X.K H0 a vs->SqT X.K H a vs) (hfz:∀{a:Addr} {o:Obj} {u:HO},H0 a=some (.frz o u)->H a=some (.frz o u)) (r:Rel X.K cl β m H) (l:RL X.K β H ρ σ) (hd:H Δ=some (.lst vs)) (nd:Δ∉β) (q:RWs X.K β H acc vs)
  (ev:bH src.get t (fun ρ m=>aN C di ρ m) (fun ρ m acc=>evG C rest ρ m acc) n 0 ρ m acc=.ok (acc',ρ') m') {Rr:Result->Shared->Prop}
  (fin:∀s' σ' H' β' vs',Inv X pins σ' H' s'->bK (some Δ) β H β' H'->Rel X.K cl β' m' H'->RL X.K β' H' ρ' σ'->H' Δ=some (.lst vs')->Δ∉β'->RWs X.K β' H' acc' vs'->Rr (.ok .next) s') :
  codeAny (model X.prog X.w) X.A (.compLoop (.ListComp elt gens scope pos) d (.ref it) (.ref Δ) X.env) Rr s:=by
 have stat:∀{H':Hp},(∀b∈fp,H' b=none)->∀b∈fp,fL X pins H' b:=λ hn b hb=>⟨hn b hb,(wA b hb).2⟩
 refine jQ hg hn (λ n s'=>∃i σ' H' β' ρ1 m1 acc1 vs1,Inv X pins σ' H' s'/\tn i s'.heap/\(∀b∈fp,H' b=none)/\bK (some Δ) β H β' H'/\Rel X.K cl β' m1 H'/\RL X.K β' H' ρ1 σ'/\H' Δ=some (.lst vs1)/\Δ∉β'/\RWs X.K β' H' acc1 vs1/\
  bH src.get t (fun ρ m=>aN C di ρ m) (fun ρ m acc=>evG C rest ρ m acc) n i ρ1 m1 acc1=.ok (acc',ρ') m') ?_ n ⟨0,σ,H,β,ρ,m,acc,vs,I,st,λ b hb=>(wA b hb).1,Ext.refl,r,l,hd,nd,q,ev⟩
 rintro n s1 ⟨i,σ1,H1,β1,ρ1,m1,acc1,vs1,I1,st1,fr1,x1,r1,l1,hd1,nd1,q1,e1⟩
 have DR:∃γ,β1=β0++γ:=by
  obtain ⟨γ,h1,_⟩:=x1.pre
  obtain ⟨δ,h2⟩:=hpre
  exact ⟨δ++γ,by rw [h1,h2,List.append_assoc]⟩
 obtain ⟨go,stop⟩:=is β1 m1 H1 i DR (λ h=>x1.sqT r (isL hd) (htup h)) (λ h=>x1.fz r (isL hd) (hfz h)) r1
 unfold bH at e1
 split at e1
 ·cases e1
 ·rename_i e2
  cases e1
  refine wpAny_mono (Tu.done X rfl rfl rfl hc i pins s1 σ1 H1 (λ _ _=>False) I1 (stat fr1) st1 (stop e2)) (λ rr s2 ⟨hr,I2⟩=>?_) λ _ _ z=>z
  subst hr
  exact fin s2 σ1 H1 β1 vs1 I2 x1 r1 l1 hd1 nd1 q1
 ·rename_i w e2
  obtain ⟨g1,g2⟩:=go w e2
  split at e1
  ·cases e1
  ·rename_i n'
   split at e1
   ·cases e1
   ·rename_i ρ2 e3
    obtain ⟨b,m3,e4,e5⟩:=R.aa e1
    refine wpAny_mono (Tu.item X rfl rfl rfl hc i pins s1 σ1 H1 (λ _ _=>False) I1 (stat fr1) st1 g1) (λ rr s2 ⟨u,hr,h2⟩=>?_) λ _ _ z=>z
    subst hr
    refine wpAny_mono h2 (λ _ s3 ⟨x,H3,I3,r3,y3,st3,fr3⟩=>?_) λ _ _ z=>z
    obtain ⟨x3,rr3,q3⟩:=g2 x H3 y3
    obtain ⟨hd3,nd3⟩:=x3.nq hd1 nd1
    have I3':=I3.pinned (stat fr3) (Tu.obj _ _ st3)
    have l3:=l1.mono r1 x3
    have go4:=pg _ s3 σ1 H3 x u (fun σ4 H4=>∃β4,Ext β1 H3 β4 H4/\Rel X.K cl β4 m1 H4/\RL X.K β4 H4 ρ2 σ4) I3' r3 ⟨β1,ρ1,m1,w,ρ2,m1,rr3,l3,q3,by simp only [evA,e3],fun β4 H4 σ4 x4 r4 l4=>⟨β4,x4,r4,l4⟩⟩
    rw [hx] at go4
    refine wpAny_mono go4 (λ _ s4 ⟨σ4,H4,I4,β4,x4,r4,l4⟩=>?_) λ _ _ z=>z
    obtain ⟨hd4,nd4⟩:=x4.nq hd3 nd3
    have go5:=pif _ s4 σ4 H4 (λ bb H5=>bb=b/\∃β5,Ext β4 H4 β5 H5/\Rel X.K cl β5 m3 H5) I4 ⟨β4,ρ2,m1,b,m3,r4,l4,e4,fun β5 H5 x5 r5=>⟨rfl,β5,x5,r5⟩⟩
    rw [hx] at go5
    refine wpAny_mono go5 (λ bb s5 ⟨H5,I5,hb,β5,x5,r5⟩=>?_) λ _ _ z=>z
    subst hb
    obtain ⟨hd5,nd5⟩:=x5.nq hd4 nd4
    have l5:=l4.mono r4 x5
    have x15:Ext β1 H1 β5 H5:=(x3.trans rr3 x4).trans r4 x5
    have x05:bK (some Δ) β H β5 H5:=x1.trans r1 x15.toD (wu hd1)
    have q5:=q1.mono r1 x15
    have again:∀{σ':L2.St} {H':Hp} {s':Shared} {β':List Addr} {ρ4:Loc} {m4:Mem} {wB:List W} {vs4:List V},Inv X (pins++gH fp s3.heap) σ' H' s'->bK (some Δ) β H β' H'->Rel X.K cl β' m4 H'->RL X.K β' H' ρ4 σ'->H' Δ=some (.lst vs4)->Δ∉β'->RWs X.K β' H' wB vs4->
      bH src.get t (fun ρ m=>aN C di ρ m) (fun ρ m acc=>evG C rest ρ m acc) n' (i+1) ρ4 m4 wB=.ok (acc',ρ') m'->
      ∃mm,mm < n'+1/\∃i σ' H' β' ρ1 m1 acc1 vs1,Inv X pins σ' H' s'/\tn i s'.heap/\(∀b∈fp,H' b=none)/\bK (some Δ) β H β' H'/\Rel X.K cl β' m1 H'/\RL X.K β' H' ρ1 σ'/\H' Δ=some (.lst vs1)/\Δ∉β'/\RWs X.K β' H' acc1 vs1/\
       bH src.get t (fun ρ m=>aN C di ρ m) (fun ρ m acc=>evG C rest ρ m acc) mm i ρ1 m1 acc1=.ok (acc',ρ') m':=λ {σ' H' s' β' ρ4 m4 wB vs4} I' x' r' l' hd' nd' q' e'=>by
     refine ⟨n',Nat.lt_succ_self _,i+1,σ',H',β',ρ4,m4,wB,vs4,I'.fc,Tu.keep _ _ _ st3 λ b hb o eo=>(I'.pin (b,o) (List.mem_append_right _ (List.mem_append_right _ (dg hb eo)))).1,λ b hb=>?_,x',r',l',hd',nd',q',e'⟩
     obtain ⟨o,eo,_⟩:=Tu.obj _ _ st3 b hb
     exact (I'.pin (b,o) (List.mem_append_right _ (List.mem_append_right _ (dg hb eo)))).2.1
    cases bb with
    | false=>exact again I5 x05 r5 l5 hd5 nd5 q5 e5
    | true=>
     simp only [if_true] at e5 ⊢
     obtain ⟨p,m6,e6,e7⟩:=R.aa e5
     obtain ⟨acc6,ρ6⟩:=p
     have go6:=pb _ s5 σ4 H5 (fun σ6 H6=>∃β6 vs6,bK (some Δ) β5 H5 β6 H6/\Rel X.K cl β6 m6 H6/\RL X.K β6 H6 ρ6 σ6/\H6 Δ=some (.lst vs6)/\Δ∉β6/\RWs X.K β6 H6 acc6 vs6) I5 ⟨β5,ρ2,m3,acc1,vs1,acc6,ρ6,m6,r5,l5,hd5,nd5,q5,e6,fun β6 H6 σ6 vs6 x6 r6 l6 hd6 nd6 q6=>⟨β6,vs6,x6,r6,l6,hd6,nd6,q6⟩⟩
     have mono:∀{Q Q':Shared->Prop} {o:Option Comprehension} {s:Shared},(∀s,Q s->Q' s)->jP X.prog X.w X.A (.ListComp elt gens scope pos) elt d (.ref Δ) X.env Q o s->jP X.prog X.w X.A (.ListComp elt gens scope pos) elt d (.ref Δ) X.env Q' o s:=by
      intro Q Q' o s hq h
      cases o with
      | none=>exact wpAny_mono h (λ _ _ h=>wpAny_mono h (λ _ s z=>hq s z) λ _ _ z=>z) λ _ _ z=>z
      | some g=>exact wpAny_mono h (λ _ _ h=>wpAny_mono h (λ _ s z=>codeAny_mono z λ rr s' z'=>by
        cases rr with
        | ok f=>exact hq _ z'
        | error e=>exact z') λ _ _ z=>z) λ _ _ z=>z
     refine mono (λ s6 ⟨σ6,H6,I6,β6,vs6,x6,r6,l6,hd6,nd6,q6⟩=>?_) go6
     exact again I6 (x05.trans r5 x6 (wu hd5)) r6 l6 hd6 nd6 q6 e7
theorem Cp {scope:Scope} {pos:Pos} {tg iter:Expr} {ifs:List Expr} {t:T} {dit:E} {di:Es} {rest:G} (hx:X.xe=λ _ _=>False) (hc:X.calm=true) (hg:gens[d+1]?=some ⟨tg,iter,ifs,0⟩) (hn:∀g',gens[d+1+1]?=some g'->g'.is_async=0/\∀x,foldedSetIterable g'.iter X.env x=pure x)
  (hi:PI X tg iter (SI X cl (evI C dit))) (pg:PG X tg (SG X cl (evA C (.pt t)))) (pif:iO X ifs (ST X cl (aN C di))) (pb:PB X (.ListComp elt gens scope pos) elt gens (d+1) Δ (SB X cl Δ (evG C rest))) :
  PB X (.ListComp elt gens scope pos) elt gens d Δ (SB X cl Δ (evG C (.gen t [] dit di rest))):=by
 intro pins s σ H Q I h
 obtain ⟨β,ρ,m,acc,vs,acc',ρ',m',r,l,hd,nd,q,ev,k⟩:=h
 simp only [evG,clr] at ev
 obtain ⟨src,m1,e1,ev⟩:=R.aa ev
 rw [hg]
 have go:=hi pins s σ H (λ J H1=>∃β1,Ext β H β1 H1/\Rel X.K cl β1 m1 H1/\IS X cl J src β1 H1) I ⟨β,ρ,m,src,m1,r,l,e1,fun β1 H1 J x1 r1 is=>⟨β1,x1,r1,is⟩⟩
 rw [hx] at go
 refine wpAny_mono go (λ v s1 h1=>wpAny_mono h1 (λ itv s2 h2=>?_) λ _ _ z=>z) λ _ _ z=>z
 obtain ⟨it,fp,tn,J,H1,e2,I1,Tu,st,wA,β1,x1,r1,is⟩:=h2
 subst e2
 obtain ⟨hd1,nd1⟩:=x1.nq hd nd
 have loop:codeAny (model X.prog X.w) X.A (.compLoop (.ListComp elt gens scope pos) (d+1) (.ref it) (.ref Δ) X.env) (λ rr s₆=>match rr with
   | .ok _=>∃σ' H',Inv X pins σ' H' s₆/\Q σ' H'
   | .error _=>False) s2:=
  lz hx hc hg hn Tu is pg pif pb I1 st wA ⟨[],by simp⟩ (λ h=>h) (λ h=>h) r1 (l.mono r x1) hd1 nd1 (q.mono r x1) ev λ s' σ' H' β' vs' I' x' r' l' hd' nd' q'=>⟨σ',H',I',k β' H' σ' vs' (x1.toD.trans r1 x' (wu hd1)) r' l' hd' nd' q'⟩
 exact eO hg loop (Tu.self _ 0 _ _ _ st loop)
theorem RL.clr {K:PySem.W.Frag} {β:List Addr} {H:Hp}:∀{js:List Nat} {ρ:Loc} {σ:L2.St},RL K β H ρ σ->RL K β H (D.clr js ρ) (L2.clr js σ)
 | [],_,_,l=>l
 | j::js,ρ,σ,l=>by
  refine RL.clr (js:=js) ⟨by simp [l.len],λ {i w} h=>?_⟩
  by_cases e:j=i
  ·subst e
   rw [List.getElem?_set] at h
   rw [if_pos rfl] at h
   split at h<;>cases h
  ·rw [List.getElem?_set_ne e] at h ⊢
   exact l.at_ h
theorem lA {scope:Scope} {pos:Pos} {js:List Nat} {tg iter:Expr} {ifs:List Expr} {t:T} {dit:E} {di:Es} {rest:G} (hc:X.calm=true) (ok:eT X.N js scope X.env.scope) (hg:gens[0]?=some ⟨tg,iter,ifs,0⟩) (hn:∀g',gens[1]?=some g'->g'.is_async=0/\∀env x,foldedSetIterable g'.iter env x=pure x)
  (hi:PI X tg iter (SI X cl (evI C dit))) (pg:∀cl' s₀ H₀ fp pn,PG (X.comp scope cl' s₀ H₀ fp pn) tg (SG (X.comp scope cl' s₀ H₀ fp pn) cl (evA C (.pt t)))) (pif:∀cl' s₀ H₀ fp pn,iO (X.comp scope cl' s₀ H₀ fp pn) ifs (ST (X.comp scope cl' s₀ H₀ fp pn) cl (aN C di)))
  (pb:∀cl' s₀ H₀ fp pn Δ,PB (X.comp scope cl' s₀ H₀ fp pn) (.ListComp elt gens scope pos) elt gens 0 Δ (SB (X.comp scope cl' s₀ H₀ fp pn) cl Δ (evG C rest)))
  (hs:∀x,foldedSetIterable iter X.env x=pure x) {pins:List (Addr×Obj)} {s:Shared} {σ:L2.St} {H:Hp} {Q:VK} (I:Inv X pins σ H s) (h:SE X cl (evE C (.comp (.gen t js dit di rest))) σ H Q) {p:Pos} {use:Option (Value->Sem Unit)} {Q':Value->Shared->Prop}
  (fin:∀(D Cf:Addr) (s':Shared) (H':Hp),(∀h',(∀b o,b≠Cf->s'.heap.get? b=some o->h'.get? b=some o)->Inv X pins σ H' {s' with heap:=h'})->Q (.ref D) H'->(∃m,s'.heap.Ns Cf m)->H' Cf=none->Cf≠X.env.locals->X.s₀.heap.objs.size<=Cf->(∀x c,X.env.cells.lookup x=some c->c≠Cf)->(∀p∈X.pn++pins,p.1≠Cf)->
   compPost (model X.prog X.w) X.A X.xe use Q' (.ref D) Cf (.ok .next) s') :
  wpAny (model X.prog X.w) X.A (comprehension (.ListComp elt gens scope pos) scope X.env p (newList []) false (eval iter X.env) use) Q' X.xe s:=by
 obtain ⟨β,ρ,m,w,m',r,l,e,k⟩:=h
 simp only [evE] at e
 obtain ⟨⟨ws,ρ9⟩,m9,e8,e9⟩:=R.aa e
 cases e9
 clear e
 simp only [evG] at e8
 obtain ⟨src,m1,e1,e⟩:=R.aa e8
 clear e8
 have hgs:∃gs,gens=⟨tg,iter,ifs,0⟩::gs:=by
  cases gens with
  | nil=>simp at hg
  | cons g gs=>simp at hg; exact ⟨gs,by rw [hg]⟩
 obtain ⟨gs,rfl⟩:=hgs
 have hclos:closureFor scope X.env=pure (bS X.env scope.names []):=iN λ y hy hk=>I.ok.has y.1 (ok.free y hy hk)
 refine wpAny_comprehension_free rfl hs hclos ok.kind ok.loc (thn (hi pins s σ H (λ J H1=>∃β1,Ext β H β1 H1/\Rel X.K cl β1 m1 H1/\IS X cl J src β1 H1) I ⟨β,ρ,m,src,m1,r,l,e1,fun β1 H1 J x1 r1 is=>⟨β1,x1,r1,is⟩⟩) λ v s1 h1=>thn h1 λ itv s2 h2=>?_)
 obtain ⟨it,fp,tn,J,H2,e2,I2,Tu,st2,f2,β2,x2,r2,is⟩:=h2
 subst e2
 have hD2:H2 s2.heap.objs.size=none:=I2.fresh
 refine wpAny_newObj_type ?_
 have I3:Inv X pins σ (upd H2 s2.heap.objs.size (.lst [])) {s2 with heap:=s2.heap.push {cls:=.type "list",dict:=none,data:=.seq ([]:List Value).toArray}}:=
  I2.BC (its:=[]) (t':=s2.toks) .nil (Nat.zero_le _)
 generalize hs3:({s2 with heap:=s2.heap.push {cls:=.type "list",dict:=none,data:=.seq ([]:List Value).toArray}}:Shared)=s3 at I3 ⊢
 have Cq:∀b o,s2.heap.get? b=some o->s3.heap.get? b=some o:=λ b o e=>by rw [<-hs3]; exact Heap.get?_push_of_some _ e
 have wC:∀b∈fp,b < s2.heap.objs.size:=λ b hb=>by
  obtain ⟨o,e,_⟩:=Tu.obj _ _ st2 b hb
  exact Heap.lt_size e
 have Av:s3.heap.objs.size=s2.heap.objs.size+1:=by rw [<-hs3]; exact Heap.size_push _ _
 have f3:∀b∈fp,fL X pins (upd H2 s2.heap.objs.size (.lst [])) b:=λ b hb=>⟨by rw [ai (Nat.ne_of_lt (wC b hb))]; exact (f2 b hb).1,(f2 b hb).2⟩
 refine I3.enter ok f3 (λ b hb=>by rw [Av]; exact Nat.lt_succ_of_lt (wC b hb)) λ cells h₁ old F I4=>?_
 have st4:tn 0 h₁:=Tu.keep _ _ _ st2 λ b hb o e=>old _ _ (Cq _ _ e)
 have stat:∀{H':Hp},(∀b∈fp,H' b=none)->∀b∈fp,fL (X.comp scope cells s3 (upd H2 s2.heap.objs.size (.lst [])) fp pins) [] H' b:=λ {H'} hn b hb=>by
  refine ⟨hn b hb,?_,λ z=>?_,.inl hb,λ x c e=>?_,λ p hp=>?_⟩
  ·show b≠s3.heap.objs.size
   exact Nat.ne_of_lt (by rw [Av]; exact Nat.lt_succ_of_lt (wC b hb))
  ·rcases List.mem_cons.mp (I3.jz b z) with q | q
   ·exact (f2 b hb).2.1 q
   ·exact (f2 b hb).2.2.1 q
  ·rcases F.old x c e with e | e
   ·exact (f2 b hb).2.2.2.2.1 x c e
   ·exact Nat.ne_of_gt (Nat.lt_trans (by rw [Av]; exact Nat.lt_succ_of_lt (wC b hb)) e)
  ·exact (f2 b hb).2.2.2.2.2 p (by simpa using hp)
 have x3:Ext β2 H2 β2 (upd H2 s2.heap.objs.size (.lst [])):=⟨⟨[],by simp,by simp⟩,λ h _ _=>by rw [ai (aq h hD2)]; exact h⟩
 have r3:Rel X.K cl β2 m1 (upd H2 s2.heap.objs.size (.lst [])):=⟨r2.len,r2.nd,λ h1 h2=>by
  have q:=r2.obj h1 h2
  obtain ⟨u,e,_⟩:=q.ex
  exact q.mono r2 x3 (ai (aq e hD2))⟩
 have l3:RL X.K β2 (upd H2 s2.heap.objs.size (.lst [])) (D.clr js ρ) (L2.clr js σ):=((l.mono r x2).mono r2 x3).clr
 have nD:s2.heap.objs.size∉β2:=r2.nin hD2
 have hD:H s2.heap.objs.size=none:=by
  cases z:H s2.heap.objs.size with
  | none=>rfl
  | some o=>
   by_cases hb:s2.heap.objs.size∈β
   ·obtain ⟨γ,hγ,_⟩:=x2.pre
    exact absurd (by rw [hγ]; exact List.mem_append_left _ hb) nD
   ·have:=x2.keep z hb (by simp)
    rw [hD2] at this; cases this
 have loop:∀s₄:Shared,s₄={s3 with heap:=h₁}->
   codeAny (model X.prog X.w) X.A (.compLoop (.ListComp elt (⟨tg,iter,ifs,0⟩::gs) scope pos) 0 (.ref it) (.ref s2.heap.objs.size) (compEnvC scope cells s3.heap.objs.size X.env))
    (compPost (model X.prog X.w) X.A X.xe use Q' (.ref s2.heap.objs.size) s3.heap.objs.size) s₄:=by
  intro s₄ e₄
  subst e₄
  refine lz (X:=X.comp scope cells s3 (upd H2 s2.heap.objs.size (.lst [])) fp pins) (cl:=cl) (C:=C) (Δ:=s2.heap.objs.size) rfl hc rfl (λ g' hg'=>⟨(hn g' hg').1,(hn g' hg').2 _⟩) Tu is (pg _ _ _ _ _) (pif _ _ _ _ _) (pb _ _ _ _ _ _)
   I4 st4 (stat λ b hb=>(f3 b hb).1) ⟨[],by simp⟩ (λ h=>x3.sqT r2 noD h) (λ h=>x3.fz r2 noD h) r3 l3 aA nD .nil e ?_
  intro s' σ' H' β' vs' I' x' r' l' hd' nd' q'
  obtain ⟨m6,hm6,_⟩:=id I'.loc
  have DS:=r'.out hd' nd' q'
  have DT:Ext β H (β'++[s2.heap.objs.size]) H':=by
   obtain ⟨γ,hγ,fγ⟩:=x2.pre
   obtain ⟨δ,hδ,fδ⟩:=x'.pre
   refine ⟨⟨γ++δ++[s2.heap.objs.size],by rw [hδ,hγ]; simp,λ a ha=>?_⟩,λ {a o} h hb _=>?_⟩
   ·rcases List.mem_append.mp ha with ha | ha
    ·rcases List.mem_append.mp ha with ha | ha
     ·exact fγ a ha
     ·have z3:=fδ a ha
      have na:a≠s2.heap.objs.size:=by
       rintro rfl
       rw [aA] at z3; cases z3
      rw [ai na] at z3
      cases z:H a with
      | none=>rfl
      | some o=>
       by_cases hb:a∈β
       ·obtain ⟨u,eu,_⟩:=r2.ex (a:=a) (by rw [hγ]; exact List.mem_append_left _ hb)
        rw [z3] at eu; cases eu
       ·have:=x2.keep z hb (by simp)
        rw [z3] at this; cases this
    ·simp at ha; rw [ha]; exact hD
   ·have h2:=x2.keep h hb (by simp)
    have na:a≠s2.heap.objs.size:=aq h hD
    have nb:a∉β2:=λ z=>by
     rw [hγ] at z
     rcases List.mem_append.mp z with z | z
     ·exact hb z
     ·rw [fγ a z] at h; cases h
    exact x'.keep (by rw [ai na]; exact h2) nb (by simpa using na)
  have DU:Q (.ref s2.heap.objs.size) H':=k _ _ _ DT DS (.ref (r'.last _))
  refine fin _ _ s' H' (λ h' hk=>I3.zF f3 I' hk) DU ⟨m6,hm6⟩ I'.free (Nat.ne_of_gt (Nat.lt_of_lt_of_le I3.lt (Nat.le_refl _))) I3.sz (λ x c e=>?_) (λ p hp=>Nat.ne_of_lt (Heap.lt_size (I3.pin p hp).1))
  obtain ⟨v,o,q,_⟩:=I3.cell x c e
  exact Nat.ne_of_lt (Heap.lt_size q)
 exact eO rfl (loop _ rfl) (Tu.self _ 0 _ _ _ st4 (loop _ rfl))
variable {scope:Scope} {pos:Pos} {js:List Nat} {tg iter:Expr} {ifs:List Expr} {t:T} {dit:E} {di:Es} {rest:G}
theorem Aw (hc:X.calm=true) (ok:eT X.N js scope X.env.scope) (hg:gens[0]?=some ⟨tg,iter,ifs,0⟩) (hn:∀g',gens[1]?=some g'->g'.is_async=0/\∀env x,foldedSetIterable g'.iter env x=pure x)
  (hi:PI X tg iter (SI X cl (evI C dit))) (pg:∀cl' s₀ H₀ fp pn,PG (X.comp scope cl' s₀ H₀ fp pn) tg (SG (X.comp scope cl' s₀ H₀ fp pn) cl (evA C (.pt t)))) (pif:∀cl' s₀ H₀ fp pn,iO (X.comp scope cl' s₀ H₀ fp pn) ifs (ST (X.comp scope cl' s₀ H₀ fp pn) cl (aN C di)))
  (pb:∀cl' s₀ H₀ fp pn Δ,PB (X.comp scope cl' s₀ H₀ fp pn) (.ListComp elt gens scope pos) elt gens 0 Δ (SB (X.comp scope cl' s₀ H₀ fp pn) cl Δ (evG C rest)))
  (hs:∀x,foldedSetIterable iter X.env x=pure x) {pp:Pos} (hev:eval (.ListComp elt gens scope pos) X.env=comprehension (.ListComp elt gens scope pos) scope X.env pp (newList []) false (eval iter X.env) none):PE X (.ListComp elt gens scope pos) (SE X cl (evE C (.comp (.gen t js dit di rest)))):=by
 intro pins s σ H Q I h
 rw [hev]
 refine lA hc ok hg hn hi pg pif pb hs I h ?_
 intro D Cf s' H' hI q hm hn h1 h2 h3 h4
 obtain ⟨m,hm⟩:=hm
 exact ⟨m,hm,λ h' hs'=>⟨.ref D,H',hI h' λ b o hb e=>hs'.extBut b o hb e,rfl,q⟩⟩
theorem wD {i:Nat} {y:Str} {py spos:Pos} {gs:List Comprehension} (hc:X.calm=true) (hN:X.N.Nodup) (hy:X.N[i]?=some y) (hx:L2.Loc X.env.scope y) (ok:eT X.N js scope X.env.scope) (hn:∀g',gs[0]?=some g'->g'.is_async=0/\∀env x,foldedSetIterable g'.iter env x=pure x)
  (hi:PI X tg iter (SI X cl (evI C dit))) (pg:∀cl' s₀ H₀ fp pn,PG (X.comp scope cl' s₀ H₀ fp pn) tg (SG (X.comp scope cl' s₀ H₀ fp pn) cl (evA C (.pt t)))) (pif:∀cl' s₀ H₀ fp pn,iO (X.comp scope cl' s₀ H₀ fp pn) ifs (ST (X.comp scope cl' s₀ H₀ fp pn) cl (aN C di)))
  (pb:∀cl' s₀ H₀ fp pn Δ,PB (X.comp scope cl' s₀ H₀ fp pn) (.ListComp elt (⟨tg,iter,ifs,0⟩::gs) scope pos) elt (⟨tg,iter,ifs,0⟩::gs) 0 Δ (SB (X.comp scope cl' s₀ H₀ fp pn) cl Δ (evG C rest)))
  (hs:∀x,foldedSetIterable iter X.env x=pure x) (hsw:swapsWith (.ListComp elt (⟨tg,iter,ifs,0⟩::gs) scope pos) (some (.Name y py)) spos.line X.env=pure true) (hf:X.fn y=true\/X.env.scope.names.lookup y=some .local) :
  PS X (.Assign [.Name y py] (.ListComp elt (⟨tg,iter,ifs,0⟩::gs) scope pos) spos) (SS X cl (evS C (.asg (.pt (.var i)) (.comp (.gen t js dit di rest))))):=by
 intro pins s σ H D I h
 obtain ⟨β,ρ,m,f,m',r,l,e,k⟩:=h
 simp only [evS] at e
 obtain ⟨w,m1,e1,e⟩:=R.aa e
 simp only [evA,aD,R.bind] at e
 cases e
 have h:SE X cl (evE C (.comp (.gen t js dit di rest))) σ H (λ v H'=>D.nx (σ.set i (some v)) H'):=⟨β,ρ,m,w,_,r,l,e1,fun β1 H1 v1 x1 r1 q1=>k _ _ x1 r1 _ ((l.mono r x1).set q1)⟩
 rw [exec_Assign_Name_used _ _ _ _ hsw]
 refine wpAny_bind (wpAny_standAt (wpAny_bind ?_))
 show wpAny _ X.A (do let _ <-comprehension (.ListComp elt (⟨tg,iter,ifs,0⟩::gs) scope pos) scope X.env _ (newList []) false (eval iter X.env) (some (assign (.Name y py) X.env))) _ _ s
 refine wpAny_bind (wpAny_mono (lA (use:=some (assign (.Name y py) X.env)) (Q':=λ _ s'=>SP X pins D .next s') hc ok rfl (by simpa using hn) hi pg pif pb hs I h ?_) (λ _ s' hq=>wpAny_pure (wpAny_pure hq)) λ _ _ e=>e)
 intro Dl Cf s' H' hI q hm hn h1 h2 h3 h4
 obtain ⟨m,hm⟩:=hm
 have I':Inv X pins σ H' s':=hI s'.heap λ b o _ e=>e
 refine wpAny_assign_Name (i6 I' hN hy hx (v:=.ref Dl) (u:=.ref Dl) rfl (λ s2 I2 hsb=>?_) hf)
 obtain ⟨a,sb,ha⟩:=hsb
 have hne:Cf≠a:=by
  rcases ha with rfl | ha
  ·exact h1
  ·exact (h3 _ _ ha).symm
 refine ⟨m,hm.sameBut sb hne,λ h' hs'=>⟨_,H',?_,q⟩⟩
 exact I2.turned (t':=s2.toks) (it:=Cf) (λ b o hb e=>hs'.extBut b o hb e) hn h1 (.inr h2) h3 h4
theorem wF:iO X [] (ST X cl (aN C .nil)):=by
 intro pins s σ H Q I h
 obtain ⟨β,ρ,m,b,m',r,l,e,k⟩:=h
 simp only [aN] at e
 cases e
 exact r8 pins s σ H Q I (k _ _ Ext.refl r)
theorem wG {a:Expr} {da:E} (ha:PT X a (ST X cl (evT C da))):iO X [a] (ST X cl (aN C (.cons da .nil))):=by
 intro pins s σ H Q I h
 refine r9 ha pins s σ H Q I ?_
 obtain ⟨β,ρ,m,b,m',r,l,e,k⟩:=h
 simp only [aN] at e
 obtain ⟨c,m1,e1,e⟩:=R.aa e
 refine ⟨β,ρ,m,c,m1,r,l,e1,fun β1 H1 x1 r1=>?_⟩
 cases c with
 | true=>simp only [if_true] at e; cases e; exact k _ _ x1 r1
 | false=>simp only [Bool.false_eq_true,if_false] at e; cases e; exact k _ _ x1 r1
end
end D
end
section
namespace D
open PySem PySem.Spec PyProof.Rows L2
section
variable {prog:Program} {w:World} {A:Around} {E:Value->Shared->Prop} {s:Shared}
end
end D
end
section
namespace D
open PySem PySem.Spec PyProof.Rows L2
section
variable {X:L2.Cx} {pins:List (Addr×Obj)} {σ:L2.St} {H:Hp} {s:Shared} {h':Heap}
end
end D
end
section
namespace D
open PySem PySem.Spec PyProof.Rows L2
section
variable {prog:Program} {w:World} {A:Around} {E:Value->Shared->Prop} {s:Shared}
end
section
variable {prog:Program} {w:World} {A:Around} {E:Value->Shared->Prop} {s:Shared}
end
section
variable {X:L2.Cx}
end
end D
end
section
namespace D
open PySem PySem.Spec PyProof.Rows L2
section
variable {X:L2.Cx} {cl:Cl} {C:D.Cx} {pos:Pos}
end
end D
end
section
namespace D
open PySem PySem.Spec PyProof.Rows L2
noncomputable def bO (γ:List Addr) (h:Heap) (H:Hp):Hp:=λ b=>if b∈γ then match H b,h.get? b with
  | some (.lst vs),some o=>some (.frz o (.lst vs))
  | some (.ins c dx fs),some o=>some (.frz o (.ins c dx fs))
  | u,_=>u else H b
section
variable {γ:List Addr} {h:Heap} {H:Hp} {b:Addr}
theorem eU:bO γ h H b=H b\/∃o u,b∈γ/\H b=some u/\h.get? b=some o/\bO γ h H b=some (.frz o u)/\((∃vs,u=.lst vs)\/∃c dx fs,u=.ins c dx fs):=by
 unfold bO
 by_cases hb:b∈γ
 ·simp only [if_pos hb]
  split
  ·rename_i vs o h1 h2
   exact .inr ⟨o,_,hb,h1,h2,rfl,.inl ⟨vs,rfl⟩⟩
  ·rename_i c dx fs o h1 h2
   exact .inr ⟨o,_,hb,h1,h2,rfl,.inr ⟨c,dx,fs,rfl⟩⟩
  ·exact .inl rfl
 ·exact .inl (if_neg hb)
theorem ef (e:H b=none):bO γ h H b=none:=by
 rcases eU (γ:=γ) (h:=h) (H:=H) (b:=b) with z | ⟨o,u,_,z,_⟩
 ·rw [z,e]
 ·rw [e] at z; cases z
theorem bw {u:HO} (e:H b=some u) (h1:∀vs,u≠.lst vs) (h2:∀c dx fs,u≠.ins c dx fs):bO γ h H b=some u:=by
 rcases eU (γ:=γ) (h:=h) (H:=H) (b:=b) with z | ⟨o,u',_,z,_,_,⟨vs,rfl⟩ | ⟨c,dx,fs,rfl⟩⟩
 ·rw [z,e]
 ·rw [e] at z; cases z; exact absurd rfl (h1 _)
 ·rw [e] at z; cases z; exact absurd rfl (h2 _ _ _)
theorem bI (e:b∉γ):bO γ h H b=H b:=by unfold bO; rw [if_neg e]
theorem tQ {vs:List V} {o:Obj} (e:b∈γ) (e1:H b=some (.lst vs)) (e2:h.get? b=some o):bO γ h H b=some (.frz o (.lst vs)):=by unfold bO; rw [if_pos e,e1,e2]
theorem tR {c dx:Addr} {fs:List (Str×V)} {o:Obj} (e:b∈γ) (e1:H b=some (.ins c dx fs)) (e2:h.get? b=some o):bO γ h H b=some (.frz o (.ins c dx fs)):=by unfold bO; rw [if_pos e,e1,e2]
theorem Cr {P:Program} {w:World} (x:HOk P w H h):HOk P w (bO γ h H) h:=λ a u e=>by
 have go:∀v,H a=some v->aT P w (D.bO γ h H) h a v:=λ v hv=>(x a v hv).stay (λ _ _ _ q=>q) (λ c q=>bw q (by intro _ z; cases z) (by intro _ _ _ z; cases z)) λ c xs q=>bw q (by intro _ z; cases z) (by intro _ _ _ z; cases z)
 rcases eU (γ:=γ) (h:=h) (H:=H) (b:=a) with z | ⟨o,v,_,z,z2,z3,_⟩
 ·exact go u (by rw [<-z]; exact e)
 ·rw [z3] at e
  cases e
  exact ⟨z2,go v z⟩
end
theorem xX {X:L2.Cx} {pins:List (Addr×Obj)} {σ:L2.St} {H:Hp} {s:Shared} (I:Inv X pins σ H s) (γ:List Addr):Inv X pins σ (bO γ s.heap H) s where
 ok:=I.ok
 os:=I.os
 bare:=I.bare
 base:={
  keep:=I.base.keep
  slot:=I.base.slot
  free:=λ b o q n hx=>ef (I.base.free b o q n hx)
  there:=I.base.there
  tups:=λ b xs q=>bw (I.base.tups b xs q) (by intro _ z; cases z) (by intro _ _ _ z; cases z)
  gi:=λ b o u q=>bw (I.base.gi b o u q) (by intro _ z; cases z) (by intro _ _ _ z; cases z)
  gG:=λ b ps q=>let ⟨more,e⟩:=I.base.gG b ps q; ⟨more,bw e (by intro _ z; cases z) (by intro _ _ _ z; cases z)⟩}
 loc:=I.loc
 cell:=I.cell
 free:=ef I.free
 freeC:=λ x c e=>ef (I.freeC x c e)
 pin:=λ p hp=>let ⟨a,b,c⟩:=I.pin p hp; ⟨a,ef b,c⟩
 hok:=Cr I.hok
 len:=I.len
section
variable {K:PySem.W.Frag} {cl:Cl} {β γ:List Addr} {H:Hp} {h:Heap} {m:Mem}
theorem xY {a:Addr} {vs:List V} (q:SqT K H a vs):SqT K (bO γ h H) a vs:=by
 rcases q with (q | ⟨o,q⟩) | q
 ·exact .inl (.inl (bw q (by intro _ z; cases z) (by intro _ _ _ z; cases z)))
 ·exact .inl (.inr ⟨o,bw q (by intro _ z; cases z) (by intro _ _ _ z; cases z)⟩)
 ·exact .inr q
theorem xZ {a:Addr} {vs:List V} (q:SqF K H a vs):SqF K (bO γ h H) a vs:=by
 rcases q with ⟨o,q⟩ | q
 ·exact .inl ⟨o,bw q (by intro _ z; cases z) (by intro _ _ _ z; cases z)⟩
 ·exact .inr q
theorem RW.bel {w:W} {v:V} (q:RW K (β++γ) H w v):dM β.length w=true->RW K β (bO γ h H) w v:=
 RW.rec (motive_1:=λ w v _=>dM β.length w=true->RW K β (bO γ h H) w v) (motive_2:=λ w v _=>bJ β.length w=true->RWs K β (bO γ h H) w v) (λ _=>.non) (λ b _=>.bl b) (λ b _=>.int b) (λ b _=>.str b) (λ h _ i e=>.tup (xY h) (i e)) (λ h _ i e=>.fz (xZ h) (i e)) (λ h z _ i e=>.obj (bw h (by intro _ z; cases z) (by intro _ _ _ z; cases z)) z (i e)) (λ q e=>.ref (by rw [List.getElem?_append_left (of_decide_eq_true e)] at q; exact q)) (λ _=>.nil) (λ _ _ a b e=>.cons (a (Bool.and_eq_true_iff.mp e).1) (b (Bool.and_eq_true_iff.mp e).2)) q
theorem RWs.bel {w:List W} {v:List V} (q:RWs K (β++γ) H w v) (e:bJ β.length w=true):RWs K β (bO γ h H) w v:=by
 induction w generalizing v with
 | nil=>cases q; exact .nil
 | cons x w ih=>cases q with | cons a b=>exact .cons (a.bel (Bool.and_eq_true_iff.mp e).1) (ih b (Bool.and_eq_true_iff.mp e).2)
theorem RFs.snd:∀{fs:List (Str×W)} {gs:List (Str×V)},RFs K β H fs gs->RWs K β H (fs.map (·.2)) (gs.map (·.2))/\fs.map (·.1)=gs.map (·.1)
 | _,_,.nil=>⟨.nil,rfl⟩
 | _,_,.cons q t=>⟨.cons q t.snd.1,by rw [List.map_cons,List.map_cons,t.snd.2]⟩
theorem RFs.of:∀{fs:List (Str×W)} {gs:List (Str×V)},fs.map (·.1)=gs.map (·.1)->RWs K β H (fs.map (·.2)) (gs.map (·.2))->RFs K β H fs gs
 | [],[],_,_=>.nil
 | (f,w)::fs,(g,v)::gs,e,t=>by
  simp only [List.map_cons,List.cons.injEq] at e
  obtain ⟨rfl,e⟩:=e
  cases t with
  | cons q t=>exact .cons q (RFs.of e t)
 | [],_::_,e,_=>by simp at e
 | _::_,[],e,_=>by simp at e
mutual
theorem RW.frW {g:Nat->Option W} (hg:∀{n w v},g n=some w->RW K (β++γ) H (.ref n) v->RW K β (bO γ h H) w v):∀{w:W} {v:V} {w1:W},RW K (β++γ) H w v->D.frW g w=some w1->RW K β (bO γ h H) w1 v
 | _,_,_,.non,e=>by simp only [D.frW] at e; cases e; exact .non
 | _,_,_,.bl b,e=>by simp only [D.frW] at e; cases e; exact .bl b
 | _,_,_,.int i,e=>by simp only [D.frW] at e; cases e; exact .int i
 | _,_,_,.str s,e=>by simp only [D.frW] at e; cases e; exact .str s
 | _,_,_,.tup q t,e=>by
  simp only [D.frW,Option.map_eq_some_iff] at e
  obtain ⟨ys,e1,rfl⟩:=e
  exact .tup (xY q) (RWs.cz hg t e1)
 | _,_,_,.fz q t,e=>by
  simp only [D.frW,Option.map_eq_some_iff] at e
  obtain ⟨ys,e1,rfl⟩:=e
  exact .fz (xZ q) (RWs.cz hg t e1)
 | _,_,_,.obj q z t,e=>by
  simp only [D.frW,Option.map_eq_some_iff] at e
  obtain ⟨ys,e1,rfl⟩:=e
  exact .obj (bw q (by intro _ z; cases z) (by intro _ _ _ z; cases z)) z (RWs.cz hg t e1)
 | _,_,_,.ref q,e=>hg (by simpa only [D.frW] using e) (.ref q)
theorem RWs.cz {g:Nat->Option W} (hg:∀{n w v},g n=some w->RW K (β++γ) H (.ref n) v->RW K β (bO γ h H) w v):∀{w:List W} {v:List V} {w1:List W},RWs K (β++γ) H w v->D.cz g w=some w1->RWs K β (bO γ h H) w1 v
 | _,_,_,.nil,e=>by simp only [D.cz] at e; cases e; exact .nil
 | _,_,_,.cons q t,e=>by
  simp only [D.cz] at e
  split at e
  ·cases e
  ·rename_i y e1
   split at e
   ·cases e
   ·rename_i ys e2
    cases e
    exact .cons (RW.frW hg q e1) (RWs.cz hg t e2)
end
theorem jR (hh:∀a u,H a=some u->((∃vs,u=.lst vs)\/∃c dx fs,u=.ins c dx fs)->∃o,h.get? a=some o) (r:Rel K cl (β++γ) m H):∀(d:Nat) {n:Nat} {w:W} {v:V},frG m β.length d n=some w->RW K (β++γ) H (.ref n) v->RW K β (bO γ h H) w v
 | 0,n,w,v,e,q=>by
  simp only [frG] at e
  split at e
  ·rename_i hn
   cases e
   exact q.bel (by simpa only [dM,decide_eq_true_eq] using hn)
  ·cases e
 | d+1,n,w,v,e,q=>by
  simp only [frG] at e
  split at e
  ·rename_i hn
   cases e
   exact q.bel (by simpa only [dM,decide_eq_true_eq] using hn)
  ·rename_i hn
   cases q with
   | ref hb=>
    rename_i a
    have ha:a∈γ:=by
     rw [List.getElem?_append_right (by omega)] at hb
     exact List.mem_of_getElem? hb
    split at e
    ·rename_i xs e1
     simp only [Option.map_eq_some_iff] at e
     obtain ⟨ys,e2,rfl⟩:=e
     obtain ⟨vs,z,t⟩:=r.obj e1 hb
     obtain ⟨o,ho⟩:=hh a _ z (.inl ⟨_,rfl⟩)
     exact .fz (.inl ⟨o,tQ ha z ho⟩) (t.cz (λ e q=>jR hh r d e q) e2)
    ·rename_i c fs e1
     simp only [Option.map_eq_some_iff] at e
     obtain ⟨ys,e2,rfl⟩:=e
     obtain ⟨dx,fs',z,t⟩:=r.obj e1 hb
     obtain ⟨o,ho⟩:=hh a _ z (.inr ⟨_,_,_,rfl⟩)
     exact .obj (tR ha z ho) t.snd.2 (t.snd.1.cz (λ e q=>jR hh r d e q) e2)
    ·cases e
end
theorem x8 {X:L2.Cx} {cl:Cl} {C:D.Cx} {ex:Expr} {d:E} (hp:PE X ex (SE X cl (evE C d))):PE X ex (SE X cl (evE C (.frz d))):=by
 rintro pins s σ H Q I ⟨β,ρ,m,w,m',r,l,e,k⟩
 simp only [evE] at e
 cases h0:evE C d ρ m with
 | no=>rw [h0] at e; cases e
 | ok w0 m0=>
  rw [h0] at e
  simp only [qp] at e
  split at e
  ·rename_i hc
   split at e
   ·rename_i w1 e1
    cases e
    refine thn (hp pins s σ H (λ v H1=>∃β1,Ext β H β1 H1/\Rel X.K cl β1 m0 H1/\RW X.K β1 H1 w0 v) I ⟨β,ρ,m,w0,m0,r,l,h0,fun β1 H1 v1 x1 r1 q1=>⟨β1,x1,r1,q1⟩⟩) λ u s1 ⟨v,H1,I1,rv,β1,x1,r1,q1⟩=>?_
    obtain ⟨γ,rfl,hγ⟩:=x1.pre
    have hl:=r.len
    have hh:∀a u,H1 a=some u->((∃vs,u=.lst vs)\/∃c dx fs,u=.ins c dx fs)->∃o,s1.heap.get? a=some o:=λ a u q hu=>by
     rcases hu with ⟨vs,rfl⟩ | ⟨c,dx,fs,rfl⟩
     ·obtain ⟨_,_,_,_,e⟩:=I1.hok a _ q
      exact ⟨_,e⟩
     ·obtain ⟨_,_,_,e,_⟩:=I1.hok a _ q
      exact ⟨_,e⟩
    refine ⟨v,bO γ s1.heap H1,xX I1 γ,rv,k β _ v ⟨⟨[],by simp,by simp⟩,λ {a o} q hn _=>?_⟩ ⟨?_,?_,λ {n o a} h1 h2=>?_⟩ ?_⟩
    ·rw [bI λ z=>by rw [hγ a z] at q; cases q]
     exact x1.keep q hn (by simp)
    ·rw [List.length_take,hl]; omega
    ·exact (List.nodup_append.mp r1.nd).1
    ·have hn:n < m.length:=by
      have:=(List.getElem?_eq_some_iff.mp h1).1
      rw [List.length_take] at this; omega
     rw [List.getElem?_take_of_lt hn] at h1
     have hb:(β++γ)[n]?=some a:=by rw [List.getElem?_append_left (by omega)]; exact h2
     have nF:dm β.length o=true:=by
      rw [hl]
      exact List.all_eq_true.mp hc.2 o (List.mem_of_getElem? (by rw [List.getElem?_take_of_lt hn]; exact h1))
     have ha:a∉γ:=λ z=>by
      have:=(List.nodup_append.mp r1.nd).2.2 a (List.mem_of_getElem? h2) a z
      exact this rfl
     have q:=r1.obj h1 hb
     cases o with
     | lst ws=>obtain ⟨vs,e,t⟩:=q; exact ⟨vs,(bI ha).trans e,t.bel (by simpa only [dm] using nF)⟩
     | ins c fs=>
      obtain ⟨dx,fs',e,t⟩:=q
      exact ⟨dx,fs',(bI ha).trans e,.of t.snd.2 (t.snd.1.bel (by simpa only [dm] using nF))⟩
     | set ks=>obtain ⟨S,e,t⟩:=q; exact ⟨S,(bI ha).trans e,t⟩
     | dic fs=>
      obtain ⟨fs',e,t⟩:=q
      exact ⟨fs',(bI ha).trans e,.of t.snd.2 (t.snd.1.bel (by simpa only [dm] using nF))⟩
    ·rw [<-hl] at e1
     exact q1.frW (λ e q=>jR hh r1 8 e q) e1
   ·cases e
  ·cases e
theorem RW.Ct {K:PySem.W.Frag} {β:List Addr} {H:Hp} {w:W} {v:V} (q:RW K β H w v):dM β.length w=true:=
 RW.rec (motive_1:=λ w v _=>dM β.length w=true) (motive_2:=λ w v _=>bJ β.length w=true) rfl (λ _=>rfl) (λ _=>rfl) (λ _=>rfl) (λ _ _ i=>i) (λ _ _ i=>i) (λ _ _ _ i=>i) (λ q=>decide_eq_true (List.getElem?_eq_some_iff.mp q).1) rfl (λ _ _ a b=>Bool.and_eq_true_iff.mpr ⟨a,b⟩) q
theorem Rel.frozen {X:L2.Cx} {cl:Cl} {pins:List (Addr×Obj)} {σ:L2.St} {s1:Shared} {β γ:List Addr} {H H1:Hp} {m m0:Mem} (r:Rel X.K cl β m H) (x1:Ext β H (β++γ) H1) (hγ:∀a∈γ,H a=none) (r1:Rel X.K cl (β++γ) m0 H1) (hc:m.length<=m0.length/\qm m.length (m0.take m.length)=true) (I1:Inv X pins σ H1 s1) :
  Ext β H β (bO γ s1.heap H1)/\Rel X.K cl β (m0.take m.length) (bO γ s1.heap H1)/\(∀a u,H1 a=some u->((∃vs,u=.lst vs)\/∃c dx fs,u=.ins c dx fs)->∃o,s1.heap.get? a=some o):=by
 have hl:=r.len
 refine ⟨⟨⟨[],by simp,by simp⟩,λ {a o} q hn _=>?_⟩,⟨?_,?_,λ {n o a} h1 h2=>?_⟩,λ a u q hu=>?_⟩
 ·rw [bI λ z=>by rw [hγ a z] at q; cases q]
  exact x1.keep q hn (by simp)
 ·rw [List.length_take,hl]; omega
 ·exact (List.nodup_append.mp r1.nd).1
 ·have hn:n < m.length:=by
   have:=(List.getElem?_eq_some_iff.mp h1).1
   rw [List.length_take] at this; omega
  rw [List.getElem?_take_of_lt hn] at h1
  have hb:(β++γ)[n]?=some a:=by rw [List.getElem?_append_left (by omega)]; exact h2
  have nF:dm β.length o=true:=by
   rw [hl]
   exact List.all_eq_true.mp hc.2 o (List.mem_of_getElem? (by rw [List.getElem?_take_of_lt hn]; exact h1))
  have ha:a∉γ:=λ z=>by
   have:=(List.nodup_append.mp r1.nd).2.2 a (List.mem_of_getElem? h2) a z
   exact this rfl
  have q:=r1.obj h1 hb
  cases o with
  | lst ws=>obtain ⟨vs,e,t⟩:=q; exact ⟨vs,(bI ha).trans e,t.bel (by simpa only [dm] using nF)⟩
  | ins c fs=>
   obtain ⟨dx,fs',e,t⟩:=q
   exact ⟨dx,fs',(bI ha).trans e,.of t.snd.2 (t.snd.1.bel (by simpa only [dm] using nF))⟩
  | set ks=>obtain ⟨S,e,t⟩:=q; exact ⟨S,(bI ha).trans e,t⟩
  | dic fs=>
   obtain ⟨fs',e,t⟩:=q
   exact ⟨fs',(bI ha).trans e,.of t.snd.2 (t.snd.1.bel (by simpa only [dm] using nF))⟩
 ·rcases hu with ⟨vs,rfl⟩ | ⟨c,dx,fs,rfl⟩
  ·obtain ⟨_,_,_,_,e⟩:=I1.hok a _ q
   exact ⟨_,e⟩
  ·obtain ⟨_,_,_,e,_⟩:=I1.hok a _ q
   exact ⟨_,e⟩
theorem Ax {X:L2.Cx} {cl:Cl} {C:D.Cx} {st:Stmt} {i:Nat} {d:E} (hp:PS X st (SS X cl (evS C (.asg (.pt (.var i)) d)))):PS X st (SS X cl (evS C (.asg (.pt (.var i)) (.frz d)))):=by
 rintro pins s σ H D I ⟨β,ρ,m,f,m',r,l,e,k⟩
 simp only [evS,evE,evA,aD] at e
 obtain ⟨w1,m1,e1,e⟩:=R.aa e
 simp only [R.bind] at e
 cases e
 cases h0:evE C d ρ m with
 | no=>rw [h0] at e1; cases e1
 | ok w0 m0=>
  rw [h0] at e1
  simp only [qp] at e1
  split at e1
  ·rename_i hc
   split at e1
   ·rename_i w1' e2
    cases e1
    refine thn (hp pins s σ H {nx:=fun σ1 H1=>∃β1,Ext β H β1 H1/\Rel X.K cl β1 m0 H1/\RL X.K β1 H1 (ρ.set i (some w0)) σ1,rt:=λ _ _=>False} I ⟨β,ρ,m,.nx (ρ.set i (some w0)),m0,r,l,by simp only [evS,h0,R.bind,evA,aD],fun β1 H1 x1 r1 σ1 l1=>⟨β1,x1,r1,l1⟩⟩) λ fl s1 h=>?_
    cases fl with
    | next=>
     obtain ⟨σ1,H1,I1,β1,x1,r1,l1⟩:=h
     obtain ⟨γ,rfl,hγ⟩:=x1.pre
     obtain ⟨z1,z2,z3⟩:=r.frozen x1 hγ r1 hc I1
     refine ⟨σ1,bO γ s1.heap H1,xX I1 γ,k β _ z1 z2 σ1 ⟨by rw [List.length_set,<-l1.len,List.length_set],λ {j w} hj=>?_⟩⟩
     by_cases hij:i=j
     ·subst hij
      have hlt:i < ρ.length:=by
       have:=(List.getElem?_eq_some_iff.mp hj).1
       simpa using this
      rw [List.getElem?_set_self hlt] at hj
      cases hj
      obtain ⟨v,hv,qv⟩:=l1.at_ (i:=i) (w:=w0) (by rw [List.getElem?_set_self hlt])
      rw [<-r.len] at e2
      exact ⟨v,hv,qv.frW (λ e q=>jR z3 r1 8 e q) e2⟩
     ·rw [List.getElem?_set_ne hij] at hj
      obtain ⟨v,hv,qv⟩:=l1.at_ (i:=j) (w:=w) (by rw [List.getElem?_set_ne hij]; exact hj)
      obtain ⟨v',_,q'⟩:=l.at_ hj
      exact ⟨v,hv,qv.bel q'.Ct⟩
    | brk=>obtain ⟨_,_,_,z⟩:=h; exact False.elim z
    | cont=>obtain ⟨_,_,_,z⟩:=h; exact False.elim z
    | ret u=>obtain ⟨_,_,_,_,_,z⟩:=h; exact False.elim z
   ·cases e1
  ·cases e1
end D
end
section
namespace D
open PySem PySem.Spec PyProof.Rows L2
theorem gv {prog:Program} {w:World} {A:Around} {E:Value->Shared->Prop} {s:Shared} {env:Env} {o:Expr} {name:Str} {apos pos:Pos} {args:List Expr} {Q:Value->Shared->Prop}
  (hbase:attributeBase o name env (eval o env)=eval o env)
  (hfew:((backTo pos (starEach args env)).all (λ x=>!x.1)&&(backToKw pos (keywordEach [] env)).all (λ x=>x.1.isSome)
   && decide (args.length+([]:List Keyword).length+(if ([]:List Keyword).isEmpty then 0 else 1) < 30))=true)
  (hline:(apos.endLine==pos.line)=true)
  (h:wpAny (model prog w) A (eval o env) (λ ov s₁=>∀pl,wpAny (model prog w) A (getMethod ov name pl) (λ fx s₂=>wpAny (model prog w) A (callWith pos fx.1 fx.2 (backTo pos (starEach args env)) []) Q E s₂) E s₁) E s) :
  wpAny (model prog w) A (eval (.Call (.Attribute o name apos) args [] pos) env) Q E s:=by
 rw [arm_eval_Call,hbase]
 refine wpAny_bind (wpAny_mono h (λ ov s₁ h₁=>?_) λ _ _ e=>e)
 refine wpAny_bind (wpAny_standAt ?_)
 have Cu:methodCallForm (args.length+([]:List Keyword).length) (backTo pos (starEach args env)) (backToKw pos (keywordEach [] env))=true:=hfew
 have hpos:methodCallPos true o env apos pos=pure pos:=by unfold methodCallPos; simp [hline]
 unfold methodCall
 rw [Cu]
 refine wpAny_bind (wpAny_holding (wpAny_mono (h₁ _) (λ fx s2 h2=>?_) λ _ _ e=>e))
 exact wpAny_bind (wpAny_of_eq hpos h2)
section
variable {X:L2.Cx} {cl:Cl} {C:D.Cx} {pos:Pos}
theorem tS {pins:List (Addr×Obj)} {σ:L2.St} {H:Hp} {s:Shared} {a Cc dx:Addr} {fs:List (Str×V)} (I:Inv X pins σ H s) (e:Rd H a (.ins Cc dx fs)):∃mA,kE s.heap a dx Cc mA/\∀f,cU (fs.lookup f) (mA f):=by
 obtain ⟨d,z,ne,ob,mA,n,r,q⟩:=(show aT X.prog X.w H s.heap a (.ins Cc dx fs) from e.ok I.hok)
 exact ⟨mA,⟨ob,n,ne⟩,r⟩
theorem RFs.lookup {K:PySem.W.Frag} {β:List Addr} {H:Hp} {f:Str}:∀{fs:List (Str×W)} {gs:List (Str×V)},RFs K β H fs gs->(∀{w},fs.lookup f=some w->∃v,gs.lookup f=some v/\RW K β H w v)/\(fs.lookup f=none->gs.lookup f=none)
 | _,_,.nil=>⟨λ h=>by simp at h,λ _=>rfl⟩
 | _,_,.cons (f:=g) q t=>by
  obtain ⟨h1,h2⟩:=t.lookup (f:=f)
  cases hx:f==g with
  | true=>
   refine ⟨λ h=>?_,λ h=>?_⟩
   ·simp only [List.lookup_cons,hx] at h ⊢
    cases h
    exact ⟨_,rfl,q⟩
   ·simp only [List.lookup_cons,hx] at h; cases h
  | false=>
   refine ⟨λ h=>?_,λ h=>?_⟩
   ·simp only [List.lookup_cons,hx] at h ⊢
    exact h1 h
   ·simp only [List.lookup_cons,hx] at h ⊢
    exact h2 h
theorem tT {K:PySem.W.Frag} {β:List Addr} {H:Hp}:∀{gs:List (Str×V)} {xs:List W},RWs K β H xs (gs.map (·.2))->RFs K β H ((gs.map (·.1)).zip xs) gs
 | [],_,t=>by cases t; exact .nil
 | (g,v)::gs,xs,t=>by
  cases t with
  | cons q t=>exact .cons q (tT t)
theorem Rel.ins {K:PySem.W.Frag} {β:List Addr} {H:Hp} {m:Mem} {w:W} {v:V} {c:Str} {fs:List (Str×W)} (r:Rel K cl β m H) (q:RW K β H w v) (e:jm m w=some (c,fs)):∃a dx gs,v=.ref a/\Rd H a (.ins (aL K c) dx gs)/\RFs K β H fs gs:=by
 cases q with
 | ref h=>
  simp only [jm] at e
  split at e
  ·rename_i c' fs' e1
   cases e
   obtain ⟨dx,gs,z,t⟩:=r.obj e1 h
   exact ⟨_,dx,gs,rfl,.inl z,t⟩
  ·cases e
 | obj h e0 t=>
  simp only [jm] at e
  cases e
  subst e0
  exact ⟨_,_,_,rfl,.inr ⟨_,h⟩,tT t⟩
 | _=>simp only [jm] at e; cases e
theorem Cv {a:Expr} {d:E} {f:Str} (hc:∀{c f},C.cs.flds.contains (c,f)=true->Cls X.K (aL X.K c)/\dH X.K (aL X.K c) f) (ha:PE X a (SE X cl (evE C d))) (hb:attributeBase a f X.env (eval a X.env)=eval a X.env):PE X (.Attribute a f pos) (SE X cl (evE C (.fld d f))):=by
 rintro pins s σ H Q I ⟨β,ρ,m,w,m',r,l,e,k⟩
 simp only [evE] at e
 obtain ⟨x,m1,e1,e⟩:=R.aa e
 unfold jn at e
 split at e
 ·rename_i c fs e2
  split at e
  ·rename_i hcf
   split at e
   ·rename_i w' e3
    cases e
    refine vg hb (thn (ha pins s σ H (λ v H1=>∃β1,Ext β H β1 H1/\Rel X.K cl β1 m' H1/\RW X.K β1 H1 x v) I ⟨β,ρ,m,x,m',r,l,e1,fun β1 H1 v1 x1 r1 q1=>⟨β1,x1,r1,q1⟩⟩) λ u s1 ⟨v,H1,I1,rv,β1,x1,r1,q1⟩=>?_)
    obtain ⟨a',dx,gs,rfl,hr,t⟩:=r1.ins q1 e2
    obtain rfl:u=Value.ref a':=rv
    obtain ⟨mA,O,ro⟩:=tS I1 hr
    obtain ⟨z,ez,qz⟩:=t.lookup.1 e3
    obtain ⟨hcl,hna⟩:=hc hcf
    obtain ⟨u,hu,ru⟩:=cU.some_of (v:=z) (o:=mA f) (by rw [<-ez]; exact ro f)
    exact get_map I1.kIn O (hcl.get f) hcl.hd hna hu (pX ru) ⟨z,H1,I1.tok _,ru,k _ _ _ x1 r1 qz⟩
   ·cases e
  ·cases e
 ·cases e
theorem oK {K:PySem.W.Frag} {β:List Addr} {H:Hp} {f:Str} {w:W} {v:V} (q:RW K β H w v):∀{fs:List (Str×W)} {gs:List (Str×V)},RFs K β H fs gs->RFs K β H (D.cu f w fs) (L2.cu f v gs)
 | _,_,.nil=>.cons q .nil
 | _,_,.cons (f:=g) (ws:=ws) (vs:=vs) q' t=>by
  simp only [D.cu,L2.cu]
  split
  ·exact .cons q t
  ·exact .cons q' (oK q t)
theorem RFs.length {K:PySem.W.Frag} {β:List Addr} {H:Hp}:∀{fs:List (Str×W)} {gs:List (Str×V)},RFs K β H fs gs->fs.length=gs.length
 | _,_,.nil=>rfl
 | _,_,.cons _ t=>by rw [List.length_cons,List.length_cons,t.length]
theorem RFs.mono {K:PySem.W.Frag} {β β':List Addr} {H H':Hp} {m:Mem} (r:Rel K cl β m H) (x:Ext β H β' H') {fs:List (Str×W)} {gs:List (Str×V)} (t:RFs K β H fs gs):RFs K β' H' fs gs:=t.bM r noD x
theorem Rel.DV {K:PySem.W.Frag} {β:List Addr} {H:Hp} {m:Mem} {a:Addr} (r:Rel K cl β m H) {n:Nat} {o:O} {c:Str} {dx:Addr} {fs:List (Str×W)} {gs:List (Str×V)} (hm:m[n]?=some o) (hb:β[n]?=some a) (q:RFs K β H fs gs) :
  Ext β H β (upd H a (.ins (aL K c) dx gs))/\Rel K cl β (m.set n (.ins c fs)) (upd H a (.ins (aL K c) dx gs)):=by
 have ha:a∈β:=List.mem_of_getElem? hb
 have x:Ext β H β (upd H a (.ins (aL K c) dx gs)):=⟨⟨[],by simp,by simp⟩,λ {b u} h hn _=>by rw [ai (show b≠a from λ z=>hn (by rw [z]; exact ha))]; exact h⟩
 refine ⟨x,by simp [r.len],r.nd,λ {k o' b} h1 h2=>?_⟩
 by_cases hk:n=k
 ·subst hk
  rw [hb] at h2; cases h2
  rw [List.getElem?_set_self (List.getElem?_eq_some_iff.mp hm).1] at h1
  cases h1
  exact ⟨dx,gs,aA,q.mono r x⟩
 ·rw [List.getElem?_set_ne hk] at h1
  have q':=r.obj h1 h2
  refine q'.mono r x (ai ?_)
  rintro rfl
  obtain ⟨h3,e3⟩:=List.getElem?_eq_some_iff.mp h2
  obtain ⟨h4,e4⟩:=List.getElem?_eq_some_iff.mp hb
  exact hk ((List.getElem_inj r.nd).mp (e4.trans e3.symm))
theorem Ay {o a:Expr} {do_ d:E} {f:Str} {pos':Pos} (hc:∀{c f},C.cs.flds.contains (c,f)=true->Cls X.K (aL X.K c)/\dH X.K (aL X.K c) f) (ho:PE X o (SE X cl (evE C do_))) (ha:PE X a (SE X cl (evE C d)))
  (hs:swapsWith a (some (.Attribute o f pos')) pos.line X.env=pure false):PS X (.Assign [.Attribute o f pos'] a pos) (SS X cl (evS C (.fas do_ f d))):=by
 refine PS.imp (zj ho ha hs) ?_
 rintro D σ H ⟨β,ρ,m,ff,m',r,l,e,k⟩
 simp only [evS] at e
 obtain ⟨w,m1,e1,e⟩:=R.aa e
 obtain ⟨x,m2,e2,e⟩:=R.aa e
 obtain ⟨_,m3,e3,e⟩:=R.aa e
 cases e
 refine ⟨β,ρ,m,w,m1,r,l,e1,fun β1 H1 v1 x1 r1 q1=>?_⟩
 refine ⟨β1,ρ,m1,x,m2,r1,l.mono r x1,e2,fun β2 H2 v2 x2 r2 q2=>?_⟩
 unfold kZ at e3
 split at e3
 ·rename_i n
  split at e3
  ·rename_i c fs e4
   split at e3
   ·rename_i hcf
    cases e3
    cases q2 with
    | ref hb=>
     obtain ⟨dx,gs,z,t⟩:=r2.obj e4 hb
     obtain ⟨hcl,hna⟩:=hc hcf.1
     obtain ⟨x3,r3⟩:=r2.DV (c:=c) (dx:=dx) e4 hb (oK (f:=f) (q1.mono r1 x2) t)
     exact ⟨_,_,dx,gs,rfl,z,hcl,hna,by rw [<-t.length]; exact hcf.2,k _ _ ((x1.trans r1 x2).trans r2 x3) r3 _ (((l.mono r x1).mono r1 x2).mono r2 x3)⟩
   ·cases e3
  ·cases e3
 ·cases e3
noncomputable def x9 (X:L2.Cx) (cl:Cl) (C:D.Cx) (c name:Str) (i:Nat):Prop:=∃(k:Nat) (fa:Addr) (fd:FuncData) (ps:List Str),bR k X.A/\Cls X.K (aL X.K c)/\Meth X.K (aL X.K c) name fa/\Binds X.K fd ps []/\
 cV X.prog X.w X.K X.mg X.base CX0 k fa fd ps (spD X.K cl ps.length (C.call i))/\∀ws m w m',C.call i ws m=.ok w m'->ws.length=ps.length
theorem Cw {o:Expr} {d:E} {name:Str} {apos:Pos} {es:List Expr} {ds:Es} (hM:∀{c name i},C.cs.mths.lookup (c,name)=some i->x9 X cl C c name i) (ho:PE X o (SE X cl (evE C d))) (ha:PA X es (SA X cl (aH C ds)))
  (hbase:attributeBase o name X.env (eval o X.env)=eval o X.env)
  (hfew:((backTo pos (starEach es X.env)).all (λ x=>!x.1)&&(backToKw pos (keywordEach [] X.env)).all (λ x=>x.1.isSome)
   && decide (es.length+([]:List Keyword).length+(if ([]:List Keyword).isEmpty then 0 else 1) < 30))=true)
  (hline:(apos.endLine==pos.line)=true) (hs:(es=[]/\ds=.nil)\/∃a r,es=a::r/\starEach (a::r) X.env=(false,eval a X.env)::starEach r X.env/\(backTo pos (starEach r X.env)).any (·.1)=false) :
  PE X (.Call (.Attribute o name apos) es [] pos) (SE X cl (evE C (.mth d name ds))):=by
 rintro pins s σ H Q I ⟨β,ρ,m,w,m',r,l,e,k⟩
 simp only [evE] at e
 obtain ⟨x,m1,e1,e⟩:=R.aa e
 split at e
 ·rename_i i e2
  obtain ⟨ws,m2,e3,e⟩:=R.aa e
  refine gv hbase hfew hline (thn (ho pins s σ H (λ v H1=>∃β1,Ext β H β1 H1/\Rel X.K cl β1 m1 H1/\RW X.K β1 H1 x v) I ⟨β,ρ,m,x,m1,r,l,e1,fun β1 H1 v1 x1 r1 q1=>⟨β1,x1,r1,q1⟩⟩) λ u s1 ⟨v,H1,I1,rv,β1,x1,r1,q1⟩ pl=>?_)
  unfold g9 at e2
  split at e2
  ·rename_i c fs e4
   split at e2
   ·rename_i hno
    obtain ⟨a',dx,gs,rfl,hr,t⟩:=r1.ins q1 e4
    obtain rfl:u=Value.ref a':=rv
    obtain ⟨mA,O,ro⟩:=tS I1 hr
    have hn:mA name=none:=cU.none_of (by rw [<-t.lookup.2 (by simpa using hno)]; exact ro name)
    obtain ⟨kk,fa,fd,ps,hroom,hcl,hmt,hbd,hF,hln⟩:=hM e2
    refine rH I1.kIn O (hcl.get name) hmt.at_ hmt.fn hn ?_
    have hsp:∀vs β2 H2,Ext β1 H1 β2 H2->Rel X.K cl β2 m2 H2->RWs X.K β2 H2 ws vs->spD X.K cl ps.length (C.call i) ((.ref a'::vs)++[]) H2 Q E0:=λ vs β2 H2 x2 r2 q2=>by
     rw [List.append_nil]
     have hq:RWs X.K β2 H2 (x::ws) (.ref a'::vs):=.cons (q1.mono r1 x2) q2
     exact ⟨by rw [<-hq.length]; exact hln _ _ _ _ e,β2,m2,x::ws,w,m',r2,hq,e,fun β3 H3 v3 x3 r3 q3=>k _ _ _ ((x1.trans r1 x2).trans r2 x3) r3 q3⟩
    rcases hs with ⟨rfl,rfl⟩ | ⟨a,rr,rfl,hst,hpl⟩
    ·simp only [aH] at e3
     cases e3
     exact PySem.W.callWith_K0 (first:=[.ref a']) I1.kIn hmt.kp (jC (us:=[.ref a']) (vs:=[.ref a']) hF hroom hbd .nil kO I1 (.cons rfl .nil) (hsp [] β1 H1 Ext.refl r1 .nil))
    ·refine PySem.W.callWith_K (first:=[.ref a']) (h₀:=X.base) I.ok.mod.kin hmt.kp (thn (ha pos pins s1 σ H1 (λ vs H2=>∃β2,Ext β1 H1 β2 H2/\Rel X.K cl β2 m2 H2/\RWs X.K β2 H2 ws vs) I1 ⟨β1,ρ,m1,ws,m2,r1,l.mono r x1,e3,fun β2 H2 v2 x2 r2 q2=>⟨β2,x2,r2,q2⟩⟩) λ us s2 ⟨vs,H2,I2,rr2,β2,x2,r2,q2⟩=>⟨I2.kIn,?_⟩) hst hpl
     exact jC (us:=.ref a'::us) (vs:=.ref a'::vs) hF hroom hbd .nil kO I2 (.cons rfl rr2) (hsp vs β2 H2 x2 r2 q2)
   ·cases e2
  ·cases e2
 ·cases e
noncomputable def ya (X:L2.Cx) (cl:Cl) (C:D.Cx) (c:Str) (i:Nat):Prop:=∃(k:Nat) (fa:Addr) (fd:FuncData) (ps:List Str),bR (k+1) X.A/\Mk X.K (aL X.K c) fa/\X.mg c=some (.ref (aL X.K c))/\Binds X.K fd ps []/\
 cV X.prog X.w X.K X.mg X.base CX0 k fa fd ps (spD X.K cl ps.length (C.call i))/\∀ws m w m',C.call i ws m=.ok w m'->ws.length=ps.length
theorem Az {c:Str} {p:Pos} {a:Expr} {es:List Expr} {ds:Es} {i:Nat} (hi:C.cs.ini.lookup c=some i) (hI:ya X cl C c i) (hg:Gl X c) (ha:PA X (a::es) (SA X cl (aH C ds)))
  (hdb:(c==("__debug__":Str))=false) (he:starEach (a::es) X.env=(false,eval a X.env)::starEach es X.env) (hpl:(backTo pos (starEach es X.env)).any (·.1)=false) :
  PE X (.Call (.Name c p) (a::es) [] pos) (SE X cl (evE C (.make c ds))):=by
 obtain ⟨k,fa,fd,ps,hroom,hmk,hmg,hbd,hF,hln⟩:=hI
 refine PE.imp (vm hmk hF hroom hg hmg hbd .nil kO ha hdb he hpl) ?_
 rintro σ H Q ⟨β,ρ,m,w,m',r,l,e,k⟩
 simp only [evE] at e
 obtain ⟨ws,m1,e1,e⟩:=R.aa e
 refine ⟨β,ρ,m,ws,m1,r,l,e1,fun β1 H1 v1 x1 r1 q1 x dx hx hdx hne=>?_⟩
 simp only [fQ,hi] at e
 obtain ⟨w2,m2,e2,e⟩:=R.aa e
 split at e
 ·cases e
  obtain ⟨x2,r2⟩:=r1.tB hdx (.own x)
  have hx2:upd H1 dx (.own x) x=none:=by rw [ai hne.symm]; exact hx
  obtain ⟨x3,r3⟩:=r2.zS (ho:=.ins (aL X.K c) dx []) (o:=.ins c []) hx2 λ _=>⟨dx,[],aA,.nil⟩
  have hq:RWs X.K (β1++[x]) _ (.ref m1.length::ws) (.ref x::v1):=.cons (.ref (r1.last x)) ((q1.mono r1 x2).mono r2 x3)
  refine ⟨?_,β1++[x],m1++[.ins c []],.ref m1.length::ws,.non,m',r3,by rw [List.append_nil]; exact hq,e2,fun β4 H4 v4 x4 r4 q4=>?_⟩
  ·rw [List.append_nil,<-hq.length]; exact hln _ _ _ _ e2
  ·cases q4
   refine ⟨rfl,k _ _ _ (((x1.trans r1 x2).trans r2 x3).trans r3 x4) r4 (.ref (x4.get (r1.last x)))⟩
 ·cases e
theorem wH {k f:Nat} {fa:Addr} {fd:FuncData} {ps:List Str} {x:Str} {p:Pos} (F:cV X.prog X.w X.K X.mg X.base CX0 k fa fd ps (spD X.K cl ps.length (C.call f))) (hr:bR k X.A) (hg:Gl X x) (hm:X.mg x=some (.ref fa)) (hk:PySem.W.keepIn X.K (.ref fa)=true) (hb:Binds X.K fd ps [])
  (hl:ps.length=0) (hdb:(x==("__debug__":Str))=false):PE X (.Call (.Name x p) [] [] pos) (SE X cl (evE C (.call f .nil))):=by
 refine PE.imp (rK F hr hg hm hk hb .nil kO hdb) ?_
 rintro σ H Q ⟨β,ρ,m,w,m',r,l,e,k⟩
 simp only [evE,aH,R.bind] at e
 exact ⟨by rw [hl]; rfl,β,m,[],w,m',r,.nil,e,fun β2 H2 v2 x2 r2 q2=>k _ _ _ x2 r2 q2⟩
end
end D
end
section
namespace D
open PySem PySem.Spec PyProof.Rows L2
section
variable {X:L2.Cx} {cl:Cl} {C:D.Cx} {pos:Pos}
theorem oM {f:Value} {r1 r2:List V->Hp->VK->Prop} (h1:aZ X f r1) (h2:aZ X f r2):aZ X f (λ xs H Q=>r1 xs H Q\/r2 xs H Q):=λ pins s σ H xs us Q I r h=>
 h.elim (h1 pins s σ H xs us Q I r) (h2 pins s σ H xs us Q I r)
theorem AA {a:Expr} {d:E} {p p2 pos2:Pos} (hh:X.A.handled=none) (hu:X.A.units+64 < cLine) (hg:Gl X "len") (hm:X.mg "len"=none) (hg2:Gl X "set") (hm2:X.mg "set"=none) (ha:PE X a (SE X cl (evE C d))) (he:starEach [a] X.env=[(false,eval a X.env)]) :
  PE X (.Call (.Name "len" p) [.Call (.Name "set" p2) [a] [] pos2] [] pos) (SE X cl (evE C (.fus .gm d))):=by
 refine PE.imp (gK (oM qB iP) hg hm (by decide +kernel) (bL (d7 (oM (qA hh hu) (qa hh)) hg2 hm2 (by decide +kernel) (bL ha cN he) (by decide +kernel) (by decide +kernel) he rfl) cN) (by decide +kernel) (by decide +kernel) rfl rfl) ?_
 rintro σ H Q ⟨β,ρ,m,w,m',r,l,e,k⟩
 simp only [evE] at e
 obtain ⟨x,m1,e1,e⟩:=R.aa e
 simp only [bX] at e
 split at e
 ·rename_i xs
  unfold nh at e
  split at e
  ·rename_i ns e2
   split at e
   ·rename_i hz
    cases e
    refine ⟨β,ρ,m,_,_,r,l,e1,fun β1 H1 v1 x1 r1 q1=>?_⟩
    cases q1 with
    | tup hs t=>
     refine .inr ⟨_,ns,rfl,by rw [<-t.dJ e2]; exact hs,hz,λ p S hp=>?_⟩
     obtain ⟨x2,r2⟩:=r1.tB hp (.set S (L2.unlike ns))
     exact .inr ⟨p,S,_,rfl,aA,k _ _ _ (x1.trans r1 x2) r2 (.int _)⟩
   ·cases e
  ·cases e
 unfold vS at e
 split at e
 ·cases e
 ·rename_i ys e2
  split at e
  ·cases e
  ·rename_i tss e3
   simp only [sQ] at e
   split at e
   ·rename_i hz
    cases e
    refine ⟨β,ρ,m,x,_,r,l,e1,fun β1 H1 v1 x1 r1 q1=>?_⟩
    obtain ⟨a,vs,rfl,hs,t⟩:=r1.getL q1 e2
    refine .inl ⟨a,vs,tss,rfl,hs,t.tups e3,hz.1,λ t ht=>List.all_eq_true.mp hz.2.1 t ht,hz.2.2,λ p hp=>?_⟩
    obtain ⟨x2,r2⟩:=r1.tB hp (ia p tss.length)
    exact .inl ⟨p,tss.length,rfl,aA,hz.1,k _ _ _ (x1.trans r1 x2) r2 (.int _)⟩
   ·cases e
theorem AB {a:Expr} {d:E} {p kpos cpos:Pos} {j:Nat} (hh:X.A.handled=none) (hu:X.A.units+64 < cLine) (hg:Gl X "min") (hm:X.mg "min"=none) (ha:PE X a (SE X cl (evE C d))) (he:starEach [a] X.env=[(false,eval a X.env)]) :
  PE X (.Call (.Name "min" p) [a] [⟨some "default",.Constant .none j cpos,kpos⟩] pos) (SE X cl (evE C (.fus .mind d))):=by
 refine PE.imp (vZ hh hu hg hm ha he) ?_
 rintro σ H Q ⟨β,ρ,m,w,m',r,l,e,k⟩
 simp only [evE] at e
 obtain ⟨x,m1,e1,e⟩:=R.aa e
 simp only [bX,vS] at e
 split at e
 ·cases e
 ·rename_i ys e2
  split at e
  ·cases e
  ·rename_i tss e3
   simp only [sR] at e
   split at e
   ·rename_i hz
    cases e
    refine ⟨β,ρ,m,x,_,r,l,e1,fun β1 H1 v1 x1 r1 q1=>?_⟩
    obtain ⟨a,vs,rfl,hs,t⟩:=r1.getL q1 e2
    refine ⟨a,vs,tss,rfl,hs,t.tups e3,λ n0 h0 ns hn=>?_,?_⟩
    ·have:=List.all_eq_true.mp hz ns hn
     rw [show tss.headD []=n0 by cases tss with | nil=>cases h0 | cons a r=>cases h0; rfl] at this
     simpa using this
    ·cases t with
     | nil=>exact k _ _ _ x1 r1 .non
     | cons q t=>exact k _ _ _ x1 r1 q
   ·cases e
end
end D
end
section
namespace D
open PySem PySem.Spec PyProof.Rows L2
noncomputable def TopK (K:PySem.W.Frag) (w:World) (mg:Str->Option Value) (x:Str) (kvs:List (Str×W)):Prop:=∃a gs,mg x=some (.ref a)/\TopD K w a gs/\∀β H,RFs K β H kvs gs
section
variable {X:L2.Cx} {cl:Cl} {C:D.Cx} {pos p:Pos} {a:Expr} {d:E} {x:Str} {kvs:List (Str×W)}
theorem Cy (T:TopK X.K X.w X.mg x kvs) (hg:Gl X x) (hd:(x==("__debug__":Str))=false) (ha:PE X a (SE X cl (evE C d))):PE X (.Compare a [.In] [.Name x p] pos) (SE X cl (evE C (.fus (.kin kvs) d))):=by
 obtain ⟨b,gs,hm,hT,hr⟩:=T
 refine PE.imp (jA jj ha (dY (v:=.ref b) hg hm rfl hd) rfl) ?_
 rintro σ H Q ⟨β,ρ,m,w,m',r,l,e,k⟩
 simp only [evE] at e
 obtain ⟨y,m1,e1,e⟩:=R.aa e
 simp only [bX] at e
 split at e
 ·rename_i z
  cases e
  refine ⟨β,ρ,m,_,_,r,l,e1,fun β1 H1 v1 x1 r1 q1=>?_⟩
  cases q1
  exact ⟨_,_,_,rfl,rfl,hT,by rw [<-(hr β1 H1).look.1]; exact k _ _ _ x1 r1 (.bl _)⟩
 ·cases e
theorem AD (T:TopK X.K X.w X.mg x kvs) (hg:Gl X x) (hd:(x==("__debug__":Str))=false) (ha:PE X a (SE X cl (evE C d))):PE X (.Compare a [.NotIn] [.Name x p] pos) (SE X cl (evE C (.fus (.knin kvs) d))):=by
 obtain ⟨b,gs,hm,hT,hr⟩:=T
 refine PE.imp (jA fj ha (dY (v:=.ref b) hg hm rfl hd) rfl) ?_
 rintro σ H Q ⟨β,ρ,m,w,m',r,l,e,k⟩
 simp only [evE] at e
 obtain ⟨y,m1,e1,e⟩:=R.aa e
 simp only [bX] at e
 split at e
 ·rename_i z
  cases e
  refine ⟨β,ρ,m,_,_,r,l,e1,fun β1 H1 v1 x1 r1 q1=>?_⟩
  cases q1
  exact ⟨_,_,_,rfl,rfl,hT,by rw [<-(hr β1 H1).look.1]; exact k _ _ _ x1 r1 (.bl _)⟩
 ·cases e
theorem Cz (T:TopK X.K X.w X.mg x kvs) (hg:Gl X x) (hd:(x==("__debug__":Str))=false) (ha:PE X a (SE X cl (evE C d))):PT X (.Compare a [.In] [.Name x p] pos) (ST X cl (evT C (.fus (.kin kvs) d))):=by
 obtain ⟨b,gs,hm,hT,hr⟩:=T
 refine PT.imp (jB jj ha (dY (v:=.ref b) hg hm rfl hd) rfl) ?_
 rintro σ H Q ⟨β,ρ,m,w,m',r,l,e,k⟩
 simp only [evT] at e
 obtain ⟨y',m2,e0,e⟩:=R.aa e
 obtain ⟨y,m1,e1,e0⟩:=R.aa e0
 simp only [bX] at e0
 split at e0
 ·rename_i z
  cases e0
  simp only [truthy] at e
  cases e
  refine ⟨β,ρ,m,_,_,r,l,e1,fun β1 H1 v1 x1 r1 q1=>?_⟩
  cases q1
  exact ⟨_,_,_,rfl,rfl,hT,by rw [<-(hr β1 H1).look.1]; exact ⟨_,rfl,k _ _ x1 r1⟩⟩
 ·cases e0
theorem AE (T:TopK X.K X.w X.mg x kvs) (hg:Gl X x) (hd:(x==("__debug__":Str))=false) (ha:PE X a (SE X cl (evE C d))):PT X (.Compare a [.NotIn] [.Name x p] pos) (ST X cl (evT C (.fus (.knin kvs) d))):=by
 obtain ⟨b,gs,hm,hT,hr⟩:=T
 refine PT.imp (jB fj ha (dY (v:=.ref b) hg hm rfl hd) rfl) ?_
 rintro σ H Q ⟨β,ρ,m,w,m',r,l,e,k⟩
 simp only [evT] at e
 obtain ⟨y',m2,e0,e⟩:=R.aa e
 obtain ⟨y,m1,e1,e0⟩:=R.aa e0
 simp only [bX] at e0
 split at e0
 ·rename_i z
  cases e0
  simp only [truthy] at e
  cases e
  refine ⟨β,ρ,m,_,_,r,l,e1,fun β1 H1 v1 x1 r1 q1=>?_⟩
  cases q1
  exact ⟨_,_,_,rfl,rfl,hT,by rw [<-(hr β1 H1).look.1]; exact ⟨_,rfl,k _ _ x1 r1⟩⟩
 ·cases e0
theorem AF (T:TopK X.K X.w X.mg x kvs) (hg:Gl X x) (hd:(x==("__debug__":Str))=false) (ha:PE X a (SE X cl (evE C d))) (hs:gA a):PE X (.Subscript (.Name x p) a pos) (SE X cl (evE C (.fus (.kget kvs) d))):=by
 obtain ⟨b,gs,hm,hT,hr⟩:=T
 refine PE.imp (xM zQ (dY (v:=.ref b) hg hm rfl hd) ha hs) ?_
 rintro σ H Q ⟨β,ρ,m,w,m',r,l,e,k⟩
 simp only [evE] at e
 obtain ⟨y,m1,e1,e⟩:=R.aa e
 simp only [bX] at e
 split at e
 ·rename_i z
  split at e
  ·rename_i w' e2
   cases e
   refine ⟨β,ρ,m,_,_,r,l,e1,fun β1 H1 v1 x1 r1 q1=>?_⟩
   cases q1
   obtain ⟨v,e3,q3⟩:=(hr β1 H1).look.2 _ e2
   exact ⟨_,_,_,_,rfl,rfl,hT,e3,k _ _ _ x1 r1 q3⟩
  ·cases e
 ·cases e
end
noncomputable def oN (X:L2.Cx) (cl:Cl) (C:D.Cx):List Str->Es->List (TE×TE)
 | k::ks,.cons e es=>(tC (.str k),SE X cl (evE C e))::oN X cl C ks es
 | _,_=>[]
section
variable {X:L2.Cx} {cl:Cl} {C:D.Cx}
theorem lB {σ:L2.St} {ρ:Loc}:∀{ks:List Str} {es:Es} {β:List Addr} {H:Hp} {m m':Mem} {ws:List W} {Q:List (V×V)->Hp->Prop},ks.length=ws.length->Rel X.K cl β m H->RL X.K β H ρ σ->aH C es ρ m=.ok ws m'->
  (∀β' H' vs,Ext β H β' H'->Rel X.K cl β' m' H'->RWs X.K β' H' ws vs->Q ((ks.map V.str).zip vs) H')->jK (oN X cl C ks es) σ H Q
 | ks,.nil,β,H,m,m',ws,Q,hl,r,l,e,k=>by
  simp only [aH] at e
  cases e
  have:ks=[]:=List.length_eq_zero_iff.mp hl
  subst this
  exact k _ _ [] Ext.refl r .nil
 | ks,.cons d es,β,H,m,m',ws,Q,hl,r,l,e,k=>by
  simp only [aH] at e
  obtain ⟨w,m1,e1,e⟩:=R.aa e
  obtain ⟨ws',m2,e2,e⟩:=R.aa e
  cases e
  cases ks with
  | nil=>simp at hl
  | cons z ks=>
   refine ⟨β,ρ,m,w,m1,r,l,e1,fun β1 H1 v1 x1 r1 q1=>?_⟩
   refine lB (by simpa using hl) r1 (l.mono r x1) e2 fun β2 H2 vs x2 r2 q2=>?_
   exact k β2 H2 (v1::vs) (x1.trans r1 x2) r2 (.cons (q1.mono r1 x2) q2)
theorem tU {k:Key} {v:V} {kvs:List (Key×V)} (h:∀p∈kvs,p.1≠k):putK kvs k v=kvs++[(k,v)]:=by
 unfold putK
 rw [if_neg]
 intro z
 obtain ⟨p,hp,e⟩:=List.any_eq_true.mp z
 exact h p hp (of_decide_eq_true e)
theorem qF:∀{more acc:List (Key×V)},(more.map (·.1)).Nodup->(∀p∈acc,∀q∈more,p.1≠q.1)->dj acc more=acc++more:=by
 intro more
 induction more with
 | nil=>intro acc _ _; simp [dj]
 | cons q r ih=>
  intro acc hn hd
  rw [List.map_cons,List.nodup_cons] at hn
  have e:dj acc (q::r)=dj (putK acc q.1 q.2) r:=rfl
  rw [e,tU λ p hp=>hd p hp q List.mem_cons_self,ih hn.2 λ p hp x hx=>?_,List.append_assoc]
  ·rfl
  ·rcases List.mem_append.mp hp with hp | hp
   ·exact hd p hp x (List.mem_cons_of_mem _ hx)
   ·rw [List.mem_singleton] at hp
    subst hp
    intro z
    exact hn.1 (List.mem_map.mpr ⟨x,hx,z.symm⟩)
theorem lC {fs:List (Str×V)} (h:(fs.map (·.1)).Nodup):((keyed fs).map (·.1)).Nodup:=by
 have e:(keyed fs).map (·.1)=(fs.map (·.1)).map (Sum.inr:Str->Key):=by simp [keyed,Function.comp_def]
 rw [e]
 generalize fs.map (·.1)=l at h
 induction l with
 | nil=>exact List.nodup_nil
 | cons a r ih=>
  rw [List.nodup_cons] at h
  rw [List.map_cons,List.nodup_cons]
  refine ⟨λ z=>?_,ih h.2⟩
  obtain ⟨b,hb,e⟩:=List.mem_map.mp z
  cases e
  exact h.1 hb
theorem oO {K:PySem.W.Frag} {β:List Addr} {H:Hp}:∀{ks:List Str} {ws:List W} {vs:List V},ks.length=ws.length->RWs K β H ws vs->RFs K β H (ks.zip ws) (ks.zip vs)
 | [],_,_,h,.nil=>.nil
 | [],_,_,h,.cons _ _=>by simp at h
 | _::_,_,_,h,.nil=>by simp at h
 | k::ks,_,_,h,.cons q t=>.cons q (oO (by simpa using h) t)
theorem Rel.other {K:PySem.W.Frag} {β:List Addr} {H:Hp} {m:Mem} {p:Addr} {u u':HO} (r:Rel K cl β m H) (hp:H p=some u) (hb:p∉β) (h1:∀xs,u≠.tup xs) (h2:∀ob x,u≠.frz ob x) :
  Rel K cl β m (upd H p u')/\∀{ws:List W} {vs:List V},RWs K β H ws vs->RWs K β (upd H p u') ws vs:=by
 have hf:∀{a:Addr} {o:Obj} {u:HO},H a=some (.frz o u)->upd H p u' a=some (.frz o u):=λ {a o x} e=>by
  rw [ai]
  ·exact e
  ·rintro rfl
   rw [hp] at e; cases e; exact h2 _ _ rfl
 have ht:∀{a:Addr} {vs:List V},SqT K H a vs->SqT K (upd H p u') a vs:=λ {a vs} q=>by
  rcases q with (e | ⟨o,e⟩) | q
  ·refine .inl (.inl ?_)
   rw [ai]
   ·exact e
   ·rintro rfl
    rw [hp] at e; cases e; exact h1 _ rfl
  ·exact .inl (.inr ⟨o,hf e⟩)
  ·exact .inr q
 have kW:∀{w:W} {v:V},RW K β H w v->RW K β (upd H p u') w v:=λ q=>q.keep ⟨[],by simp⟩ ht hf
 have kS:∀{ws:List W} {vs:List V},RWs K β H ws vs->RWs K β (upd H p u') ws vs:=λ q=>q.keep ⟨[],by simp⟩ ht hf
 have kF:∀{ws:List (Str×W)} {vs:List (Str×V)},RFs K β H ws vs->RFs K β (upd H p u') ws vs:=λ q=>by
  induction q with
  | nil=>exact .nil
  | cons a b ih=>exact .cons (kW a) ih
 refine ⟨⟨r.len,r.nd,λ {n o a} g1 g2=>?_⟩,kS⟩
 have na:a≠p:=by
  rintro rfl
  exact hb (List.mem_of_getElem? g2)
 have q:=r.obj g1 g2
 cases o with
 | lst ws=>obtain ⟨vs,e,t⟩:=q; exact ⟨vs,(ai na).trans e,kS t⟩
 | ins c fs=>obtain ⟨dx,fs',e,t⟩:=q; exact ⟨dx,fs',(ai na).trans e,kF t⟩
 | set ks=>obtain ⟨S,e,t⟩:=q; exact ⟨S,(ai na).trans e,t⟩
 | dic fs=>obtain ⟨fs',e,t⟩:=q; exact ⟨fs',(ai na).trans e,kF t⟩
theorem jo:∀{ks:List Str} {vs:List V},ks.length=vs.length->(ks.map V.str).zip vs=(keyed (ks.zip vs)).map λ kv=>(kV kv.1,kv.2)
 | [],_,_=>rfl
 | _::_,[],h=>by simp at h
 | k::ks,v::vs,h=>by
  have:=jo (ks:=ks) (vs:=vs) (by simpa using h)
  show (V.str k,v)::(ks.map V.str).zip vs=(V.str k,v)::(keyed (ks.zip vs)).map λ kv=>(kV kv.1,kv.2)
  rw [this]
theorem AG {keys:List (Option Expr)} {values:List Expr} {ks:List Str} {ds:Es} {pos:Pos} (h:PPs X pos keys values (oN X cl C ks ds)) (hall:keys.all (·.isSome)=true) (hl:keys.length=values.length) (h0:keys≠[]) (h15:keys.length<=15) :
  PE X (.Dict keys values pos) (SE X cl (evE C (.fus (.dict ks) (.tup ds)))):=by
 refine PE.imp (vG h hall hl h0 h15) ?_
 rintro σ H Q ⟨β,ρ,m,w,m',r,l,e,k⟩
 simp only [evE] at e
 obtain ⟨x,m1,e1,e⟩:=R.aa e
 obtain ⟨ws,m2,e2,e1⟩:=R.aa e1
 split at e1
 ·cases e1
  simp only [bX,ni] at e
  split at e
  ·rename_i hk
   obtain ⟨k1,k2,k3⟩:=hk
   cases e
   intro p hp
   obtain ⟨x1,r1⟩:=r.tB hp (.dK [])
   refine lB k1 r1 (l.mono r x1) e2 fun β2 H2 vs x2 r2 q2=>?_
   have pb:p∉β:=r.nin hp
   have hp2:H2 p=some (.dK []):=x2.keep aA pb (by simp)
   have pb2:p∉β2:=λ z=>by
    obtain ⟨γ,rfl,hγ⟩:=x2.pre
    rcases List.mem_append.mp z with z | z
    ·exact pb z
    ·have:=hγ p z
     rw [aA] at this
     cases this
   have vl:ks.length=vs.length:=k1.trans q2.length
   refine ⟨hp2,keyed (ks.zip vs),?_,by simp [keyed]; omega,?_⟩
   ·exact jo vl
   ·have hn:((ks.zip vs).map (·.1)).Nodup:=by rw [List.map_fst_zip (by omega)]; exact k2
    rw [qF (lC hn) (by simp),List.nil_append]
    obtain ⟨r3,kS⟩:=r2.other (u':=.dK (keyed (ks.zip vs))) hp2 pb2 (by intro _ z; cases z) (by intro _ _ z; cases z)
    have hsub:∀{n:Nat} {a:Addr},β2[n]?=some a->(β2++[p])[n]?=some a:=λ h=>by rw [List.getElem?_append_left (List.getElem?_eq_some_iff.mp h).1]; exact h
    refine k (β2++[p]) _ (.ref p) ⟨?_,λ {b u} hb hn _=>?_⟩ ⟨by simp [r2.len],?_,λ {n o a} g1 g2=>?_⟩ (.ref (r2.last p))
    ·obtain ⟨γ,rfl,hγ⟩:=x2.pre
     refine ⟨γ++[p],by rw [List.append_assoc],λ a ha=>?_⟩
     rcases List.mem_append.mp ha with ha | ha
     ·have z:=hγ a ha
      by_cases e:a=p
      ·rw [e]; exact hp
      ·rw [ai e] at z; exact z
     ·rw [List.mem_singleton] at ha; rw [ha]; exact hp
    ·have nb:b≠p:=aq hb hp
     rw [ai nb]
     exact x2.keep (by rw [ai nb]; exact hb) hn (by simp)
    ·rw [List.nodup_append]
     refine ⟨r2.nd,by simp,λ a ha b hb=>?_⟩
     rw [List.mem_singleton] at hb
     subst hb
     rintro rfl
     exact pb2 ha
    ·by_cases hn':n < m1.length
     ·rw [List.getElem?_append_left hn'] at g1
      rw [List.getElem?_append_left (by rw [r2.len]; exact hn')] at g2
      exact (r3.obj g1 g2).sub hsub
     ·have:n=m1.length:=by
       have:=(List.getElem?_eq_some_iff.mp g1).1
       simp at this; omega
      subst this
      rw [List.getElem?_append_right (Nat.le_refl _)] at g1
      simp at g1
      subst g1
      rw [r2.last p] at g2
      cases g2
      exact ⟨ks.zip vs,aA,(oO k1 (kS q2)).sub hsub⟩
  ·cases e
 ·cases e1
end
end D
end
section
namespace D
open PySem PySem.Spec PyProof.Rows L2
set_option genInjectivity false in
structure Ci where
 N:List Str
 names:List (Str×NameKind)
 fns:List (Str×(Nat×Nat))
 gl:List (Str×W)
 cs:Cs
 fz:List Pos
noncomputable def jS (x:Str):List Str->Option Nat
 | []=>none
 | y::r=>if y=x then some 0 else (jS x r).map (·+1)
theorem lD {x:Str}:∀{N:List Str} {i:Nat},jS x N=some i->N[i]?=some x
 | [],_,h=>by cases h
 | y::r,i,h=>by
  unfold jS at h
  split at h
  ·rename_i e; cases h; simp [e]
  ·simp only [Option.map_eq_some_iff] at h
   obtain ⟨j,h1,rfl⟩:=h
   simpa using lD h1
noncomputable def nG:List (Str×B):=[("len",.len),("abs",.abs),("max",.max),("min",.min),("divmod",.divmod),("all",.all),("any",.any),("list",.list),("tuple",.tuple),("int",.int),("sorted",.sorted),("repr",.repr)]
noncomputable def tV:List (Str×String):=[("int","int"),("bool","bool"),("str","str"),("list","list"),("tuple","tuple"),("dict","dict")]
noncomputable def ie:List Str:=["len","abs","max","min","divmod","all","any","list","tuple","int","bool","str","dict","isinstance","range","enumerate","zip","sorted","set","repr"]
noncomputable def tW:List (Str×(String×String)):=[("append",("append","list.append")),("clear",("clear","list.clear")),("reverse",("reverse","list.reverse")),
 ("pop",("pop","list.pop")),
 ("insert",("insert","list.insert")),
 ("join",("join","str.join")),("index",("index","str.index")),("add",("add","set.add")),("count",("count","list.count"))]
noncomputable def noStar:Expr->Bool
 | .Starred ..=>false
 | _=>true
noncomputable def isSlice:Expr->Bool
 | .Slice ..=>true
 | _=>false
noncomputable def isSet:Expr->Bool
 | .Set ..=>true
 | _=>false
noncomputable def jT:Expr->Bool
 | .ListComp ..=>true
 | .SetComp ..=>true
 | .DictComp ..=>true
 | _=>false
noncomputable def er:Expr->Bool
 | .Call (.Name _ _) [] [] _=>true
 | _=>false
noncomputable def wI:Expr->Bool
 | .Call ..=>true
 | .ListComp ..=>true
 | .List ..=>true
 | .BinOp ..=>true
 | .Subscript ..=>true
 | _=>false
noncomputable def wz (c:Ci) (e:Expr) (d:E):E:=if wI e&&c.fz.contains e.pos then .frz d else d
noncomputable def oQ:Expr->Bool
 | .Name ..=>true
 | _=>false
noncomputable def jU:Expr->Bool
 | .Tuple ..=>true
 | .List ..=>true
 | _=>false
noncomputable def isIt:E->Bool
 | .rng _=>true
 | .rng2 _ _=>true
 | .enm _=>true
 | .zip _=>true
 | _=>false
noncomputable def special (x:Str):Bool:=x=="__debug__"||x=="__classdict__"||x=="__name__"
noncomputable def cEs (f:Expr->Option E):List Expr->Option Es
 | []=>some .nil
 | e::es=>if noStar e then match f e with
  | none=>none
  | some d=>match cEs f es with
   | none=>none
   | some ds=>some (.cons d ds) else none
noncomputable def cBs (f:Expr->Option E) (op:BoolOp):List Expr->Option E
 | []=>none
 | [e]=>f e
 | e::r=>match f e with
  | none=>none
  | some d=>match cBs f op r with
   | none=>none
   | some ds=>match op with
    | .And=>some (.and d ds)
    | .Or=>some (.or d ds)
noncomputable def cO (f:Expr->Option E):Option Expr->Option Oe
 | none=>some .none
 | some e=>(f e).map .some
noncomputable def tX (c:Ci) (x:Str):Option E:=if special x then none else match c.names.lookup x with
 | some .local=>(jS x c.N).map .var
 | some .cell=>(jS x c.N).map .var
 | some .free=>(jS x c.N).map .var
 | some .globalImplicit=>(c.gl.lookup x).map .cst
 | _=>none
noncomputable def gh (c:Ci) (x:Str):Option Nat:=match c.names.lookup x with
 | some .local=>jS x c.N
 | some .cell=>jS x c.N
 | _=>none
noncomputable def cTs (f:Expr->Option T):List Expr->Option Ts
 | []=>some .nil
 | e::es=>if noStar e then match f e with
  | none=>none
  | some d=>match cTs f es with
   | none=>none
   | some ds=>some (.cons d ds) else none
noncomputable def cT:Nat->Ci->Expr->Option T
 | 0,_,_=>none
 | n+1,c,e=>match e with
  | .Name x _=>(gh c x).map .var
  | .Tuple es _ _=>(cTs (cT n c) es).map .tup
  | _=>none
noncomputable def cI (f:Expr->Option E) (c:Ci) (tg e:Expr):Option E:=match e with
 | .Call (.Name x _) args kws _=>if kws.isEmpty&&c.names.lookup x==some .globalImplicit&&(c.fns.lookup x).isNone&&!special x then
   if x="range" then match args with
    | [a]=>if noStar a then (f a).map .rng else none
    | _=>none
   else if x="enumerate" then match tg,args with
    | .Tuple _ _ _,[a]=>if noStar a then (f a).map .enm else none
    | _,_=>none
   else match f e with
    | some d=>if isIt d then none else some d
    | none=>none
  else match f e with
   | some d=>if isIt d then none else some d
   | none=>none
 | e=>match f e with
  | some d=>if isIt d then none else some d
  | none=>none
noncomputable def wJ (f:Expr->Option E):List Expr->Option Es
 | []=>some .nil
 | [e]=>(f e).map λ d=>.cons d .nil
 | _=>none
noncomputable def cGs (f:Expr->Option E) (n:Nat) (c:Ci) (elt:Expr):List Comprehension->Option G
 | []=>(f elt).map .elt
 | ⟨tg,it,ifs,as⟩::gs=>if as=0/\isSet it=false then match cT n c tg,cI f c tg it,wJ f ifs,cGs f n c elt gs with
  | some t,some d,some ds,some g=>some (.gen t [] d ds g)
  | _,_,_,_=>none else none
noncomputable def tY (N:List Str) (names:List (Str×NameKind)):List Nat:=(N.zipIdx.filter λ p=>names.lookup p.1==some .local||names.lookup p.1==some .cell).map (·.2)
noncomputable def nH (N:List Str) (scope:Scope) (onames:List (Str×NameKind)):Bool:=
 decide (scope.kind=.function)&&scope.names.all λ y=>(decide (y.2≠.cell)||decide (scope.names.lookup y.1=some .cell))&&(decide (y.2≠.local)||decide (scope.names.lookup y.1=some .local))&&(decide (y.2≠.free)||decide (onames.lookup y.1=some .cell)||decide (onames.lookup y.1=some .free))
noncomputable def nJ (x:Str) (args:List Expr):Option Expr:=if x="list" then match args with
  | [.Call (.Name y _) [a] [] _]=>if y="range" then some a else none
  | _=>none else none
noncomputable def nK (x:Str) (args:List Expr):Option Expr:=if x="len" then match args with
  | [.Call (.Name y _) [a] [] _]=>if y="set" then some a else none
  | _=>none else none
noncomputable def nL (f:Expr) (args:List Expr) (kws:List Keyword):Option Expr:=match f,args,kws with
 | .Name x _,[a],[⟨some k,.Constant .none _ _,_⟩]=>if x="min"/\k="default" then some a else none
 | _,_,_=>none
noncomputable def wK (c:Ci) (e:Expr):Option (List (Str×W)):=match e with
 | .Name x _=>if special x then none else if c.names.lookup x=some .globalImplicit then c.cs.dic.lookup x else none
 | _=>none
noncomputable def jq:List (Option Expr)->Option (List Str)
 | []=>some []
 | e::r=>match e with
  | some (.Constant (.str k) _ _)=>(jq r).map (k::·)
  | _=>none
noncomputable def CA (op:CmpOp) (kvs:List (Str×W)) (d:Option E):Option E:=match op with
 | .In=>d.map (.fus (.kin kvs))
 | .NotIn=>d.map (.fus (.knin kvs))
 | _=>none
noncomputable def cE:Nat->Ci->Expr->Option E
 | 0,_,_=>none
 | n+1,c,e=>Option.map (wz c e) <| match e with
  | .Name x _=>tX c x
  | .Constant k _ _=>match k with
   | .int i=>some (.cst (.int i))
   | .bool b=>some (.cst (.bl b))
   | .none=>some (.cst .non)
   | .str x=>some (.cst (.str x))
   | _=>none
  | .BinOp a op b _=>match cE n c a,cE n c b with
   | some d,some d'=>some (.bin op d d')
   | _,_=>none
  | .UnaryOp op a _=>match op with
   | .USub=>(cE n c a).map .neg
   | .Not=>(cE n c a).map .not
   | _=>none
  | .BoolOp op vs _=>cBs (cE n c) op vs
  | .Compare a ops bs _=>match ops,bs with
   | [op],[b]=>if behindInMarks op b then none else match wK c b with
    | some kvs=>CA op kvs (cE n c a)
    | none=>match cE n c a,cE n c b with
     | some d,some d'=>some (.cmp op d d')
     | _,_=>none
   | [o1,o2],[b,b']=>if lastMarks [o1,o2] [b,b'] then none else match cE n c a,cE n c b,cE n c b' with
    | some d,some d',some d''=>some (.chain o1 o2 d d' d'')
    | _,_,_=>none
   | _,_=>none
  | .IfExp t a b _=>match cE n c t,cE n c a,cE n c b with
   | some d,some d',some d''=>some (.ife d d' d'')
   | _,_,_=>none
  | .Tuple es _ _=>(cEs (cE n c) es).map .tup
  | .List es _=>(cEs (cE n c) es).map .lst
  | .Subscript a s _=>match s with
   | .Slice lo hi st _=>match st with
    | none=>match cE n c a,cO (cE n c) lo,cO (cE n c) hi with
     | some d,some l,some h=>some (.slc d l h)
     | _,_,_=>none
    | some _=>none
   | s=>if isSlice s then none else match wK c a with
    | some kvs=>(cE n c s).map (.fus (.kget kvs))
    | none=>match cE n c a,cE n c s with
     | some d,some d'=>some (.idx d d')
     | _,_=>none
  | .Dict keys values _=>if keys.length=values.length/\keys.length<=15/\keys≠[] then match jq keys with
    | some ks=>(cEs (cE n c) values).map λ ds=>.fus (.dict ks) (.tup ds)
    | none=>none
   else none
  | .Call f args kws pos=>if kws.isEmpty then match f with
    | .Name x _=>if special x then none else if c.names.lookup x=some .globalImplicit then match c.fns.lookup x with
      | some (i,np)=>match args with
       | []=>if np=0 then some (.call i .nil) else none
       | a::r=>if args.length=np then (cEs (cE n c) (a::r)).map (.call i) else none
      | none=>match c.cs.ini.lookup x with
       | some _=>match args with
        | []=>none
        | a::r=>(cEs (cE n c) (a::r)).map (.make x)
       | none=>if x="set" then match args with
        | []=>some .set0
        | _=>none
       else
       match nK x args with
       | some a=>if noStar a&&c.names.lookup ("set":Str)==some .globalImplicit&&(c.fns.lookup ("set":Str)).isNone then (cE n c a).map (.fus .gm) else none
       | none=>
       match nJ x args with
       | some a=>if noStar a&&c.names.lookup ("range":Str)==some .globalImplicit&&(c.fns.lookup ("range":Str)).isNone then (cE n c a).map .lrng else none
       | none=>
       match nG.lookup x with
       | some b=>match args with
        | []=>none
        | a::r=>(cEs (cE n c) (a::r)).map (.blt b)
       | none=>if x="isinstance" then match args with
         | [a,.Name t _]=>if special t then none else if noStar a&&c.names.lookup t==some .globalImplicit then match tV.lookup t,cE n c a with
          | some tn,some d=>some (.isI d tn)
          | _,_=>none else none
         | _=>none
        else none
     else none
    | .Attribute o m apos=>if er o then none else if (apos.endLine==pos.line) then match tW.lookup m,cE n c o with
      | some (nm,_),some d=>if args.length < 20 then (cEs (cE n c) args).map (.meth d nm) else none
      | none,some d=>if args.length < 20 then (cEs (cE n c) args).map (.mth d m) else none
      | _,_=>none
     else none
    | _=>none
   else match nL f args kws with
    | some a=>if noStar a&&c.names.lookup ("min":Str)==some .globalImplicit&&(c.fns.lookup ("min":Str)).isNone then (cE n c a).map (.fus .mind) else none
    | none=>none
  | .Attribute o f _=>if er o then none else (cE n c o).map λ d=>.fld d f
  | .ListComp elt gens scope _=>match gens with
   | []=>none
   | ⟨tg,it,ifs,as⟩::gs=>
    let c':Ci:={c with names:=scope.names}
    if as=0/\isSet it=false/\nH c.N scope c.names=true then match cT n c' tg,cI (cE n c) c tg it,wJ (cE n c') ifs,cGs (cE n c') n c' elt gs with
     | some t,some d,some ds,some g=>some (.comp (.gen t (tY c.N scope.names) d ds g))
     | _,_,_,_=>none
    else none
  | _=>none
noncomputable def cAs (f:Expr->Option A):List Expr->Option As
 | []=>some .nil
 | e::es=>if noStar e then match f e with
  | none=>none
  | some d=>match cAs f es with
   | none=>none
   | some ds=>some (.cons d ds) else none
noncomputable def cA:Nat->Ci->Expr->Option A
 | 0,_,_=>none
 | n+1,c,e=>match e with
  | .Name x _=>(gh c x).map λ i=>.pt (.var i)
  | .Tuple es _ _=>(cAs (cA n c) es).map .tup
  | .Subscript o i _=>if isSlice i then none else match cE n c o,cE n c i with
   | some d,some d'=>some (.sub d d')
   | _,_=>none
  | _=>none
noncomputable def cSs (f:Stmt->Option S):List Stmt->Option Ss
 | []=>some .nil
 | s::r=>match f s with
  | none=>none
  | some d=>match cSs f r with
   | none=>none
   | some ds=>some (.cons d ds)
noncomputable def pairOf:Expr->Expr->Option (Str×Pos×Str×Pos×Expr×Expr)
 | .Tuple [.Name x px,.Name y py] _ _,.Tuple [a,b] _ _=>some (x,px,y,py,a,b)
 | _,_=>none
noncomputable def AH (n:Nat) (c:Ci) (tg v:Expr):Option S:=if (jU tg&&jU v)||oQ tg||!noStar tg then none else match cA n c tg,cE n c v with
 | some t,some d=>some (.asg t d)
 | _,_=>none
noncomputable def AI (n:Nat) (c:Ci) (tg v:Expr):Option S:=match tg with
 | .Name x _=>match gh c x,cE n c v with
  | some i,some d=>some (.asg (.pt (.var i)) d)
  | _,_=>none
 | .Attribute o f _=>match cE n c o,cE n c v with
  | some d,some d'=>some (.fas d f d')
  | _,_=>none
 | tg=>
  match pairOf tg v with
  | some (x,px,y,py,a,b)=>if px.line==py.line&&c.names.lookup x==some .local&&c.names.lookup y==some .local&&x != y&&noStar a&&noStar b&&!([a,b].all (foldedForSure 8))&&!([a,b].all (constantsAlone 8)) then
    match gh c x,gh c y,cE n c a,cE n c b with
    | some i,some j,some d,some d'=>some (.asg (.pt (.tup (.cons (.var i) (.cons (.var j) .nil)))) (.tup (.cons d (.cons d' .nil))))
    | _,_,_,_=>none else none
  | none=>
  AH n c tg v
noncomputable def cS:Nat->Ci->Stmt->Option S
 | 0,_,_=>none
 | n+1,c,s=>match s with
  | .Assign ts v _=>match ts with
   | [t]=>AI n c t v
   | _=>none
  | .Expr v _=>if jT v then none else (cE n c v).map .expr
  | .Return o _=>match o with
   | some v=>(cE n c v).map .ret
   | none=>some .retN
  | .If t a b _=>match cE n c t,cSs (cS n c) a,cSs (cS n c) b with
   | some d,some x,some y=>some (.ife d x y)
   | _,_,_=>none
  | .For tg it body els _=>match els with
   | []=>if isSet it then none else match cT n c tg,cI (cE n c) c tg it,cSs (cS n c) body with
    | some t,some d,some x=>some (.for_ t d x)
    | _,_,_=>none
   | _=>none
  | .Pass _=>some .pass
  | .Break _=>some .brk
  | .Continue _=>some .cont
  | .Raise _ _ _=>some .never
  | _=>none
end D
end
section
namespace D
open PySem PySem.Spec PyProof.Rows L2
structure Ok (X:L2.Cx) (cl:Cl) (C:D.Cx) (c:Ci):Prop where
 N:X.N=c.N
 nd:c.N.Nodup
 vis:∀{x:Str} {k:NameKind},c.names.lookup x=some k->(k=.local\/k=.cell\/k=.free)->Vis X.env.scope x
 loc:∀{x:Str} {k:NameKind},c.names.lookup x=some k->(k=.local\/k=.cell)->L2.Loc X.env.scope x/\(X.fn x=true\/X.env.scope.names.lookup x=some .local)
 cel:∀{x:Str},(c.names.lookup x=some .cell\/c.names.lookup x=some .free)->X.env.scope.names.lookup x=some .cell\/X.env.scope.names.lookup x=some .free
 glb:∀{x:Str},c.names.lookup x=some .globalImplicit->Gl X x
 calm:X.calm=true
 units:UN X cl
 hand:X.A.handled=none
 blt:∀x∈ie,X.mg x=none
 fn:∀{x:Str} {i np:Nat},c.fns.lookup x=some (i,np)->∃(k:Nat) (fa:Addr) (fd:FuncData) (ps:List Str),ps.length=np/\bR k X.A/\X.mg x=some (.ref fa)/\PySem.W.keepIn X.K (.ref fa)=true/\Binds X.K fd ps []/\cV X.prog X.w X.K X.mg X.base CX0 k fa fd ps (spD X.K cl ps.length (C.call i))
 gl:∀{x:Str} {w:W},c.gl.lookup x=some w->∃u v,X.mg x=some u/\RelV v u/\∀β H,RW X.K β H w v
 cs:c.cs=C.cs
 fld:∀{d f:Str},C.cs.flds.contains (d,f)=true->Cls X.K (aL X.K d)/\dH X.K (aL X.K d) f
 mth:∀{d f:Str} {i:Nat},C.cs.mths.lookup (d,f)=some i->x9 X cl C d f i
 ini:∀{d:Str} {i:Nat},C.cs.ini.lookup d=some i->ya X cl C d i
 dic:∀{x:Str} {kvs:List (Str×W)},C.cs.dic.lookup x=some kvs->TopK X.K X.w X.mg x kvs
section
variable {env:Env}
theorem aY {e:Expr} {es:List Expr} (h:noStar e=true):starEach (e::es) env=(false,eval e env)::starEach es env:=by
 cases e<;>first | rfl | cases h
theorem cJ {f:Expr->Option E} {pos:Pos}:∀{es:List Expr} {ds:Es},cEs f es=some ds->(backTo pos (starEach es env)).any (·.1)=false
 | [],_,_=>rfl
 | e::es,ds,h=>by
  unfold cEs at h
  split at h
  ·rename_i hs
   split at h
   ·cases h
   ·split at h
    ·cases h
    ·rename_i ds' h2
     rw [aY hs]
     show ((false||(backTo pos (starEach es env)).any (·.1)))=false
     rw [cJ h2]; rfl
  ·cases h
theorem jV {f:Expr->Option E} {pos:Pos}:∀{es:List Expr} {ds:Es},cEs f es=some ds->(backTo pos (starEach es env)).all (λ x=>!x.1)=true
 | [],_,_=>rfl
 | e::es,ds,h=>by
  unfold cEs at h
  split at h
  ·rename_i hs
   split at h
   ·cases h
   ·split at h
    ·cases h
    ·rename_i ds' h2
     rw [aY hs]
     show ((true&&(backTo pos (starEach es env)).all (λ x=>!x.1)))=true
     rw [jV h2]; rfl
  ·cases h
theorem eV {f:Expr->Option E} {e:Expr} {es:List Expr} {ds:Es} (h:cEs f (e::es)=some ds):noStar e=true/\∃d ds',f e=some d/\cEs f es=some ds'/\ds=.cons d ds':=by
 unfold cEs at h
 split at h
 ·rename_i hs
  split at h
  ·cases h
  ·rename_i d h1
   split at h
   ·cases h
   ·rename_i ds' h2
    cases h
    exact ⟨hs,d,ds',h1,h2,rfl⟩
 ·cases h
theorem ig {e:Expr} {es:List Expr} (h:noStar e=true):assignEach (e::es) env=(false,assign e env)::assignEach es env:=by
 cases e<;>first | rfl | cases h
theorem oR {b:Expr} (h:isSlice b=false):gA b:=by
 intro o i
 cases b<;>first | rfl | cases h
theorem jW {o:Expr} {m:Str} (h:er o=false):attributeBase o m env (eval o env)=eval o env:=by
 unfold attributeBase
 split
 ·cases h
 ·rfl
theorem jX {e:Expr} (h:isSet e=false) (x:Value):foldedSetIterable e env x=pure x:=by
 cases e<;>first | rfl | cases h
theorem oS {v:Expr} {t:Option Expr} {l:Nat} (h:jT v=false):swapsWith v t l env=pure false:=by
 cases v<;>first | rfl | cases h
noncomputable def Es.len:Es->Nat
 | .nil=>0
 | .cons _ r=>r.len+1
theorem oU {f:Expr->Option E}:∀{es:List Expr} {ds:Es},cEs f es=some ds->ds.len=es.length
 | [],_,h=>by cases h; rfl
 | e::es,ds,h=>by
  obtain ⟨_,d,ds',_,h2,rfl⟩:=eV h
  show ds'.len+1=_
  rw [oU h2]; rfl
theorem lE {C:D.Cx}:∀{ds:Es} {ρ:Loc} {m m':Mem} {ws:List W},aH C ds ρ m=.ok ws m'->ws.length=ds.len
 | .nil,_,_,_,_,h=>by simp only [aH] at h; cases h; rfl
 | .cons d ds,_,_,_,_,h=>by
  simp only [aH] at h
  obtain ⟨w,m1,h1,h⟩:=R.aa h
  obtain ⟨ws,m2,h2,h⟩:=R.aa h
  cases h
  rw [List.length_cons,lE h2]; rfl
end
theorem lookup_mem {β:Type} {x:Str} {b:β}:∀{l:List (Str×β)},l.lookup x=some b->(x,b)∈l:=λ {l} h=>PySem.mem_of_lookup h
theorem qG {x:Str} {b:B} (h:nG.lookup x=some b):x∈ie/\((∃id,tu b=.builtin id/\bootBuiltins x=some (.builtin id))\/∃id,tu b=.type id/\bootBuiltins x=some (.type id)):=by
 have hm:=lookup_mem h
 simp only [nG,List.mem_cons,Prod.mk.injEq,List.not_mem_nil,or_false] at hm
 rcases hm with ⟨rfl,rfl⟩ | ⟨rfl,rfl⟩ | ⟨rfl,rfl⟩ | ⟨rfl,rfl⟩ | ⟨rfl,rfl⟩ | ⟨rfl,rfl⟩ | ⟨rfl,rfl⟩ | ⟨rfl,rfl⟩ | ⟨rfl,rfl⟩ | ⟨rfl,rfl⟩ | ⟨rfl,rfl⟩ | ⟨rfl,rfl⟩
 all_goals first
  | exact ⟨by decide +kernel,.inl ⟨_,rfl,by decide +kernel⟩⟩
  | exact ⟨by decide +kernel,.inr ⟨_,rfl,by decide +kernel⟩⟩
theorem tZ {x:Str} {b:String} (h:tV.lookup x=some b):x∈ie/\b∈bE/\bootBuiltins x=some (.type b):=by
 have hm:=lookup_mem h
 simp only [tV,List.mem_cons,Prod.mk.injEq,List.not_mem_nil,or_false] at hm
 rcases hm with ⟨rfl,rfl⟩ | ⟨rfl,rfl⟩ | ⟨rfl,rfl⟩ | ⟨rfl,rfl⟩ | ⟨rfl,rfl⟩ | ⟨rfl,rfl⟩
 all_goals exact ⟨by decide +kernel,by decide,by decide +kernel⟩
theorem t6 {X:L2.Cx} {cl:Cl} (hu:UN X cl) {m:Str} {nm id:String} (h:tW.lookup m=some (nm,id)):PlainAttrs (kdT (kdM nm))/\Slot (kdT (kdM nm)) m id/\typeOf (.builtin id)=pure (.type "method_descriptor")/\MtR X id (SM X cl nm):=by
 have hm:=lookup_mem h
 simp only [tW,List.mem_cons,Prod.mk.injEq,List.not_mem_nil,or_false] at hm
 rcases hm with ⟨rfl,rfl,rfl⟩ | ⟨rfl,rfl,rfl⟩ | ⟨rfl,rfl,rfl⟩
  | ⟨rfl,rfl,rfl⟩
  | ⟨rfl,rfl,rfl⟩
  | ⟨rfl,rfl,rfl⟩ | ⟨rfl,rfl,rfl⟩ | ⟨rfl,rfl,rfl⟩ | ⟨rfl,rfl,rfl⟩
 ·exact ⟨PySem.F.plainAttrs_list,PySem.F.slot_list_append,PySem.F.type_list_append,qC⟩
 ·exact ⟨PySem.F.plainAttrs_list,PySem.F.slot_list_clear,PySem.F.type_list_clear,tF⟩
 ·exact ⟨PySem.F.plainAttrs_list,PySem.F.slot_list_reverse,PySem.F.type_list_reverse,nB⟩
 ·exact ⟨PySem.F.plainAttrs_list,PySem.F.slot_list_pop,PySem.F.type_list_pop,z9⟩
 ·exact ⟨PySem.F.plainAttrs_list,PySem.F.slot_list_insert,PySem.F.type_list_insert,qD⟩
 ·exact ⟨PySem.F.plainAttrs_str,PySem.F.slot_str_join,PySem.F.type_str_join,v9⟩
 ·exact ⟨PySem.F.plainAttrs_str,PySem.F.slot_str_index,PySem.F.type_str_index,qE⟩
 ·exact ⟨PySem.F.plainAttrs_set,PySem.F.slot_set_add,PySem.F.type_set_add,Aa hu⟩
 ·exact ⟨PySem.F.plainAttrs_list,PySem.F.slot_list_count,PySem.F.type_list_count,tG⟩
theorem dw {x:Str} (h:special x=false):(x==("__debug__":Str))=false/\(x==("__classdict__":Str))=false/\x≠"__name__":=by
 unfold special at h
 simp only [Bool.or_eq_false_iff] at h
 exact ⟨h.1.1,h.1.2,by simpa using h.2⟩
section
variable {X:L2.Cx} {cl:Cl} {C:D.Cx} {c:Ci}
theorem Ok.slot (o:Ok X cl C c) {x:Str} {i:Nat} (h:jS x c.N=some i):X.N[i]?=some x:=by rw [o.N]; exact lD h
theorem wL (o:Ok X cl C c) {x:Str} {pos:Pos} {d:E} (h:tX c x=some d):PE X (.Name x pos) (SE X cl (evE C d))/\∀ρ m,evT C d ρ m=(evE C d ρ m).bind λ w m=>D.truthy m w:=by
 unfold tX at h
 split at h
 ·cases h
 ·rename_i hs
  obtain ⟨h1,h2,h3⟩:=dw (by simpa using hs)
  split at h
  ·rename_i hk
   simp only [Option.map_eq_some_iff] at h
   obtain ⟨i,hi,rfl⟩:=h
   exact ⟨sX (o.slot hi) (o.vis hk (.inl rfl)) h1 h2,λ _ _=>by simp only [evT,evE]⟩
  ·rename_i hk
   simp only [Option.map_eq_some_iff] at h
   obtain ⟨i,hi,rfl⟩:=h
   exact ⟨sX (o.slot hi) (o.vis hk (.inr (.inl rfl))) h1 h2,λ _ _=>by simp only [evT,evE]⟩
  ·rename_i hk
   simp only [Option.map_eq_some_iff] at h
   obtain ⟨i,hi,rfl⟩:=h
   exact ⟨sX (o.slot hi) (o.vis hk (.inr (.inr rfl))) h1 h2,λ _ _=>by simp only [evT,evE]⟩
  ·rename_i hk
   simp only [Option.map_eq_some_iff] at h
   obtain ⟨w,hw,rfl⟩:=h
   exact ⟨BW (o.glb hk) (o.gl hw) h1,λ _ _=>by simp only [evT,evE]⟩
  ·cases h
noncomputable def Tells (X:L2.Cx) (cl:Cl) (C:D.Cx) (e:Expr) (d:E):Prop:=PE X e (SE X cl (evE C d))/\PT X e (ST X cl (evT C d))
theorem au {e:Expr} {d:E} (h:PE X e (SE X cl (evE C d))) (he:∀whole,isTrue e X.env whole=(do let v <-whole; standAt e.pos; holding [v] (PySem.truthy v))) (hd:∀ρ m,evT C d ρ m=(evE C d ρ m).bind λ w m=>D.truthy m w):Tells X cl C e d:=⟨h,xR h he hd⟩
theorem t7 {e:Expr} {d:E} (h:Tells X cl C e d):Tells X cl C e (wz c e d):=by
 unfold wz
 split
 ·rename_i hc
  simp only [Bool.and_eq_true] at hc
  refine ⟨x8 h.1,xR (x8 h.1) ?_ λ _ _=>by simp only [evT,evE]⟩
  have:=hc.1
  cases e<;>first | (intro _; rfl) | cases this
 ·exact h
theorem fu {f:Expr->Option E} (ih:∀e d,f e=some d->Tells X cl C e d):∀{es:List Expr} {ds:Es},cEs f es=some ds->PA X es (SA X cl (aH C ds))
 | [],_,h=>by cases h; exact xS
 | e::es,ds,h=>by
  obtain ⟨hs,d,ds',h1,h2,rfl⟩:=eV h
  exact nv (ih e d h1).1 (fu ih h2) (aY hs)
theorem CB {f:Expr->Option E} (ih:∀e d,f e=some d->Tells X cl C e d) {e:Option Expr} {d:Oe} (h:cO f e=some d):PO X e (SOo X cl (evO C d)):=by
 cases e with
 | none=>cases h; exact zW
 | some e=>
  simp only [cO,Option.map_eq_some_iff] at h
  obtain ⟨d',h1,rfl⟩:=h
  exact zX (ih e d' h1).1
theorem yb {f:Expr->Option E} (ih:∀e d,f e=some d->Tells X cl C e d) {op:BoolOp} {pos:Pos}:∀{es:List Expr} {d:E},cBs f op es=some d->PE X (.BoolOp op es pos) (SE X cl (evE C d))/\PW X (.BoolOp op es pos) (ST X cl (evT C d))
 | [],_,h=>by cases h
 | [e],d,h=>by
  have q:=ih e d h
  cases op with
  | And=>exact ⟨q8 q.1,uW q.2⟩
  | Or=>exact ⟨q8 q.1,yE q.2⟩
 | e::e'::r,d,h=>by
  unfold cBs at h
  split at h
  ·cases h
  ·rename_i d1 h1
   split at h
   ·cases h
   ·rename_i d2 h2
    obtain ⟨q1,q2⟩:=yb (pos:=pos) ih h2
    obtain ⟨p1,p2⟩:=ih e d1 h1
    cases op with
    | And=>cases h; exact ⟨B5 p1 q1,w_and p2 q2⟩
    | Or=>cases h; exact ⟨DN p1 q1,w_or p2 q2⟩
theorem wM {a b c':Expr} {da db dc:E} {o1 o2:CmpOp} {pos:Pos} (hu:UN X cl) (ha:PE X a (SE X cl (evE C da))) (hb:PE X b (SE X cl (evE C db))) (hc:PE X c' (SE X cl (evE C dc))) (hm:lastMarks [o1,o2] [b,c']=false) :
  PT X (.Compare a [o1,o2] [b,c'] pos) (ST X cl (evT C (.chain o1 o2 da db dc))):=by
 refine PT.imp (rE (fT (cl:=cl) hu o1) (fT (cl:=cl) hu o2) ha hb hc hm) ?_
 rintro σ H Q ⟨β,ρ,m,w,m',r,l,e,k⟩
 simp only [evT,evE] at e
 obtain ⟨x,m1,e1,e⟩:=R.aa e
 obtain ⟨y,m2,e2,e⟩:=R.aa e
 obtain ⟨z,m3,e3,e⟩:=R.aa e
 refine ⟨β,ρ,m,x,m1,r,l,e1,fun β1 H1 v1 x1 r1 q1=>?_⟩
 refine ⟨β1,ρ,m1,y,m2,r1,l.mono r x1,e2,fun β2 H2 v2 x2 r2 q2=>?_⟩
 have l2:=(l.mono r x1).mono r1 x2
 refine ⟨β2,m2,x,y,.bl z,m3,r2,q1.mono r1 x2,q2,by dsimp only; rw [e3]; rfl,fun β3 H3 v3 x3 r3 q3=>?_⟩
 cases q3
 refine ⟨z,rfl,?_⟩
 have x03:=(x1.trans r1 x2).trans r2 x3
 split at e
 ·rename_i hc
  rw [if_pos hc]
  obtain ⟨u,m4,e4,e⟩:=R.aa e
  refine ⟨β3,ρ,m3,u,m4,r3,l2.mono r2 x3,e4,fun β4 H4 v4 x4 r4 q4=>?_⟩
  refine ⟨β4,m4,y,u,.bl w,m',r4,(q2.mono r2 x3).mono r3 x4,q4,by dsimp only; rw [e]; rfl,fun β5 H5 v5 x5 r5 q5=>?_⟩
  cases q5
  exact ⟨_,rfl,k _ _ ((x03.trans r3 x4).trans r4 x5) r5⟩
 ·rename_i hc
  rw [if_neg hc]
  cases e
  exact ⟨_,rfl,k _ _ x03 r3⟩
theorem CC {t a b:Expr} {dt da db:E} {pos:Pos} (ht:PT X t (ST X cl (evT C dt))) (ha:PT X a (ST X cl (evT C da))) (hb:PT X b (ST X cl (evT C db))):PT X (.IfExp t a b pos) (ST X cl (evT C (.ife dt da db))):=by
 intro pins s σ H Q I h
 obtain ⟨β,ρ,m,w,m',r,l,e,k⟩:=h
 simp only [evT,evE] at e
 obtain ⟨x,m1,e1,e⟩:=R.aa e
 show wpAny _ _ (isTrue t X.env (eval t X.env) >>= λ z=>if z=true then isTrue a X.env (eval a X.env) else isTrue b X.env (eval b X.env)) _ _ s
 refine wpAny_bind (thn (ht pins s σ H (λ c H1=>c=x/\∃β1,Ext β H β1 H1/\Rel X.K cl β1 m1 H1) I ⟨β,ρ,m,x,m1,r,l,e1,fun β1 H1 x1 r1=>⟨rfl,β1,x1,r1⟩⟩) λ c s1 ⟨H1,I1,hc,β1,x1,r1⟩=>?_)
 subst hc
 cases c with
 | true=>exact ha pins s1 σ H1 Q I1 ⟨β1,ρ,m1,w,m',r1,l.mono r x1,e,fun β2 H2 x2 r2=>k _ _ (x1.trans r1 x2) r2⟩
 | false=>exact hb pins s1 σ H1 Q I1 ⟨β1,ρ,m1,w,m',r1,l.mono r x1,e,fun β2 H2 x2 r2=>k _ _ (x1.trans r1 x2) r2⟩
end
end D
end
section
namespace D
open PySem PySem.Spec PyProof.Rows L2
section
variable {X:L2.Cx} {cl:Cl} {C:D.Cx} {c:Ci}
theorem cY (o:Ok X cl C c) {x:Str} {i:Nat} (h:gh c x=some i):X.N[i]?=some x/\L2.Loc X.env.scope x/\(X.fn x=true\/X.env.scope.names.lookup x=some .local):=by
 unfold gh at h
 split at h
 ·rename_i hk
  exact ⟨o.slot h,o.loc hk (.inl rfl)⟩
 ·rename_i hk
  exact ⟨o.slot h,o.loc hk (.inr rfl)⟩
 ·cases h
theorem ndX (o:Ok X cl C c):X.N.Nodup:=by rw [o.N]; exact o.nd
theorem yc {f:Expr->Option T} (ih:∀e t,f e=some t->PG X e (SG X cl (evA C (.pt t)))):∀{es:List Expr} {ts:Ts},cTs f es=some ts->
  PGs X es (SGs X cl (cP C (T.nE ts)))/\(assignEach es X.env).length=(T.nE ts).len/\(assignEach es X.env).findIdx? (·.1)=none
 | [],_,h=>by cases h; exact ⟨tN,rfl,rfl⟩
 | e::es,ts,h=>by
  unfold cTs at h
  split at h
  ·rename_i hs
   split at h
   ·cases h
   ·rename_i d h1
    split at h
    ·cases h
    ·rename_i ds h2
     cases h
     obtain ⟨q1,q2,q3⟩:=yc ih h2
     have e1:=ig (env:=X.env) (es:=es) hs
     refine ⟨oJ (ih e d h1) q1 (by rw [e1]; rfl),?_,?_⟩
     ·rw [e1,List.length_cons,q2]; rfl
     ·rw [e1,List.findIdx?_cons]
      simp [q3]
  ·cases h
theorem lF (o:Ok X cl C c):∀(n:Nat) (e:Expr) (t:T),cT n c e=some t->PG X e (SG X cl (evA C (.pt t)))
 | 0,_,_,h=>by cases h
 | n+1,e,t,h=>by
  unfold cT at h
  split at h
  ·simp only [Option.map_eq_some_iff] at h
   obtain ⟨i,hi,rfl⟩:=h
   obtain ⟨h1,h2,h3⟩:=cY o hi
   exact xV (ndX o) h1 h2 h3
  ·simp only [Option.map_eq_some_iff] at h
   obtain ⟨ts,hi,rfl⟩:=h
   obtain ⟨q1,q2,q3⟩:=yc (λ e t h=>lF o n e t h) hi
   exact Aj (xW o.calm q1 q2 q3)
  ·cases h
theorem qH {x:Str} {args:List Expr} {a:Expr} (h:nK x args=some a):∃py p2,x="len"/\args=[.Call (.Name "set" py) [a] [] p2]:=by
 unfold nK at h
 split at h
 ·rename_i hx
  split at h
  ·split at h
   ·rename_i hy
    cases h
    subst hx hy
    exact ⟨_,_,rfl,rfl⟩
   ·cases h
  ·cases h
 ·cases h
theorem qI {f:Expr} {args:List Expr} {kws:List Keyword} {a:Expr} (h:nL f args kws=some a):∃p j cp kp,f=.Name "min" p/\args=[a]/\kws=[⟨some "default",.Constant .none j cp,kp⟩]:=by
 unfold nL at h
 split at h
 ·split at h
  ·rename_i hx
   cases h
   obtain ⟨rfl,rfl⟩:=hx
   exact ⟨_,_,_,_,rfl,rfl,rfl⟩
  ·cases h
 ·cases h
theorem qJ {x:Str} {args:List Expr} {a:Expr} (h:nJ x args=some a):∃py p2,x="list"/\args=[.Call (.Name "range" py) [a] [] p2]:=by
 unfold nJ at h
 split at h
 ·rename_i hx
  split at h
  ·split at h
   ·rename_i hy
    cases h
    subst hx hy
    exact ⟨_,_,rfl,rfl⟩
   ·cases h
  ·cases h
 ·cases h
theorem t8 {d:E} (h:isIt d=false):∀ρ m,evI C d ρ m=(evE C d ρ m).bind toI:=by
 intro ρ m
 cases d<;>first | (simp [isIt] at h; done) | (simp only [evI,evE]; done) | rfl
theorem jY {f:Expr->Option E} (ih:∀e d,f e=some d->Tells X cl C e d) {tg e:Expr} {d:E} (h:(match f e with | some d=>if isIt d=true then none else some d | none=>none)=some d):PI X tg e (SI X cl (evI C d)):=by
 split at h
 ·rename_i d' h1
  split at h
  ·cases h
  ·rename_i hi
   cases h
   exact Ce (ih _ _ h1).1 (t8 (by simpa using hi))
 ·cases h
theorem oV (o:Ok X cl C c) {f:Expr->Option E} (ih:∀e d,f e=some d->Tells X cl C e d) {tg e:Expr} {d:E} (h:cI f c tg e=some d):PI X tg e (SI X cl (evI C d)):=by
 unfold cI at h
 split at h
 ·rename_i x p args kws pos
  split at h
  ·rename_i hk
   simp only [Bool.and_eq_true,beq_iff_eq,List.isEmpty_iff] at hk
   obtain ⟨⟨⟨hk1,hk2⟩,hk3⟩,hk4⟩:=hk
   subst hk1
   split at h
   ·rename_i hx
    subst hx
    have hm:=o.blt "range" (by decide +kernel)
    split at h
    ·split at h
     ·rename_i hs
      simp only [Option.map_eq_some_iff] at h
      obtain ⟨d',h1,rfl⟩:=h
      exact Cg (o.glb hk2) hm (ih _ _ h1).1 (aY hs)
     ·cases h
    ·cases h
   ·split at h
    ·rename_i hx
     subst hx
     have hm:=o.blt "enumerate" (by decide +kernel)
     split at h
     ·split at h
      ·rename_i hs
       simp only [Option.map_eq_some_iff] at h
       obtain ⟨d',h1,rfl⟩:=h
       exact Cj (o.glb hk2) hm (ih _ _ h1).1 (aY hs)
      ·cases h
     ·cases h
    ·
      exact jY ih h
  ·exact jY ih h
 ·exact jY ih h
theorem jZ {f:Expr->Option E} (ih:∀e d,f e=some d->Tells X cl C e d) {es:List Expr} {ds:Es} (h:wJ f es=some ds):iO X es (ST X cl (aN C ds)):=by
 unfold wJ at h
 split at h
 ·cases h; exact wF
 ·simp only [Option.map_eq_some_iff] at h
  obtain ⟨d,h1,rfl⟩:=h
  exact wG (ih _ _ h1).2
 ·cases h
theorem ir {f:Expr->Option E} {n:Nat} {elt:Expr} {gs:List Comprehension} {g:G} (h:cGs f n c elt gs=some g):∀g',gs[0]?=some g'->g'.is_async=0/\∀(env:Env) x,foldedSetIterable g'.iter env x=pure x:=by
 intro g' hg
 cases gs with
 | nil=>simp at hg
 | cons g0 gs=>
  simp at hg
  subst hg
  obtain ⟨tg,it,ifs,as⟩:=g0
  unfold cGs at h
  split at h
  ·rename_i hs
   exact ⟨hs.1,λ env x=>jX hs.2 x⟩
  ·cases h
theorem nM (o:Ok X cl C c) (hx:X.xe=λ _ _=>False) {f:Expr->Option E} (ih:∀e d,f e=some d->Tells X cl C e d) {n:Nat} {elt:Expr} {scope:Scope} {pos:Pos} {gens:List Comprehension} {Δ:Addr}:∀{gs:List Comprehension} {g:G} {d0:Nat},cGs f n c elt gs=some g->(∀i,gens[d0+1+i]?=gs[i]?)->
  PB X (.ListComp elt gens scope pos) elt gens d0 Δ (SB X cl Δ (evG C g))
 | [],g,d0,h,hg=>by
  simp only [cGs,Option.map_eq_some_iff] at h
  obtain ⟨d,h1,rfl⟩:=h
  exact Au hx (by simpa using hg 0) (ih _ _ h1).1
 | ⟨tg,it,ifs,as⟩::gs,g,d0,h,hg=>by
  unfold cGs at h
  split at h
  ·rename_i hs
   split at h
   ·rename_i t d ds g' h1 h2 h3 h4
    cases h
    obtain ⟨rfl,hs2⟩:=hs
    have hh:=ir h4
    refine Cp hx o.calm (by simpa using hg 0) (λ g2 hg2=>?_) (oV o ih h2) (lF o n _ _ h1) (jZ ih h3) (nM o hx ih (d0:=d0+1) h4 λ i=>?_)
    ·have:=hg 1
     rw [hg2] at this
     obtain ⟨a1,a2⟩:=hh g2 (by simpa using this.symm)
     exact ⟨a1,a2 _⟩
    ·have:=hg (i+1)
     rw [show d0+1+1+i=d0+1+(i+1) by omega,this]
     simp
   ·cases h
  ·cases h
theorem aS {env:Env}:∀{names:List (Str×NameKind)} {x:Str} {k:NameKind},names.lookup x=some k->
  (names.map λ (n,k)=>if (k==NameKind.free&&env.scope.kind==.function&&env.kindOf n==some .cell) then (n,NameKind.cell) else (n,k)).lookup x=some k\/
  (k=.free/\(names.map λ (n,k)=>if (k==NameKind.free&&env.scope.kind==.function&&env.kindOf n==some .cell) then (n,NameKind.cell) else (n,k)).lookup x=some .cell)
 | [],_,_,h=>by simp at h
 | (n,k0)::r,x,k,h=>by
  have ih:=@aS env r x k
  show List.lookup x ((if (k0==NameKind.free&&env.scope.kind==.function&&env.kindOf n==some .cell)=true then (n,NameKind.cell) else (n,k0))::(r.map λ (n,k)=>if (k==NameKind.free&&env.scope.kind==.function&&env.kindOf n==some .cell) then (n,NameKind.cell) else (n,k)))=some k\/(k=.free/\List.lookup x ((if (k0==NameKind.free&&env.scope.kind==.function&&env.kindOf n==some .cell)=true then (n,NameKind.cell) else (n,k0))::(r.map λ (n,k)=>if (k==NameKind.free&&env.scope.kind==.function&&env.kindOf n==some .cell) then (n,NameKind.cell) else (n,k)))=some .cell)
  cases hx:x==n with
  | true=>
   simp only [List.lookup_cons,hx] at h
   cases h
   by_cases hc:(k0==NameKind.free&&env.scope.kind==.function&&env.kindOf n==some .cell)=true
   ·rw [if_pos hc]
    have hk:k0=.free:=by
     simp only [Bool.and_eq_true] at hc
     simpa using hc.1.1
    exact .inr ⟨hk,by simp only [List.lookup_cons,hx]⟩
   ·rw [if_neg hc]
    exact .inl (by simp only [List.lookup_cons,hx])
  | false=>
   simp only [List.lookup_cons,hx] at h
   have:=ih h
   split<;>(simp only [List.lookup_cons,hx]; exact this)
theorem Ok.comp (o:Ok X cl C c) {scope:Scope} (hc:nH c.N scope c.names=true):eT X.N (tY c.N scope.names) scope X.env.scope/\∀cl' s₀ H₀ fp pn,Ok (X.comp scope cl' s₀ H₀ fp pn) cl C {c with names:=scope.names}:=by
 unfold nH at hc
 simp only [Bool.and_eq_true,decide_eq_true_eq,List.all_eq_true,Bool.or_eq_true] at hc
 obtain ⟨h1,h2⟩:=hc
 refine ⟨⟨h1,λ y hy hl=>?_,λ y hy hl=>?_,λ p hp hl=>?_,λ y hy hf=>?_⟩,λ cl' s₀ H₀ fp pn=>⟨o.N,o.nd,λ {x k} hk hv=>?_,λ {x k} hk hv=>?_,λ {x} hk=>?_,λ {x} hk=>?_,o.calm,⟨o.units.un,o.units.P,o.units.w,o.units.gd⟩,o.hand,o.blt,o.fn,o.gl,o.cs,o.fld,o.mth,o.ini,o.dic⟩⟩
 ·rcases (h2 y hy).1.1 with z | z
  ·exact absurd hl z
  ·exact z
 ·rcases (h2 y hy).1.2 with z | z
  ·exact absurd hl z
  ·exact z
 ·unfold tY
  rw [o.N] at hp
  refine List.mem_map.mpr ⟨p,List.mem_filter.mpr ⟨hp,by rcases hl with hl | hl<;>simp [hl]⟩,rfl⟩
 ·rcases (h2 y hy).2 with (z | z) | z
  ·exact absurd hf z
  ·exact o.cel (.inl z)
  ·exact o.cel (.inr z)
 ·rcases aS (env:=X.env) hk with z | ⟨z1,z⟩
  ·rcases hv with rfl | rfl | rfl
   ·exact .inl z
   ·exact .inr (.inl z)
   ·exact .inr (.inr z)
  ·exact .inr (.inl z)
 ·rcases hv with rfl | rfl
  ·rcases aS (env:=X.env) hk with z | ⟨z1,z⟩
   ·exact ⟨.inl z,.inr z⟩
   ·cases z1
  ·rcases aS (env:=X.env) hk with z | ⟨z1,z⟩
   ·exact ⟨.inr z,.inl (by simpa using hk)⟩
   ·cases z1
 ·rcases hk with hk | hk
  ·rcases aS (env:=X.env) hk with z | ⟨z1,z⟩
   ·exact .inl z
   ·cases z1
  ·rcases aS (env:=X.env) hk with z | ⟨z1,z⟩
   ·exact .inr z
   ·exact .inl z
 ·rcases aS (env:=X.env) hk with z | ⟨z1,z⟩
  ·exact z
  ·cases z1
end
theorem oW {X:L2.Cx} {cl:Cl} {C:D.Cx} {c:Ci} (o:Ok X cl C c) {e:Expr} {kvs:List (Str×W)} (h:wK c e=some kvs):∃x p,e=.Name x p/\TopK X.K X.w X.mg x kvs/\Gl X x/\(x==("__debug__":Str))=false:=by
 unfold wK at h
 split at h
 ·rename_i x p
  split at h
  ·cases h
  ·rename_i hs
   split at h
   ·rename_i hg
    rw [o.cs] at h
    exact ⟨x,p,rfl,o.dic h,o.glb hg,(dw (by simpa using hs)).1⟩
   ·cases h
 ·cases h
theorem lG:∀{keys:List (Option Expr)} {ks:List Str},jq keys=some ks->keys.all (·.isSome)=true
 | [],_,_=>rfl
 | e::r,ks,h=>by
  unfold jq at h
  split at h
  ·simp only [Option.map_eq_some_iff] at h
   obtain ⟨ks',h1,rfl⟩:=h
   rw [List.all_cons,lG h1]
   rfl
  ·cases h
theorem t9 {X:L2.Cx} {cl:Cl} {C:D.Cx} {f:Expr->Option E} {pos:Pos} (ih:∀e d,f e=some d->PE X e (SE X cl (evE C d))):∀{keys:List (Option Expr)} {values:List Expr} {ks:List Str} {ds:Es},jq keys=some ks->cEs f values=some ds->keys.length=values.length->PPs X pos keys values (oN X cl C ks ds)
 | [],[],ks,ds,hk,hv,_=>by cases hk; cases hv; exact vF
 | [],_::_,_,_,_,_,hl=>by simp at hl
 | _::_,[],_,_,_,_,hl=>by simp at hl
 | e::r,v::vs,ks,ds,hk,hv,hl=>by
  unfold jq at hk
  split at hk
  ·simp only [Option.map_eq_some_iff] at hk
   obtain ⟨ks',h1,rfl⟩:=hk
   unfold cEs at hv
   split at hv
   ·split at hv
    ·cases hv
    ·rename_i d h2
     split at hv
     ·cases hv
     ·rename_i ds' h3
      cases hv
      exact rX qZ (ih v d h2) (t9 ih h1 h3 (by simpa using hl))
   ·cases hv
  ·cases hk
theorem fB {cl:Cl} {C:D.Cx}:∀(n:Nat) (X:L2.Cx) (c:Ci) (e:Expr) (d:E),Ok X cl C c->cE n c e=some d->Tells X cl C e d
 | 0,_,_,_,_,_,h=>by cases h
 | n+1,X,c,e,d,o,h=>by
  have ih:∀e d,cE n c e=some d->Tells X cl C e d:=λ e d h=>fB n X c e d o h
  unfold cE at h
  simp only [Option.map_eq_some_iff] at h
  obtain ⟨d,h,rfl⟩:=h
  refine t7 ?_
  split at h
  ·
   obtain ⟨q1,q2⟩:=wL o h
   exact au q1 (λ _=>rfl) q2
  ·
   split at h
   ·cases h; exact au BS (λ _=>rfl) λ _ _=>by simp only [evT,evE]
   ·cases h; exact au DM (λ _=>rfl) λ _ _=>by simp only [evT,evE]
   ·cases h; exact au BU (λ _=>rfl) λ _ _=>by simp only [evT,evE]
   ·cases h; exact au BV (λ _=>rfl) λ _ _=>by simp only [evT,evE]
   ·cases h
  ·
   split at h
   ·rename_i d1 d2 h1 h2
    cases h
    exact au (BX (ih _ _ h1).1 (ih _ _ h2).1) (λ _=>rfl) λ _ _=>by simp only [evT,evE]
   ·cases h
  ·
   split at h
   ·simp only [Option.map_eq_some_iff] at h
    obtain ⟨d',h1,rfl⟩:=h
    exact au (B0 (ih _ _ h1).1) (λ _=>rfl) λ _ _=>by simp only [evT,evE]
   ·simp only [Option.map_eq_some_iff] at h
    obtain ⟨d',h1,rfl⟩:=h
    exact ⟨B3 (ih _ _ h1).1,B4 (ih _ _ h1).2⟩
   ·cases h
  ·
   obtain ⟨q1,q2⟩:=yb ih h
   exact ⟨q1,q2.pt⟩
  ·
   split at h
   ·split at h
    ·cases h
    ·rename_i hm
     split at h
     ·rename_i kvs hk
      obtain ⟨x,p,rfl,hT,hg,hd⟩:=oW o hk
      unfold CA at h
      split at h
      ·simp only [Option.map_eq_some_iff] at h
       obtain ⟨d1,h1,rfl⟩:=h
       exact ⟨Cy hT hg hd (ih _ _ h1).1,Cz hT hg hd (ih _ _ h1).1⟩
      ·simp only [Option.map_eq_some_iff] at h
       obtain ⟨d1,h1,rfl⟩:=h
       exact ⟨AD hT hg hd (ih _ _ h1).1,AE hT hg hd (ih _ _ h1).1⟩
      ·cases h
     split at h
     ·rename_i d1 d2 h1 h2
      cases h
      exact ⟨BY o.units (ih _ _ h1).1 (ih _ _ h2).1 (by simpa using hm),BZ o.units (ih _ _ h1).1 (ih _ _ h2).1 (by simpa using hm)⟩
     ·cases h
   ·split at h
    ·cases h
    ·rename_i hm
     split at h
     ·rename_i d1 d2 d3 h1 h2 h3
      cases h
      have hm:=(Bool.not_eq_true _).mp hm
      exact ⟨vX o.units (ih _ _ h1).1 (ih _ _ h2).1 (ih _ _ h3).1 (rD (fT o.units _) (fT o.units _) (ih _ _ h1).1 (ih _ _ h2).1 (ih _ _ h3).1 hm),wM o.units (ih _ _ h1).1 (ih _ _ h2).1 (ih _ _ h3).1 hm⟩
     ·cases h
   ·cases h
  ·
   split at h
   ·rename_i d1 d2 d3 h1 h2 h3
    cases h
    exact ⟨B6 (ih _ _ h1).2 (ih _ _ h2).1 (ih _ _ h3).1,CC (ih _ _ h1).2 (ih _ _ h2).2 (ih _ _ h3).2⟩
   ·cases h
  ·
   simp only [Option.map_eq_some_iff] at h
   obtain ⟨ds,h1,rfl⟩:=h
   exact au (B7 (fu ih h1)) (λ _=>rfl) λ _ _=>by simp only [evT,evE]
  ·simp only [Option.map_eq_some_iff] at h
   obtain ⟨ds,h1,rfl⟩:=h
   exact au (B8 (fu ih h1)) (λ _=>rfl) λ _ _=>by simp only [evT,evE]
  ·
   split at h
   ·split at h
    ·split at h
     ·rename_i d1 d2 d3 h1 h2 h3
      cases h
      exact au (Ca (ih _ _ h1).1 (CB ih h2) (CB ih h3)) (λ _=>rfl) λ _ _=>by simp only [evT,evE]
     ·cases h
    ·cases h
   ·split at h
    ·cases h
    ·rename_i hs
     split at h
     ·rename_i kvs hk
      obtain ⟨x,p,rfl,hT,hg,hd⟩:=oW o hk
      simp only [Option.map_eq_some_iff] at h
      obtain ⟨d1,h1,rfl⟩:=h
      exact au (AF hT hg hd (ih _ _ h1).1 (oR ((Bool.not_eq_true _).mp hs))) (λ _=>rfl) λ _ _=>by simp only [evT,evE]
     split at h
     ·rename_i d1 d2 h1 h2
      cases h
      exact au (B9 (ih _ _ h1).1 (ih _ _ h2).1 (oR ((Bool.not_eq_true _).mp hs))) (λ _=>rfl) λ _ _=>by simp only [evT,evE]
     ·cases h
  ·
   split at h
   ·rename_i hc
    split at h
    ·rename_i ks hk
     simp only [Option.map_eq_some_iff] at h
     obtain ⟨ds,h1,rfl⟩:=h
     exact au (AG (t9 (λ e d h=>(ih e d h).1) hk h1 hc.1) (lG hk) hc.1 hc.2.2 hc.2.1) (λ _=>rfl) λ _ _=>by simp only [evT,evE]
    ·cases h
   ·cases h
  ·
   rename_i f args kws pos
   split at h
   ·rename_i hk
    have hk:kws=[]:=by simpa using hk
    subst hk
    split at h
    ·rename_i x p
     split at h
     ·cases h
     ·rename_i hsp
      obtain ⟨hs1,hs2,hs3⟩:=dw (by simpa using hsp)
      split at h
      ·rename_i hgl
       have hg:=o.glb hgl
       split at h
       ·rename_i i np hf
        split at h
        ·split at h
         ·rename_i hnp
          cases h
          obtain ⟨k,fa,fd,ps,e1,e2,e3,e4,e5,e6⟩:=o.fn hf
          exact au (wH e6 e2 hg e3 e4 e5 (by rw [e1]; exact hnp) hs1) (λ _=>rfl) λ _ _=>by simp only [evT,evE]
         ·cases h
        ·rename_i a r
         split at h
         ·rename_i hlen
          simp only [Option.map_eq_some_iff] at h
          obtain ⟨ds,h1,rfl⟩:=h
          obtain ⟨k,fa,fd,ps,e1,e2,e3,e4,e5,e6⟩:=o.fn hf
          obtain ⟨hst,d1,ds1,z1,z2,rfl⟩:=eV h1
          refine au (s_call e6 e2 hg e3 e4 e5 (fu ih h1) (fun ρ m ws m' hw=>?_) hs1 (aY hst) (cJ z2)) (λ _=>rfl) λ _ _=>by simp only [evT,evE]
          rw [lE hw,oU h1,e1]
          exact hlen
         ·cases h
       ·split at h
        ·rename_i ix hix
         split at h
         ·cases h
         ·rename_i a r
          simp only [Option.map_eq_some_iff] at h
          obtain ⟨ds,h1,rfl⟩:=h
          obtain ⟨hst,d1,ds1,z1,z2,rfl⟩:=eV h1
          rw [o.cs] at hix
          exact au (Az hix (o.ini hix) hg (fu ih h1) hs1 (aY hst) (cJ z2)) (λ _=>rfl) λ _ _=>by simp only [evT,evE]
        split at h
        ·rename_i ua
         subst ua
         split at h
         ·cases h
          exact au (Ac o.units hg (o.blt _ (by decide +kernel))) (λ _=>rfl) λ _ _=>by simp only [evT,evE]
         ·cases h
        split at h
        ·rename_i a hl
         split at h
         ·rename_i bu
          simp only [Bool.and_eq_true,beq_iff_eq] at bu
          simp only [Option.map_eq_some_iff] at h
          obtain ⟨d1,h1,rfl⟩:=h
          obtain ⟨py,p2,rfl,rfl⟩:=qH hl
          exact au (AA o.hand o.units.un hg (o.blt _ (by decide +kernel)) (o.glb bu.1.2) (o.blt _ (by decide +kernel)) (ih _ _ h1).1 (aY bu.1.1)) (λ _=>rfl) λ _ _=>by simp only [evT,evE]
         ·cases h
        split at h
        ·rename_i a hl
         split at h
         ·rename_i bu
          simp only [Bool.and_eq_true,beq_iff_eq] at bu
          simp only [Option.map_eq_some_iff] at h
          obtain ⟨d1,h1,rfl⟩:=h
          obtain ⟨py,p2,rfl,rfl⟩:=qJ hl
          exact au (z7 o.hand hg (o.blt _ (by decide +kernel)) (o.glb bu.1.2) (o.blt _ (by decide +kernel)) (ih _ _ h1).1 (aY bu.1.1)) (λ _=>rfl) λ _ _=>by simp only [evT,evE]
         ·cases h
        split at h
        ·rename_i b hb
         split at h
         ·cases h
         ·rename_i a r
          simp only [Option.map_eq_some_iff] at h
          obtain ⟨ds,h1,rfl⟩:=h
          obtain ⟨hst,d1,ds1,z1,z2,rfl⟩:=eV h1
          obtain ⟨hm,⟨id,y1,y2⟩ | ⟨id,y1,y2⟩⟩:=qG hb
          ·exact au (zZ o.units o.calm o.hand y1 hg (o.blt _ hm) y2 (fu ih h1) hs3 hs1 (aY hst) (cJ z2)) (λ _=>rfl) λ _ _=>by simp only [evT,evE]
          ·exact au (z6 o.units o.calm o.hand y1 hg (o.blt _ hm) y2 (fu ih h1) hs3 hs1 (aY hst) (cJ z2)) (λ _=>rfl) λ _ _=>by simp only [evT,evE]
        ·split at h
         ·rename_i hx
          subst hx
          split at h
          ·rename_i a t p2
           split at h
           ·cases h
           ·rename_i DW
            obtain ⟨hq1,hq2,hq3⟩:=dw (by simpa using DW)
            split at h
            ·rename_i bu
             simp only [Bool.and_eq_true,beq_iff_eq] at bu
             split at h
             ·rename_i tn d1 y1 y2
              cases h
              obtain ⟨z1,z2,z3⟩:=tZ y1
              exact au (Cd z2 hg (o.blt _ (by decide +kernel)) (o.glb bu.2) (o.blt _ z1) z3 (ih _ _ y2).1 hq3 hq1 (aY bu.1)) (λ _=>rfl) λ _ _=>by simp only [evT,evE]
             ·cases h
            ·cases h
          ·cases h
         ·cases h
      ·cases h
    ·rename_i ob mm apos
     split at h
     ·cases h
     ·rename_i hc0
      split at h
      ·rename_i hline
       split at h
       ·rename_i nm id d1 y1 y2
        split at h
        ·rename_i hlen
         simp only [Option.map_eq_some_iff] at h
         obtain ⟨ds,h1,rfl⟩:=h
         obtain ⟨w0,w1,w2,w3⟩:=t6 (X:=X) (cl:=cl) o.units y1
         have hbase:=jW (env:=X.env) (m:=mm) (by simpa using hc0:er ob=false)
         cases args with
         | nil=>
          cases h1
          exact au (wc rfl w0 w1 w2 w3 (ih _ _ y2).1 hbase hline) (λ _=>rfl) λ _ _=>by simp only [evT,evE]
         | cons a r=>
          obtain ⟨hst,d2,ds1,z1,z2,rfl⟩:=eV h1
          refine au (Ab rfl w0 w1 w2 w3 (ih _ _ y2).1 (fu ih h1) hbase ?_ hline (aY hst) (cJ z2)) (λ _=>rfl) λ _ _=>by simp only [evT,evE]
          rw [jV h1]
          have:(a::r).length+0+0 < 30:=Nat.lt_of_lt_of_le hlen (by decide)
          show (true&&true&&decide _)=true
          exact decide_eq_true this
        ·cases h
       ·rename_i d1 y1 y2
        split at h
        ·rename_i hlen
         simp only [Option.map_eq_some_iff] at h
         obtain ⟨ds,h1,rfl⟩:=h
         have hbase:=jW (env:=X.env) (m:=mm) (by simpa using hc0:er ob=false)
         refine au (Cw (λ hx=>o.mth hx) (ih _ _ y2).1 (fu ih h1) hbase ?_ hline ?_) (λ _=>rfl) λ _ _=>by simp only [evT,evE]
         ·rw [jV h1]
          have:args.length+0+0 < 30:=Nat.lt_of_lt_of_le hlen (by decide)
          show (true&&true&&decide _)=true
          exact decide_eq_true this
         ·cases args with
          | nil=>cases h1; exact .inl ⟨rfl,rfl⟩
          | cons a r=>
           obtain ⟨hst,d2,ds1,z1,z2,rfl⟩:=eV h1
           exact .inr ⟨a,r,rfl,aY hst,cJ z2⟩
        ·cases h
       ·cases h
      ·cases h
    ·cases h
   ·split at h
    ·rename_i a hl
     split at h
     ·rename_i bu
      simp only [Bool.and_eq_true,beq_iff_eq] at bu
      simp only [Option.map_eq_some_iff] at h
      obtain ⟨d1,h1,rfl⟩:=h
      obtain ⟨p1,j,cp,kp,rfl,rfl,rfl⟩:=qI hl
      exact au (AB o.hand o.units.un (o.glb bu.1.2) (o.blt _ (by decide +kernel)) (ih _ _ h1).1 (aY bu.1.1)) (λ _=>rfl) λ _ _=>by simp only [evT,evE]
     ·cases h
    ·cases h
  ·
   rename_i ob f p
   split at h
   ·cases h
   ·rename_i hc0
    simp only [Option.map_eq_some_iff] at h
    obtain ⟨d1,h1,rfl⟩:=h
    exact au (Cv (λ hx=>o.fld hx) (ih _ _ h1).1 (jW (by simpa using hc0:er ob=false))) (λ _=>rfl) λ _ _=>by simp only [evT,evE]
  ·
   rename_i elt gens scope pos
   split at h
   ·cases h
   ·rename_i tg it ifs as gs
    split at h
    ·rename_i bu
     obtain ⟨rfl,ua,hco⟩:=bu
     split at h
     ·rename_i t d1 ds g h1 h2 h3 h4
      cases h
      obtain ⟨ok,oc⟩:=o.comp hco
      have ihc:∀cl' s₀ H₀ fp pn e d,cE n {c with names:=scope.names} e=some d->Tells (X.comp scope cl' s₀ H₀ fp pn) cl C e d:=λ cl' s₀ H₀ fp pn e d h=>fB n _ _ e d (oc cl' s₀ H₀ fp pn) h
      refine au (Aw o.calm ok rfl (by simpa using ir h4) (oV o ih h2) (λ _ _ _ _ _=>lF (oc _ _ _ _ _) n _ _ h1) (λ _ _ _ _ _=>jZ (ihc _ _ _ _ _) h3)
       (λ _ _ _ _ _ Δ=>nM (oc _ _ _ _ _) rfl (ihc _ _ _ _ _) h4 λ i=>by simp [Nat.add_comm]) (λ x=>jX ua x) (eval_ListComp _ _ _ _)) (λ _=>rfl) λ _ _=>by simp only [evT,evE]
     ·cases h
    ·cases h
  ·cases h
end D
end
section
namespace D
open PySem PySem.Spec PyProof.Rows L2
section
variable {env:Env}
theorem wN {o i:Expr} {pos:Pos} (h:isSlice i=false) (v:Value):assign (.Subscript o i pos) env v=(do
   let ov <-holding [v] (eval o env)
   let iv <-holding [v,ov] (eval i env)
   standAt pos
   holding [v,ov,iv] (setItem ov iv v)
   release [v,ov,iv] []):=by
 cases i<;>first | rfl | cases h
theorem wO {v tg:Expr} {l:Nat} (h:oQ tg=false):swapsWithSole [tg] v l env=pure false:=by
 show swapsWith v (some tg) l env=pure false
 cases v<;>first | rfl | (cases tg<;>first | rfl | cases h)
theorem wQ {v o:Expr} {f:Str} {p:Pos} {l:Nat}:swapsWith v (some (.Attribute o f p)) l env=pure false:=by
 cases v<;>rfl
theorem qK {v tg:Expr} (h:(jU tg&&jU v)=false):swappedStores [tg] v env=pure none:=by
 cases tg<;>first | rfl | (cases v<;>first | rfl | cases h)
theorem lH {x y:Str} {px py pt pt2:Pos} {kt k2:Nat} {a b:Expr} (bk:env.blockKind=.function) (k1:env.kindOf x=some .local) (k2':env.kindOf y=some .local) (hl:px.line=py.line) (hxy:x≠y) (ha:noStar a=true) (hb:noStar b=true)
  (f1:[a,b].all (foldedForSure 8)=false) (f2:[a,b].all (constantsAlone 8)=false):swappedStores [.Tuple [.Name x px,.Name y py] kt pt] (.Tuple [a,b] k2 pt2) env=pure (some [x,y]):=by
 have hsa:∀(f:Expr->Bool),(∀e,noStar e=true->f e=false)->[a,b].any f=false:=λ f h=>by simp [h a ha,h b hb]
 have hfm:∀(f:Expr->Option Str),f (.Name x px)=some x->f (.Name y py)=some y->[Expr.Name x px,Expr.Name y py].filterMap f=[x,y]:=λ f h1 h2=>by simp [h1,h2]
 have e2:[x,y].eraseDups=[x,y]:=by
  rw [List.eraseDups_cons]
  have:(y==x)=false:=by simpa using hxy.symm
  simp [this,List.eraseDups_cons]
 unfold swappedStores
 simp only [bk,f1,f2]
 refine (if_neg (by simp)).trans ?_
 rw [hsa _ (λ e he=>by cases e<;>first | rfl | cases he)]
 refine (if_neg (by simp)).trans ?_
 rw [hfm _ (by simp [k1,Expr.pos]) (by simp [k2',Expr.pos,hl]),e2]
 rfl
end
theorem qL {c:Ci} {n:Nat} {v:Expr} {d:E} (hc:jT v=true) (h:cE n c v=some d):∃elt gens scope pos,v=.ListComp elt gens scope pos:=by
 cases n with
 | zero=>cases h
 | succ n=>
  cases v with
  | ListComp elt gens scope pos=>exact ⟨_,_,_,_,rfl⟩
  | SetComp elt gens scope pos=>unfold cE at h; simp at h
  | DictComp k v gens scope pos=>unfold cE at h; simp at h
  | _=>cases hc
section
variable {X:L2.Cx} {cl:Cl} {C:D.Cx} {c:Ci}
theorem yd {f:Expr->Option A} (ih:∀e t,f e=some t->PG X e (SG X cl (evA C t))):∀{es:List Expr} {ts:As},cAs f es=some ts->
  PGs X es (SGs X cl (cP C ts))/\(assignEach es X.env).length=ts.len/\(assignEach es X.env).findIdx? (·.1)=none
 | [],_,h=>by cases h; exact ⟨tN,rfl,rfl⟩
 | e::es,ts,h=>by
  unfold cAs at h
  split at h
  ·rename_i hs
   split at h
   ·cases h
   ·rename_i d h1
    split at h
    ·cases h
    ·rename_i ds h2
     cases h
     obtain ⟨q1,q2,q3⟩:=yd ih h2
     have e1:=ig (env:=X.env) (es:=es) hs
     refine ⟨oJ (ih e d h1) q1 (by rw [e1]; rfl),?_,?_⟩
     ·rw [e1,List.length_cons,q2]; rfl
     ·rw [e1,List.findIdx?_cons]
      simp [q3]
  ·cases h
theorem ye (o:Ok X cl C c):∀(n:Nat) (e:Expr) (t:A),cA n c e=some t->PG X e (SG X cl (evA C t))
 | 0,_,_,h=>by cases h
 | n+1,e,t,h=>by
  unfold cA at h
  split at h
  ·simp only [Option.map_eq_some_iff] at h
   obtain ⟨i,hi,rfl⟩:=h
   obtain ⟨h1,h2,h3⟩:=cY o hi
   exact xV (ndX o) h1 h2 h3
  ·simp only [Option.map_eq_some_iff] at h
   obtain ⟨ts,hi,rfl⟩:=h
   obtain ⟨q1,q2,q3⟩:=yd (λ e t h=>ye o n e t h) hi
   exact xW o.calm q1 q2 q3
  ·split at h
   ·cases h
   ·rename_i hs
    split at h
    ·rename_i d1 d2 h1 h2
     cases h
     exact Ck (fB n X c _ _ o h1).1 (fB n X c _ _ o h2).1 (wN ((Bool.not_eq_true _).mp hs))
    ·cases h
  ·cases h
theorem lI {f:Stmt->Option S} (ih:∀s d,f s=some d->PS X s (SS X cl (evS C d))):∀{es:List Stmt} {ds:Ss},cSs f es=some ds->PSs X es (SS X cl (aF C ds))
 | [],_,h=>by cases h; exact Al
 | e::es,ds,h=>by
  unfold cSs at h
  split at h
  ·cases h
  ·rename_i d h1
   split at h
   ·cases h
   ·rename_i ds h2
    cases h
    exact we (ih e d h1) (lI ih h2)
theorem uc (o:Ok X cl C c) {n:Nat} {x:Str} {p pos spos:Pos} {elt:Expr} {gens:List Comprehension} {scope:Scope} {i:Nat} {d:E} (ht:gh c x=some i) (h:cE n c (.ListComp elt gens scope pos)=some d) :
  PS X (.Assign [.Name x p] (.ListComp elt gens scope pos) spos) (SS X cl (evS C (.asg (.pt (.var i)) d))):=by
 obtain ⟨h1,h2,h3⟩:=cY o ht
 have e:swapsWith (.ListComp elt gens scope pos) (some (.Name x p)) spos.line X.env=pure (X.env.blockKind==.function&&X.env.kindOf x==some .local&&p.line==(Expr.ListComp elt gens scope pos).pos.line&&!(scope.names.any λ (n,k)=>n==x&&(k==.local||k==.cell))):=rfl
 cases hb:(X.env.blockKind==.function&&X.env.kindOf x==some .local&&p.line==(Expr.ListComp elt gens scope pos).pos.line&&!(scope.names.any λ (n,k)=>n==x&&(k==.local||k==.cell))) with
 | false=>
  rw [hb] at e
  exact tO (ndX o) h1 h2 (fB n X c _ _ o h).1 e h3
 | true=>
  rw [hb] at e
  cases n with
  | zero=>cases h
  | succ n=>
   have ih:∀e d,cE n c e=some d->Tells X cl C e d:=λ e d h=>fB n X c e d o h
   unfold cE at h
   simp only [Option.map_eq_some_iff] at h
   obtain ⟨d,h,rfl⟩:=h
   have wrap:PS X (.Assign [.Name x p] (.ListComp elt gens scope pos) spos) (SS X cl (evS C (.asg (.pt (.var i)) d)))->PS X (.Assign [.Name x p] (.ListComp elt gens scope pos) spos) (SS X cl (evS C (.asg (.pt (.var i)) (wz c (.ListComp elt gens scope pos) d)))):=λ q=>by
    unfold wz
    split
    ·exact Ax q
    ·exact q
   refine wrap ?_
   split at h
   ·cases h
   ·rename_i tg it ifs as gs
    split at h
    ·rename_i bu
     obtain ⟨rfl,ua,hco⟩:=bu
     split at h
     ·rename_i t d1 ds g y1 y2 y3 y4
      cases h
      obtain ⟨ok,oc⟩:=o.comp hco
      have ihc:∀cl' s₀ H₀ fp pn e d,cE n {c with names:=scope.names} e=some d->Tells (X.comp scope cl' s₀ H₀ fp pn) cl C e d:=λ cl' s₀ H₀ fp pn e d h=>fB n _ _ e d (oc cl' s₀ H₀ fp pn) h
      exact wD o.calm (ndX o) h1 h2 ok (ir y4) (oV o ih y2) (λ _ _ _ _ _=>lF (oc _ _ _ _ _) n _ _ y1) (λ _ _ _ _ _=>jZ (ihc _ _ _ _ _) y3)
       (λ _ _ _ _ _ Δ=>nM (oc _ _ _ _ _) rfl (ihc _ _ _ _ _) y4 λ i=>by simp [Nat.add_comm]) (λ x=>jX ua x) e h3
     ·cases h
    ·cases h
theorem wR {tg v a b:Expr} {x y:Str} {px py:Pos} (h:pairOf tg v=some (x,px,y,py,a,b)):∃kt pt k2 pt2,tg=.Tuple [.Name x px,.Name y py] kt pt/\v=.Tuple [a,b] k2 pt2:=by
 unfold pairOf at h
 split at h
 ·cases h; exact ⟨_,_,_,_,rfl,rfl⟩
 ·cases h
theorem wU (o:Ok X cl C c) {n:Nat} (ih:∀e d,cE n c e=some d->Tells X cl C e d) {tg v:Expr} {spos:Pos} {d:S} (h:AH n c tg v=some d):PS X (.Assign [tg] v spos) (SS X cl (evS C d)):=by
 unfold AH at h
 split at h
 ·cases h
 ·rename_i bu
  simp only [Bool.or_eq_true,Bool.not_eq_true',not_or,Bool.not_eq_false] at bu
  obtain ⟨⟨c1,c2⟩,c3⟩:=bu
  split at h
  ·rename_i t d1 y1 y2
   cases h
   exact Am (ih _ _ y2).1 (ye o n _ _ y1) (wO ((Bool.not_eq_true _).mp c2)) (qK ((Bool.not_eq_true _).mp c1)) (by rw [ig c3]; rfl)
  ·cases h
theorem wV (o:Ok X cl C c) (hsc:X.env.scope.names=c.names) (hkd:X.env.scope.kind=.function) {n:Nat} {tg v:Expr} {spos:Pos} {d:S} (h:AI n c tg v=some d):PS X (.Assign [tg] v spos) (SS X cl (evS C d)):=by
 have ih:∀e d,cE n c e=some d->Tells X cl C e d:=λ e d h=>fB n X c e d o h
 unfold AI at h
 split at h
 ·rename_i x p
  split at h
  ·rename_i i d1 y1 y2
   cases h
   obtain ⟨h1,h2,h3⟩:=cY o y1
   by_cases hc:jT v=true
   ·obtain ⟨_,_,_,_,rfl⟩:=qL hc y2
    exact uc o y1 y2
   ·exact tO (ndX o) h1 h2 (ih _ _ y2).1 (oS ((Bool.not_eq_true _).mp hc)) h3
  ·cases h
 ·split at h
  ·rename_i d1 d2 y1 y2
   cases h
   exact Ay (λ hx=>o.fld hx) (ih _ _ y1).1 (ih _ _ y2).1 wQ
  ·cases h
 ·
  split at h
  ·rename_i x px y py a b hpair
   obtain ⟨kt,pt,k2,pt2,rfl,rfl⟩:=wR hpair
   split at h
   ·rename_i bu
    simp only [Bool.and_eq_true,beq_iff_eq,bne_iff_ne,Bool.not_eq_true'] at bu
    obtain ⟨⟨⟨⟨⟨⟨⟨c1,c2⟩,c3⟩,c4⟩,c5⟩,c6⟩,c7⟩,c8⟩:=bu
    split at h
    ·rename_i i j d1 d2 y1 y2 y3 y4
     cases h
     obtain ⟨h1,h2,h3⟩:=cY o y1
     obtain ⟨g1,g2,g3⟩:=cY o y2
     have hij:i≠j:=by
      rintro rfl
      rw [h1] at g1
      exact c4 (Option.some.inj g1)
     have kx:X.env.scope.names.lookup x=some .local:=by rw [hsc]; exact c2
     have ky:X.env.scope.names.lookup y=some .local:=by rw [hsc]; exact c3
     have bk:X.env.blockKind=.function:=by
      unfold Env.blockKind
      rw [hkd]; split<;>rfl
     exact An o.calm (ndX o) h1 g1 hij kx ky (nv (ih _ _ y3).1 (nv (ih _ _ y4).1 xS (aY c6)) (aY c5)) (lH bk kx ky c1 c4 c5 c6 c7 c8) rfl
    ·cases h
   ·cases h
  ·
   exact wU o ih h
set_option maxHeartbeats 1000000 in
theorem yf (o:Ok X cl C c) (hsc:X.env.scope.names=c.names) (hkd:X.env.scope.kind=.function) (hp:PassesOwn (model X.prog X.w) X.A X.env X.xe):∀(n:Nat) (s:Stmt) (d:S),cS n c s=some d->PS X s (SS X cl (evS C d))
 | 0,_,_,h=>by cases h
 | n+1,s,d,h=>by
  have ih:∀e d,cE n c e=some d->Tells X cl C e d:=λ e d h=>fB n X c e d o h
  have ihs:∀s d,cS n c s=some d->PS X s (SS X cl (evS C d)):=λ s d h=>yf o hsc hkd hp n s d h
  unfold cS at h
  split at h
  ·split at h
   ·exact wV o hsc hkd h
   ·cases h
  ·split at h
   ·cases h
   ·rename_i hc
    simp only [Option.map_eq_some_iff] at h
    obtain ⟨d1,h1,rfl⟩:=h
    exact wg (ih _ _ h1).1 (oS ((Bool.not_eq_true _).mp hc))
  ·split at h
   ·simp only [Option.map_eq_some_iff] at h
    obtain ⟨d1,h1,rfl⟩:=h
    exact Ao (ih _ _ h1).1
   ·cases h; exact wj
  ·split at h
   ·rename_i d1 x y y1 y2 y3
    cases h
    exact Co (ih _ _ y1).2 (lI ihs y2) (lI ihs y3)
   ·cases h
  ·split at h
   ·split at h
    ·cases h
    ·rename_i hs
     split at h
     ·rename_i t d1 x y1 y2 y3
      cases h
      exact Ar hp o.calm (oV o ih y2) (lF o n _ _ y1) (lI ihs y3) (λ x=>jX ((Bool.not_eq_true _).mp hs) x)
     ·cases h
   ·cases h
  ·cases h; exact wk
  ·cases h; exact Aq
  ·cases h; exact wm
  ·cases h; exact tP
  ·cases h
end
end D
end
section
namespace D
open PySem PySem.Spec PyProof.Rows L2
mutual
noncomputable def aC:W->Bool
 | .tup xs=>ah xs
 | .fz xs=>ah xs
 | .obj _ _ vs=>ah vs
 | .ref _=>false
 | .non=>true
 | .bl _=>true
 | .int _=>true
 | .str _=>true
noncomputable def ah:List W->Bool
 | []=>true
 | x::r=>aC x&&ah r
end
mutual
noncomputable def shW (k:Nat):W->W
 | .tup xs=>.tup (gw k xs)
 | .fz xs=>.fz (gw k xs)
 | .obj c ks vs=>.obj c ks (gw k vs)
 | .ref n=>.ref (k+n)
 | .non=>.non
 | .bl b=>.bl b
 | .int i=>.int i
 | .str x=>.str x
noncomputable def gw (k:Nat):List W->List W
 | []=>[]
 | x::r=>shW k x::gw k r
end
noncomputable def wW (k:Nat):List (Str×W)->List (Str×W)
 | []=>[]
 | (f,x)::r=>(f,shW k x)::wW k r
noncomputable def shO (k:Nat):O->O
 | .lst xs=>.lst (gw k xs)
 | .ins c fs=>.ins c (wW k fs)
 | .set ks=>.set ks
 | .dic fs=>.dic (wW k fs)
noncomputable def aE (f:List W->Mem->R W) (ws:List W) (m:Mem):R W:=
 if ah ws then match f ws [] with
  | .ok w m1=>if aC w then .ok w m else .ok (shW m.length w) (m++m1.map (shO m.length))
  | .no=>.no
 else f ws m
set_option genInjectivity false in
structure Pg where
 fns:List Fn
 cs:Cs
 fuel:Nat
noncomputable def runN (p:Pg):Nat->Nat->List W->Mem->R W
 | 0,_,_,_=>.no
 | n+1,f,ws,m=>match p.fns[f]? with
  | none=>.no
  | some d=>if ws.length=d.np then (aF ⟨λ f=>aE (runN p n f),p.fuel,p.cs⟩ d.body (cH d.nl ws) m).bind outF else .no
theorem RW.pure {K:PySem.W.Frag} {β β':List Addr} {H:Hp} {w:W} {v:V} (q:RW K β H w v):aC w=true->RW K β' H w v:=
 RW.rec (motive_1:=λ w v _=>aC w=true->RW K β' H w v) (motive_2:=λ w v _=>ah w=true->RWs K β' H w v) (λ _=>.non) (λ b _=>.bl b) (λ b _=>.int b) (λ b _=>.str b) (λ h _ i e=>.tup h (i e)) (λ h _ i e=>.fz h (i e)) (λ h z _ i e=>.obj h z (i e)) (λ q e=>nomatch (show false=true from e)) (λ _=>.nil) (λ _ _ a b e=>.cons (a (Bool.and_eq_true_iff.mp e).1) (b (Bool.and_eq_true_iff.mp e).2)) q
theorem RWs.pure {K:PySem.W.Frag} {β β':List Addr} {H:Hp} {w:List W} {v:List V} (q:RWs K β H w v) (e:ah w=true):RWs K β' H w v:=by
 induction w generalizing v with
 | nil=>cases q; exact .nil
 | cons x w ih=>cases q with | cons a b=>exact .cons (a.pure (Bool.and_eq_true_iff.mp e).1) (ih b (Bool.and_eq_true_iff.mp e).2)
theorem RW.shift {K:PySem.W.Frag} {β γ:List Addr} {H:Hp} {w:W} {v:V} (q:RW K γ H w v):RW K (β++γ) H (shW β.length w) v:=
 RW.rec (motive_1:=λ w v _=>RW K (β++γ) H (shW β.length w) v) (motive_2:=λ w v _=>RWs K (β++γ) H (gw β.length w) v) .non .bl .int .str (λ h _ i=>.tup h i) (λ h _ i=>.fz h i) (λ h e _ i=>.obj h e i) (λ q=>.ref (by rw [List.getElem?_append_right (by omega),Nat.add_sub_cancel_left]; exact q)) .nil (λ _ _ a b=>.cons a b) q
theorem RWs.shift {K:PySem.W.Frag} {β γ:List Addr} {H:Hp} {w:List W} {v:List V} (q:RWs K γ H w v):RWs K (β++γ) H (gw β.length w) v:=by
 induction w generalizing v with
 | nil=>cases q; exact .nil
 | cons x w ih=>cases q with | cons a b=>exact .cons a.shift (ih b)
theorem RFs.shift {K:PySem.W.Frag} {β γ:List Addr} {H:Hp} {w:List (Str×W)} {v:List (Str×V)} (q:RFs K γ H w v):RFs K (β++γ) H (wW β.length w) v:=by
 induction q with
 | nil=>exact .nil
 | cons a b ih=>exact .cons a.shift ih
theorem RO.shift {K:PySem.W.Frag} {cl:Cl} {β γ:List Addr} {H:Hp} {a:Addr} {o:O} (q:RO K cl γ H a o):RO K cl (β++γ) H a (shO β.length o):=by
 cases o with
 | lst ws=>obtain ⟨vs,e,t⟩:=q; exact ⟨vs,e,t.shift⟩
 | ins c fs=>obtain ⟨dx,fs',e,t⟩:=q; exact ⟨dx,fs',e,t.shift⟩
 | dic fs=>obtain ⟨fs',e,t⟩:=q; exact ⟨fs',e,t.shift⟩
 | set ks=>exact q
theorem fV {K:PySem.W.Frag} {cl:Cl} {np:Nat} {f:List W->Mem->R W} {vs:List V} {H:Hp} {Q:VK} {E:XK} (h:spD K cl np (aE f) vs H Q E):spD K cl np f vs H Q E:=by
 obtain ⟨hl,β,m,ws,w,m',r,t,e,k⟩:=h
 unfold aE at e
 split at e
 ·rename_i hp
  split at e
  ·rename_i w1 m1 e1
   refine ⟨hl,[],[],ws,w1,m1,⟨rfl,List.nodup_nil,λ {n o a} h=>by simp at h⟩,t.pure hp,e1,fun β' H' v x r' q=>?_⟩
   have kp:∀{a:Addr} {o:HO},H a=some o->H' a=some o:=λ h=>x.keep h (by simp) (by simp)
   have x2:Ext β H β H':=⟨⟨[],by simp,by simp⟩,λ h _ _=>kp h⟩
   have r2:Rel K cl β m H':=⟨r.len,r.nd,λ h1 h2=>by
    have q:=r.obj h1 h2
    obtain ⟨u,e,_⟩:=q.ex
    exact q.mono r x2 ((kp e).trans e.symm)⟩
   split at e
   ·rename_i hw
    cases e
    exact k β H' v x2 r2 (q.pure hw)
   ·cases e
    obtain ⟨γ,hγ,fresh⟩:=x.pre
    rw [List.nil_append] at hγ
    subst hγ
    rw [<-r.len] at k
    refine k (β++β') H' v ⟨⟨β',rfl,fresh⟩,λ h _ _=>kp h⟩ ⟨by simp [r.len,r'.len],?_,λ {n o a} h1 h2=>?_⟩ q.shift
    ·rw [List.nodup_append]
     refine ⟨r.nd,r'.nd,λ a ha b hb=>?_⟩
     rintro rfl
     obtain ⟨u,e,_⟩:=r.ex ha
     rw [fresh a hb] at e; cases e
    ·by_cases hn:n < β.length
     ·rw [List.getElem?_append_left (by rw [<-r.len]; exact hn)] at h1
      rw [List.getElem?_append_left hn] at h2
      exact (r2.obj h1 h2).sub λ {n a} h=>by rw [List.getElem?_append_left (List.getElem?_eq_some_iff.mp h).1]; exact h
     ·rw [List.getElem?_append_right (by rw [<-r.len]; omega),List.getElem?_map] at h1
      rw [List.getElem?_append_right (by omega)] at h2
      simp only [Option.map_eq_some_iff] at h1
      obtain ⟨o',h1,rfl⟩:=h1
      rw [<-r.len] at h1
      exact (r'.obj h1 h2).shift
  ·cases e
 ·exact ⟨hl,β,m,ws,w,m',r,t,e,k⟩
theorem ud {f:List W->Mem->R W} {ws:List W} {m m':Mem} {w:W} (h:aE f ws m=.ok w m'):∃m1 w1 m2,f ws m1=.ok w1 m2:=by
 unfold aE at h
 split at h
 ·split at h
  ·exact ⟨_,_,_,by assumption⟩
  ·cases h
 ·exact ⟨_,_,_,h⟩
section
variable {P:Program} {w:World} {K:PySem.W.Frag} {mg:Str->Option Value} {base:Heap} {fns:List (Str×(Nat×Nat))} {gl:List (Str×W)} {fz:List Pos} {p:Pg}
noncomputable def FD (K:PySem.W.Frag) (p:Pg) (fns:List (Str×(Nat×Nat))) (gl:List (Str×W)) (fz:List Pos) (i:Nat) (x:Str) (f:Addr) (fd:FuncData) (ps:List Str):Prop:=
 ∃(qual:Str) (st:Stmt) (N:List Str) (body:Ss),Fun K x qual st f fd/\gz N ps (aP st)/\cSs (cS 60 ⟨N,(aP st).names,fns,gl,p.cs,fz⟩) (cy st)=some body/\p.fns[i]?=some ⟨ps.length,N.length,body⟩/\Binds K fd ps []
structure FA (K:PySem.W.Frag) (w:World) (mg:Str->Option Value) (p:Pg) (fns:List (Str×(Nat×Nat))) (gl:List (Str×W)) (fz:List Pos):Prop where
 blt:∀x∈ie,mg x=none
 glo:∀{x:Str} {w:W},gl.lookup x=some w->∃u v,mg x=some u/\RelV v u/\∀β H,RW K β H w v
 fn:∀{x:Str} {i np:Nat},fns.lookup x=some (i,np)->∃f fd ps,ps.length=np/\FD K p fns gl fz i x f fd ps/\mg x=some (.ref f)
 mth:∀{c x:Str} {i:Nat},p.cs.mths.lookup (c,x)=some i->∃f fd ps,FD K p fns gl fz i x f fd ps/\Cls K (aL K c)/\Meth K (aL K c) x f
 ini:∀{c:Str} {i:Nat},p.cs.ini.lookup c=some i->∃f fd ps,FD K p fns gl fz i "__init__" f fd ps/\Mk K (aL K c) f/\mg c=some (.ref (aL K c))
 fld:∀{c x:Str},p.cs.flds.contains (c,x)=true->Cls K (aL K c)/\dH K (aL K c) x
 dic:∀{x:Str} {kvs:List (Str×W)},p.cs.dic.lookup x=some kvs->TopK K w mg x kvs
theorem RL.start {β:List Addr} {H:Hp} {ws:List W} {vs:List V} {N:List Str} (t:RWs K β H ws vs):RL K β H (cH N.length ws) (L2.start N vs):=by
 refine ⟨?_,λ {i w} h=>?_⟩
 ·unfold cH L2.start
  simp [t.length]
 ·unfold cH at h
  by_cases hi:i < ws.length
  ·rw [List.getElem?_append_left (by simpa using hi),List.getElem?_map] at h
   simp only [Option.map_eq_some_iff] at h
   obtain ⟨w',h1,h2⟩:=h
   cases h2
   obtain ⟨v,e,q⟩:=t.get h1
   refine ⟨v,?_,q⟩
   unfold L2.start
   rw [List.getElem?_append_left (by rw [List.length_map,<-t.length]; exact hi),List.getElem?_map,e]
   rfl
  ·rw [List.getElem?_append_right (by simpa using hi),List.getElem?_replicate] at h
   split at h<;>cases h
theorem sound (A0:FA K w mg p fns gl fz):∀(n:Nat) {i:Nat} {x:Str} {f:Addr} {fd:FuncData} {ps:List Str},FD K p fns gl fz i x f fd ps->cV P w K mg base CX0 (2*n) f fd ps (spD K ⟨P,w⟩ ps.length (runN p n i))
 | 0,i,x,f,fd,ps,h=>⟨λ vs H Q E q=>q.1,λ A outer s H args us vs Q E hr he hbb hv hs=>by
   obtain ⟨_,_,_,_,_,_,_,_,e,_⟩:=hs
   cases e⟩
 | n+1,i,x,f,fd,ps,h=>by
  obtain ⟨qual,st,N,body,F,S,hb,hi,hB⟩:=h
  refine F.ok (k:=2*n+1) S (λ vs H Q E h=>h.1) (λ cdv A outer s H vs Q E hr h=>?_)
  obtain ⟨hl,β,m,ws,wv,m',r,t,e,k⟩:=h
  have hln:∀{i':Nat} {x':Str} {f':Addr} {fd':FuncData} {ps':List Str},FD K p fns gl fz i' x' f' fd' ps'->∀ws m w m',aE (runN p n i') ws m=.ok w m'->ws.length=ps'.length:=λ hd ws m w m' hc=>by
   obtain ⟨_,_,_,_,_,_,_,hi',_⟩:=hd
   obtain ⟨m1,w1,m2,hc⟩:=ud hc
   cases n with
   | zero=>cases hc
   | succ n=>
    simp only [runN,hi'] at hc
    split at hc
    ·assumption
    ·cases hc
  have o:Ok (mH CX0 P w K mg base N qual (aP st) f cdv A outer s H E).nox ⟨P,w⟩ ⟨λ f=>aE (runN p n f),p.fuel,p.cs⟩ ⟨N,(aP st).names,fns,gl,p.cs,fz⟩:=by
   refine ⟨rfl,S.nd,λ {x k} hk hv=>?_,λ {x k} hk hv=>?_,λ {x} hk=>hk,λ {x} hk=>hk,rfl,⟨hr.units,rfl,rfl,hr.gd⟩,hr.hd,A0.blt,λ {x i np} hx=>?_,A0.glo,rfl,A0.fld,λ {c x i} hx=>?_,λ {c i} hx=>?_,A0.dic⟩
   ·rcases hv with rfl | rfl | rfl
    ·exact .inl hk
    ·exact .inr (.inl hk)
    ·exact .inr (.inr hk)
   ·rcases hv with rfl | rfl
    ·exact ⟨.inl hk,.inl rfl⟩
    ·exact ⟨.inr hk,.inl rfl⟩
   ·obtain ⟨fa,fd,ps,h1,h2,h3⟩:=A0.fn hx
    have hkp:PySem.W.keepIn K (.ref fa)=true:=let ⟨_,_,_,_,F,_⟩:=h2; F.kp
    have hbd:Binds K fd ps []:=let ⟨_,_,_,_,_,_,_,_,z⟩:=h2; z
    exact ⟨2*n,fa,fd,ps,h1,hr.mono (by omega),h3,hkp,hbd,(sound A0 n h2).imp λ _ _ _ _=>fV⟩
   ·obtain ⟨fa,fd,ps,h2,h3,h4⟩:=A0.mth hx
    have hbd:Binds K fd ps []:=let ⟨_,_,_,_,_,_,_,_,z⟩:=h2; z
    exact ⟨2*n,fa,fd,ps,hr.mono (by omega),h3,h4,hbd,(sound A0 n h2).imp λ _ _ _ _=>fV,hln h2⟩
   ·obtain ⟨fa,fd,ps,h2,h3,h4⟩:=A0.ini hx
    have hbd:Binds K fd ps []:=let ⟨_,_,_,_,_,_,_,_,z⟩:=h2; z
    exact ⟨2*n,fa,fd,ps,hr,h3,h4,hbd,(sound A0 n h2).imp λ _ _ _ _=>fV,hln h2⟩
  refine ⟨_,lI (λ s d h=>yf o rfl S.kind PassesOwn.never 60 s d h) hb,?_⟩
  simp only [runN,hi] at e
  split at e
  ·obtain ⟨ff,m1,e1,e2⟩:=R.aa e
   refine ⟨β,cH N.length ws,m,ff,m1,r,RL.start t,e1,fun β1 H1 x1 r1=>?_⟩
   cases ff with
   | nx ρ=>
    simp only [outF] at e2
    cases e2
    exact fun σ _=>k _ _ _ x1 r1 .non
   | rt w=>
    simp only [outF] at e2
    cases e2
    exact λ v q=>k _ _ _ x1 r1 q
   | bk ρ=>simp only [outF] at e2; cases e2
   | ct ρ=>simp only [outF] at e2; cases e2
  ·cases e
end
theorem ue {l:PySem.W.OpenLaw} {q:Program} {loose:List Str} {XP:(Str->Option Value)->Heap->Prop} {YP:World->Heap->Prop} {d:DefRec} {K:Params->PySem.W.Frag} {p:Pg} {i:Nat} {x:Str}
  (hn:l.most=some 63) (hdf:d.params.defaults=[]) (hY:∀(w:World) (h:Heap),YP w h->(K w.params).In h)
  (F:∀(w:World) (mg:Str->Option Value) (fa:Addr) (h:Heap),(K w.params).In h->h.Ns mainGlobals mg->mg d.name=some (.ref fa)->
   ∃fd:FuncData,(∀(s:Shared) (u:Value),BindsTo s fd ⟨[u],[]⟩ [(x,u)])/\
    ∀base:Heap,(K w.params).In base->base.Ns mainGlobals mg->cV l.prog w (K w.params) mg base CX0 80 fa fd [x] (spD (K w.params) ⟨l.prog,w⟩ 1 (runN p 40 i)))
  (DX:∀ns:List Int,ns.length<=63->∃m',runN p 40 i [.fz (ns.map .int)] []=.ok (.bl true) m') :
  PySem.W.WalkO q loose XP YP l.row.toRowW d [] (λ f vs=>PySem.call f vs):=by
 refine L2.vH (n:=63) (k:=80) (x:=x) (CX:=λ _=>CX0) (sp:=λ w=>spD (K w.params) ⟨l.prog,w⟩ 1 (runN p 40 i)) hn (by decide) hdf ⟨rfl,by decide,by decide,rfl⟩ hY F (λ w H a ns hl hO hS=>?_) λ _ _ _ _ _ z=>z
 obtain ⟨m',e⟩:=DX ns hl
 have sf:SqF (K w.params) H a (ns.map V.int):=by
  rcases hS with (h | ⟨o,h⟩) | h
  ·rcases hO a with z | ⟨o,xs,z⟩
   ·rw [h] at z; cases z
   ·rw [h] at z; cases z
  ·exact .inl ⟨o,h⟩
  ·exact .inr h
 have ri:∀ns:List Int,RWs (K w.params) [] H (ns.map W.int) (ns.map V.int):=λ ns=>by
  induction ns with
  | nil=>exact .nil
  | cons n r ih=>exact .cons (.int n) ih
 refine ⟨rfl,[],[],[.fz (ns.map .int)],.bl true,m',⟨rfl,List.nodup_nil,λ {n o a} h=>by simp at h⟩,.cons (.fz sf (ri ns)) .nil,e,fun β' H' v _ _ q=>?_⟩
 cases q
 rfl
end D
end
section
namespace D
open PySem
theorem lJ {α β:Type} [BEq α] [LawfulBEq α] {x:α} {b:β} {l:List (α×β)} (h:l.lookup x=some b):(x,b)∈l:=by
 induction l with
 | nil=>simp at h
 | cons p l ih=>
  obtain ⟨y,c⟩:=p
  rw [List.lookup_cons] at h
  split at h
  ·rename_i hb
   cases h
   rw [eq_of_beq hb]
   exact List.mem_cons_self
  ·exact List.mem_cons_of_mem _ (ih h)
abbrev Cn (p:Pg) (n:Nat):D.Cx:=⟨λ f=>aE (D.runN p n f),p.fuel,p.cs⟩
section
variable {get:Mem->Nat->Nx} {t:T} {test:Loc->Mem->R Bool} {body:Loc->Mem->List W->R (List W×Loc)} {bod:Loc->Mem->R F} {k i:Nat} {ρ ρ1 ρ2:Loc} {m m1 m2:Mem} {acc j0:List W} {x w:W}
theorem jr (h:get m i=.fin):bH get t test body k i ρ m acc=.ok (acc,ρ) m:=by unfold bH; rw [h]
theorem iu (h:get m i=.it x) (hb:aD t x ρ=some ρ1) (ht:test ρ1 m=.ok true m1) (he:body ρ1 m1 acc=.ok (j0,ρ2) m2):bH get t test body (k+1) i ρ m acc=bH get t test body k (i+1) ρ2 m2 j0:=by
 rw [bH,h]; simp only [hb,ht,R.bind,if_true,he]
theorem nN (h:get m i=.it x) (hb:aD t x ρ=some ρ1) (ht:test ρ1 m=.ok false m1):bH get t test body (k+1) i ρ m acc=bH get t test body k (i+1) ρ1 m1 acc:=by
 rw [bH,h]; simp only [hb,ht,R.bind,Bool.false_eq_true,if_false]
theorem uf (h:get m i=.fin):eH get t bod k i ρ m=.ok (.nx ρ) m:=by unfold eH; rw [h]
theorem wX (h:get m i=.it x) (hb:aD t x ρ=some ρ1) (he:bod ρ1 m=.ok (.nx ρ2) m2):eH get t bod (k+1) i ρ m=eH get t bod k (i+1) ρ2 m2:=by
 rw [eH,h]; simp only [hb,R.bind,he]
theorem wY (h:get m i=.it x) (hb:aD t x ρ=some ρ1) (he:bod ρ1 m=.ok (.ct ρ2) m2):eH get t bod (k+1) i ρ m=eH get t bod k (i+1) ρ2 m2:=by
 rw [eH,h]; simp only [hb,R.bind,he]
theorem lK {n:Nat} (I:Nat->Loc->Mem->Prop) (hs:∀i ρ m,i < n->I i ρ m->∃x ρ1 ρ2 m2,get m i=.it x/\aD t x ρ=some ρ1/\(bod ρ1 m=.ok (.nx ρ2) m2\/bod ρ1 m=.ok (.ct ρ2) m2)/\I (i+1) ρ2 m2) (hf:∀ρ m,I n ρ m->get m n=.fin) :
  ∀(k i:Nat) (ρ:Loc) (m:Mem),i+k=n->I i ρ m->∃ρ' m',eH get t bod k i ρ m=.ok (.nx ρ') m'/\I n ρ' m'
 | 0,i,ρ,m,hi,h=>by
  have e:i=n:=by omega
  subst e
  exact ⟨ρ,m,uf (hf ρ m h),h⟩
 | k+1,i,ρ,m,hi,h=>by
  obtain ⟨x,ρ1,ρ2,m2,h1,h2,h3,h4⟩:=hs i ρ m (by omega) h
  obtain ⟨ρ',m',e,h5⟩:=lK I hs hf k (i+1) ρ2 m2 (by omega) h4
  refine ⟨ρ',m',?_,h5⟩
  rcases h3 with h3 | h3
  ·rw [wX h1 h2 h3,e]
  ·rw [wY h1 h2 h3,e]
theorem cB {n:Nat} (I:Nat->Loc->Mem->List W->Prop)
  (hs:∀i ρ m acc,i < n->I i ρ m acc->∃x ρ1,get m i=.it x/\aD t x ρ=some ρ1/\((∃m1 j0 ρ2 m2,test ρ1 m=.ok true m1/\body ρ1 m1 acc=.ok (j0,ρ2) m2/\I (i+1) ρ2 m2 j0)\/∃m1,test ρ1 m=.ok false m1/\I (i+1) ρ1 m1 acc))
  (hf:∀ρ m acc,I n ρ m acc->get m n=.fin) :
  ∀(k i:Nat) (ρ:Loc) (m:Mem) (acc:List W),i+k=n->I i ρ m acc->∃acc' ρ' m',bH get t test body k i ρ m acc=.ok (acc',ρ') m'/\I n ρ' m' acc'
 | 0,i,ρ,m,acc,hi,h=>by
  have e:i=n:=by omega
  subst e
  exact ⟨acc,ρ,m,jr (hf ρ m acc h),h⟩
 | k+1,i,ρ,m,acc,hi,h=>by
  obtain ⟨x,ρ1,h1,h2,⟨m1,j0,ρ2,m2,h3,h4,h5⟩ | ⟨m1,h3,h5⟩⟩:=hs i ρ m acc (by omega) h
  ·obtain ⟨a',ρ',m',e,h6⟩:=cB I hs hf k (i+1) ρ2 m2 j0 (by omega) h5
   exact ⟨a',ρ',m',by rw [iu h1 h2 h3 h4,e],h6⟩
  ·obtain ⟨a',ρ',m',e,h6⟩:=cB I hs hf k (i+1) ρ1 m1 acc (by omega) h5
   exact ⟨a',ρ',m',by rw [nN h1 h2 h3,e],h6⟩
end
theorem af {C:Cx} {s:S} {r:Ss} {ρ ρ1:Loc} {m m1:Mem} (h:evS C s ρ m=.ok (.nx ρ1) m1):aF C (.cons s r) ρ m=aF C r ρ1 m1:=by simp only [aF,h,R.bind]
theorem aW {C:Cx} {s:S} {r:Ss} {ρ:Loc} {m m1:Mem} {w:W} (h:evS C s ρ m=.ok (.rt w) m1):aF C (.cons s r) ρ m=.ok (.rt w) m1:=by simp only [aF,h,R.bind]
theorem bx {p:Pg} {n f:Nat} {ws:List W} {m m1:Mem} {w:W} {d:Fn} (hd:p.fns[f]?=some d) (hl:ws.length=d.np) (h:aF (Cn p n) d.body (cH d.nl ws) m=.ok (.rt w) m1):D.runN p (n+1) f ws m=.ok w m1:=by
 rw [D.runN,hd]; simp only [hl,if_true,h,R.bind,outF]
theorem dQ {p:Pg} {n f:Nat} {ws:List W} {m m1:Mem} {ρ:Loc} {d:Fn} (hd:p.fns[f]?=some d) (hl:ws.length=d.np) (h:aF (Cn p n) d.body (cH d.nl ws) m=.ok (.nx ρ) m1):D.runN p (n+1) f ws m=.ok .non m1:=by
 rw [D.runN,hd]; simp only [hl,if_true,h,R.bind,outF]
theorem AJ {C:Cx} {i:Nat} {e:E} {ρ:Loc} {m m1:Mem} {w:W} (h:evE C e ρ m=.ok w m1):evS C (.asg (.pt (.var i)) e) ρ m=.ok (.nx (ρ.set i (some w))) m1:=by simp only [evS,h,R.bind,evA,aD]
theorem aK {C:Cx} {i:Nat} {e:E} {ρ ρ1:Loc} {m m1:Mem} {w:W} (h:evE C e ρ m=.ok w m1) (hs:ρ.set i (some w)=ρ1):evS C (.asg (.pt (.var i)) e) ρ m=.ok (.nx ρ1) m1:=by rw [AJ h,hs]
theorem nO {α:Type} {xs:List α} {i:Nat} (h:xs.Nodup) (hi:i < xs.length):xs[i]∉xs.take i:=λ hm=>by
 rw [<-List.take_append_drop i xs] at h
 exact (List.nodup_append.mp h).2.2 _ hm _ (List.mem_of_getElem? (i:=0) (by rw [List.getElem?_drop,Nat.add_zero,List.getElem?_eq_getElem hi])) rfl
theorem bg {C:Cx} {e:E} {ρ:Loc} {m m1:Mem} {w:W} (h:evE C e ρ m=.ok w m1):evS C (.ret e) ρ m=.ok (.rt w) m1:=by simp only [evS,h,R.bind]
theorem bA {C:Cx} {e:E} {ρ:Loc} {m m1:Mem} {w:W} (h:evE C e ρ m=.ok w m1):evS C (.expr e) ρ m=.ok (.nx ρ) m1:=by simp only [evS,h,R.bind]
theorem fW {C:Cx} {o e:E} {f:Str} {ρ:Loc} {m m1 m2 m3:Mem} {w x:W} (h:evE C e ρ m=.ok w m1) (h2:evE C o ρ m1=.ok x m2) (h3:kZ C.cs x f w m2=.ok () m3):evS C (.fas o f e) ρ m=.ok (.nx ρ) m3:=by simp only [evS,h,h2,h3,R.bind]
theorem wZ {C:Cx} {t:E} {a b:Ss} {ρ:Loc} {m m1:Mem} (h:evT C t ρ m=.ok true m1):evS C (.ife t a b) ρ m=aF C a ρ m1:=by simp only [evS,h,R.bind,if_true]
theorem cZ {C:Cx} {t:E} {a b:Ss} {ρ:Loc} {m m1:Mem} (h:evT C t ρ m=.ok false m1):evS C (.ife t a b) ρ m=aF C b ρ m1:=by simp only [evS,h,R.bind,Bool.false_eq_true,if_false]
theorem ao {C:Cx} {ρ:Loc} {m:Mem}:aF C .nil ρ m=.ok (.nx ρ) m:=by simp only [aF]
theorem AK {C:Cx} {t:T} {it:E} {b:Ss} {ρ:Loc} {m m1 m2:Mem} {s:Src} {f:F} (h:evI C it ρ m=.ok s m1) (h2:eH s.get t (fun ρ m=>aF C b ρ m) (s.len m1) 0 ρ m1=.ok f m2):evS C (.for_ t it b) ρ m=.ok f m2:=by simp only [evS,h,R.bind,h2]
theorem bP {C:Cx} {t:T} {it:E} {b:Ss} {ρ:Loc} {m m1:Mem} {s:Src} {n:Nat} (hI:evI C it ρ m=.ok s m1) (hn:s.len m1=n) (I:Nat->Loc->Mem->Prop) (h0:I 0 ρ m1)
  (hs:∀i ρ m,i < n->I i ρ m->∃x ρ1 ρ2 m2,s.get m i=.it x/\aD t x ρ=some ρ1/\(aF C b ρ1 m=.ok (.nx ρ2) m2\/aF C b ρ1 m=.ok (.ct ρ2) m2)/\I (i+1) ρ2 m2) (hf:∀ρ m,I n ρ m->s.get m n=.fin) :
  ∃ρ' m',evS C (.for_ t it b) ρ m=.ok (.nx ρ') m'/\I n ρ' m':=by
 obtain ⟨ρ',m',h1,h2⟩:=lK (get:=s.get) (t:=t) (bod:=fun ρ m=>aF C b ρ m) I hs hf n 0 ρ m1 (by omega) h0
 exact ⟨ρ',m',AK hI (by rw [hn]; exact h1),h2⟩
theorem cL {C:Cx} {t:T} {js:List Nat} {it:E} {ifs:Es} {g:G} {ρ ρ':Loc} {m m1 m2:Mem} {s:Src} {ws:List W} (h:evI C it ρ m=.ok s m1) (h2:bH s.get t (fun ρ m=>aN C ifs ρ m) (fun ρ m acc=>evG C g ρ m acc) (s.len m1) 0 (clr js ρ) m1 []=.ok (ws,ρ') m2):evE C (.comp (.gen t js it ifs g)) ρ m=.ok (.ref m2.length) (m2++[.lst ws]):=by
 simp only [evE,evG,h,R.bind,h2,new]
theorem ug {C:Cx} {e:E} {ρ:Loc} {m m1:Mem} {n:Nat} (he:evE C e ρ m=.ok (.int n) m1) (h:-(2^62)<=(n:Int)/\(n:Int) < 2^62):evI C (.rng e) ρ m=.ok (.rng 0 n) m1:=by
 simp only [evI,he,R.bind]
 rw [if_pos h,Int.toNat_natCast]
theorem eW {lo:Int} {n i:Nat} {m:Mem} (h:i < n):Src.get (.rng lo n) m i=.it (.int (lo+i)):=by simp only [Src.get,h,if_true]
theorem dR {lo:Int} {n i:Nat} {m:Mem} (h:¬i < n):Src.get (.rng lo n) m i=.fin:=by simp only [Src.get,h,if_false]
theorem aJ {xs:List W} {i:Nat} {m:Mem} (h:i < xs.length):Src.get (.tup xs) m i=.it xs[i]:=by simp only [Src.get,List.getElem?_eq_getElem h]
theorem aG {xs:List W} {i:Nat} {m:Mem} (h:¬i < xs.length):Src.get (.tup xs) m i=.fin:=by simp only [Src.get,List.getElem?_eq_none (Nat.le_of_not_lt h)]
theorem dz {s:Src} {i:Nat} {m:Mem} {w:W} (h:s.get m i=.it w):Src.get (.enm s) m i=.it (.tup [.int i,w]):=by simp only [Src.get,h]
theorem cM {s:Src} {i:Nat} {m:Mem} (h:s.get m i=.fin):Src.get (.enm s) m i=.fin:=by simp only [Src.get,h]
theorem bB {n:Nat} {xs:List W} {m:Mem} (h:m[n]?=some (.lst xs)) (i:Nat):Src.get (.lst n) m i=Src.get (.tup xs) m i:=by simp only [Src.get,getL,h]
theorem dB:∀ns:List Int,ah (ns.map W.int)=true
 | []=>rfl
 | n::r=>by simp [ah,aC,dB r]
theorem aU:∀ns:List Str,ah (ns.map W.str)=true
 | []=>rfl
 | n::r=>by simp [ah,aC,aU r]
theorem bD:∀{xs:List W},ah xs=true↔∀x∈xs,aC x=true
 | []=>by simp [ah]
 | x::r=>by simp [ah,bD (xs:=r)]
theorem uh {α:Type} {f:α->W} (h:∀a,aC (f a)=true) (xs:List α):ah (xs.map f)=true:=bD.mpr λ x hx=>by
 obtain ⟨a,_,rfl⟩:=List.mem_map.mp hx
 exact h a
theorem yg {xs ys:List W}:ah (xs++ys)=(ah xs&&ah ys):=by
 induction xs with
 | nil=>simp [ah]
 | cons x r ih=>simp [ah,ih,Bool.and_assoc]
mutual
theorem lM (g:Nat->Option W):∀{w:W},aC w=true->frW g w=some w
 | .non,_=>rfl
 | .bl _,_=>rfl
 | .int _,_=>rfl
 | .str _,_=>rfl
 | .tup xs,h=>by simp only [frW,bh g (by simpa only [aC] using h:ah xs=true)]; rfl
 | .fz xs,h=>by simp only [frW,bh g (by simpa only [aC] using h:ah xs=true)]; rfl
 | .obj c ks vs,h=>by simp only [frW,bh g (by simpa only [aC] using h:ah vs=true)]; rfl
 | .ref _,h=>by simp [aC] at h
theorem bh (g:Nat->Option W):∀{w:List W},ah w=true->cz g w=some w
 | [],_=>rfl
 | x::r,h=>by
  simp only [ah,Bool.and_eq_true] at h
  simp only [cz,lM g h.1,bh g h.2]
end
theorem um (k:Nat) {w:W}:aC w=true->dM k w=true:=
 W.rec (motive_1:=λ w=>aC w=true->dM k w=true) (motive_2:=λ w=>ah w=true->bJ k w=true) (λ _=>rfl) (λ _ _=>rfl) (λ _ _=>rfl) (λ _ _=>rfl) (λ _ i e=>i e) (λ _ i e=>i e) (λ _ _ _ i e=>i e) (λ _ e=>nomatch (show false=true from e)) (λ _=>rfl) (λ _ _ a b e=>Bool.and_eq_true_iff.mpr ⟨a (Bool.and_eq_true_iff.mp e).1,b (Bool.and_eq_true_iff.mp e).2⟩) w
theorem aI (k:Nat) {w:List W} (e:ah w=true):bJ k w=true:=by
 induction w with
 | nil=>rfl
 | cons x r ih=>exact Bool.and_eq_true_iff.mpr ⟨um k (Bool.and_eq_true_iff.mp e).1,ih (Bool.and_eq_true_iff.mp e).2⟩
theorem uo {k l:Nat} (hkl:k<=l) {w:W}:dM k w=true->dM l w=true:=
 W.rec (motive_1:=λ w=>dM k w=true->dM l w=true) (motive_2:=λ w=>bJ k w=true->bJ l w=true) (λ _=>rfl) (λ _ _=>rfl) (λ _ _=>rfl) (λ _ _=>rfl) (λ _ i e=>i e) (λ _ i e=>i e) (λ _ _ _ i e=>i e) (λ _ e=>decide_eq_true (Nat.lt_of_lt_of_le (of_decide_eq_true e) hkl)) (λ _=>rfl) (λ _ _ a b e=>Bool.and_eq_true_iff.mpr ⟨a (Bool.and_eq_true_iff.mp e).1,b (Bool.and_eq_true_iff.mp e).2⟩) w
theorem fX {k l:Nat} (hkl:k<=l) {w:List W} (e:bJ k w=true):bJ l w=true:=by
 induction w with
 | nil=>rfl
 | cons x r ih=>exact Bool.and_eq_true_iff.mpr ⟨uo hkl (Bool.and_eq_true_iff.mp e).1,ih (Bool.and_eq_true_iff.mp e).2⟩
theorem ju {k l:Nat} (hkl:k<=l) {o:O} (h:dm k o=true):dm l o=true:=by
 cases o with
 | lst xs=>exact fX hkl h
 | ins c fs=>exact fX hkl h
 | dic fs=>exact fX hkl h
 | set ks=>rfl
noncomputable def Cm (m:Mem):Prop:=qm m.length m=true
theorem Cm.nil:Cm []:=rfl
theorem lN {k:Nat} {m:Mem}:qm k m=true↔∀o∈m,dm k o=true:=by simp [qm,List.all_eq_true]
theorem Cm.set {m:Mem} {p:Nat} {o:O} (h:Cm m) (ho:dm m.length o=true):Cm (m.set p o):=by
 unfold Cm at h ⊢
 rw [List.length_set,lN] at *
 intro x hx
 rcases List.mem_or_eq_of_mem_set hx with hx | rfl
 ·exact h x hx
 ·exact ho
theorem Cm.app {m l:Mem} (h:Cm m) (hl:∀o∈l,dm (m.length+l.length) o=true):Cm (m++l):=by
 unfold Cm at h ⊢
 rw [lN] at *
 intro x hx
 rw [List.length_append]
 rcases List.mem_append.mp hx with hx | hx
 ·exact ju (by omega) (h x hx)
 ·exact hl x hx
theorem Cm.push {m:Mem} {o:O} (h:Cm m) (ho:dm m.length o=true):Cm (m++[o]):=h.app λ x hx=>by
 rw [List.mem_singleton] at hx
 subst hx
 exact ju (by simp) ho
theorem iw {C:Cx} {e:E} {ρ:Loc} {m m0 l:Mem} {w w1:W} (h:evE C e ρ m=.ok w (m0++l)) (hl:m0.length=m.length) (hm:Cm m0) (hw:frW (frG (m0++l) m0.length 8) w=some w1):evE C (.frz e) ρ m=.ok w1 m0:=by
 have ht:(m0++l).take m.length=m0:=by rw [<-hl,List.take_left']; rfl
 have hc:m.length<=(m0++l).length/\qm m.length ((m0++l).take m.length)=true:=⟨by rw [List.length_append]; omega,by rw [ht,<-hl]; exact hm⟩
 simp only [evE,h,qp]
 rw [if_pos hc,<-hl,hw]
 simp only [hl,ht]
theorem w9 {C:Cx} {e:E} {ρ:Loc} {m m0 l:Mem} {xs:List W} {j:Nat} (h:evE C e ρ m=.ok (.ref j) (m0++l)) (hl:m0.length=m.length) (hm:Cm m0) (hj:m0.length<=j) (hx:(m0++l)[j]?=some (.lst xs)) (hp:ah xs=true):evE C (.frz e) ρ m=.ok (.fz xs) m0:=by
 refine iw h hl hm ?_
 simp only [frW,frG,hx,bh _ hp,Option.map_some]
 rw [if_neg (by omega)]
theorem bQ {C:Cx} {e:E} {ρ:Loc} {m m0:Mem} {xs:List W} (h:evE C e ρ m=.ok (.ref m0.length) (m0++[.lst xs])) (hl:m0.length=m.length) (hm:Cm m0) (hp:ah xs=true):evE C (.frz e) ρ m=.ok (.fz xs) m0:=
 w9 h hl hm (Nat.le_refl _) (by simp) hp
theorem aO {f:List W->Mem->R W} {ws:List W} {m:Mem} (h:ah ws=false):aE f ws m=f ws m:=by simp [aE,h]
theorem bq {f:List W->Mem->R W} {ws:List W} {m m1:Mem} {w:W} (h:ah ws=true) (e:f ws []=.ok w m1) (hw:aC w=true):aE f ws m=.ok w m:=by simp [aE,h,e,hw]
theorem eB {f:List W->Mem->R W} {ws:List W} {m m1:Mem} {w:W} (h:ah ws=true) (e:f ws []=.ok w m1) (hw:aC w=false):aE f ws m=.ok (shW m.length w) (m++m1.map (shO m.length)):=by simp [aE,h,e,hw]
theorem set_same {m:Mem} {p:Nat} {o:O} (h:m[p]?=some o):m.set p o=m:=by
 apply List.ext_getElem?
 intro j
 by_cases e:p=j
 ·subst e
  rw [List.getElem?_set_self (List.getElem?_eq_some_iff.mp h).1,h]
 ·rw [List.getElem?_set_ne e]
theorem j3 {α:Type} (l:List α):l.filter (λ _=>true)=l:=List.filter_eq_self.mpr λ _ _=>rfl
theorem fC {C:Cx} {get:Mem->Nat->Nx} {t:T} {ifs:Es} {e:E} {ρ:Loc} {m:Mem} {xs:List W} {B:W->Loc} {p:W->Bool} {g:W->W} (hget:∀j (h:j < xs.length),get m j=.it xs[j]) (DY:get m xs.length=.fin)
  (h0:∀x∈xs,aD t x ρ=some (B x)) (h1:∀x∈xs,∀y∈xs,aD t y (B x)=some (B y)) (ht:∀x∈xs,aN C ifs (B x) m=.ok (p x) m) (he:∀x∈xs,p x=true->evE C e (B x) m=.ok (g x) m) (hl:xs.length<=lim) :
  ∃ρ',bH get t (fun ρ m=>aN C ifs ρ m) (fun ρ m acc=>evG C (.elt e) ρ m acc) xs.length 0 ρ m []=.ok ((xs.filter p).map g,ρ') m:=by
 obtain ⟨acc,ρ',m',e1,h4,h2,h3⟩:=cB (get:=get) (t:=t) (test:=fun ρ m=>aN C ifs ρ m) (body:=fun ρ m acc=>evG C (.elt e) ρ m acc) (n:=xs.length)
  (λ j ρ1 m1 acc=>(∀x∈xs,aD t x ρ1=some (B x))/\m1=m/\acc=((xs.take j).filter p).map g) (λ j ρ1 m1 acc hj=>by
   rintro ⟨hb,rfl,rfl⟩
   have hx:=List.getElem_mem hj
   have htk:xs.take (j+1)=xs.take j++[xs[j]]:=by rw [List.take_add_one,List.getElem?_eq_getElem hj]; rfl
   refine ⟨xs[j],B xs[j],hget j hj,hb _ hx,?_⟩
   have h5:=ht _ hx
   cases hp:p xs[j] with
   | true=>
    rw [hp] at h5
    refine .inl ⟨m1,((xs.take (j+1)).filter p).map g,B xs[j],m1,h5,?_,h1 _ hx,rfl,rfl⟩
    have hlt:(((xs.take j).filter p).map g).length < lim:=by
     rw [List.length_map]
     have:=List.length_filter_le p (xs.take j)
     rw [List.length_take] at this
     omega
    simp only [evG,he _ hx hp,R.bind]
    rw [if_pos hlt,htk,List.filter_append,List.map_append]
    simp [hp]
   | false=>
    rw [hp] at h5
    refine .inr ⟨m1,h5,h1 _ hx,rfl,?_⟩
    rw [htk,List.filter_append]
    simp [hp]) (fun ρ1 m1 acc h=>by rw [h.2.1]; exact DY) xs.length 0 ρ m [] (by omega) ⟨h0,rfl,by simp⟩
 subst h2 h3
 exact ⟨ρ',by rw [e1,List.take_length]⟩
theorem comp_map {C:Cx} {i:Nat} {e:E} {ρ:Loc} {m:Mem} {xs:List W} {g:W->W} (h:∀x∈xs,evE C e (ρ.set i (some x)) m=.ok (g x) m) (hl:xs.length<=lim) :
  ∃ρ',bH (Src.get (.tup xs)) (.var i) (fun ρ m=>aN C .nil ρ m) (fun ρ m acc=>evG C (.elt e) ρ m acc) xs.length 0 ρ m []=.ok (xs.map g,ρ') m:=by
 obtain ⟨ρ',h'⟩:=fC (C:=C) (get:=Src.get (.tup xs)) (t:=.var i) (ifs:=.nil) (e:=e) (ρ:=ρ) (m:=m) (xs:=xs) (B:=λ x=>ρ.set i (some x)) (p:=λ _=>true) (g:=g) (λ j hj=>aJ hj) (aG (by omega)) (λ x _=>by simp only [aD]) (λ x _ y _=>by simp only [aD,List.set_set]) (λ x _=>by simp only [aN]) (λ x hx _=>h x hx) hl
 rw [j3] at h'
 exact ⟨ρ',h'⟩
theorem CD {C:Cx} {i n:Nat} {e:E} {ρ:Loc} {m:Mem} {g:Nat->W} (h:∀j,j < n->evE C e (ρ.set i (some (.int j))) m=.ok (g j) m) (hl:n<=lim) :
  ∃ρ',bH (Src.get (.rng 0 n)) (.var i) (fun ρ m=>aN C .nil ρ m) (fun ρ m acc=>evG C (.elt e) ρ m acc) n 0 ρ m []=.ok ((List.range n).map g,ρ') m:=by
 have hlen:((List.range n).map λ j=>W.int (j:Nat)).length=n:=by simp
 obtain ⟨ρ',h'⟩:=fC (C:=C) (get:=Src.get (.rng 0 n)) (t:=.var i) (ifs:=.nil) (e:=e) (ρ:=ρ) (m:=m) (xs:=(List.range n).map λ j=>W.int (j:Nat)) (B:=λ x=>ρ.set i (some x)) (p:=λ _=>true) (g:=λ w=>match w with | .int j=>g j.toNat | _=>.non)
  (λ j hj=>by rw [eW (by simpa using hj)]; simp) (dR (by simp)) (λ x _=>by simp only [aD]) (λ x _ y _=>by simp only [aD,List.set_set]) (λ x _=>by simp only [aN]) (λ x hx _=>by
   obtain ⟨j,hj,rfl⟩:=List.mem_map.mp hx
   have:=h j (List.mem_range.mp hj)
   simpa using this) (by rw [hlen]; exact hl)
 rw [hlen,j3] at h'
 refine ⟨ρ',h'.trans ?_⟩
 simp [Function.comp_def]
theorem ay {C:Cx} {ρ:Loc} {m:Mem} (i:Nat):evE C (.var i) ρ m=(match ρ[i]? with
   | some (some w)=>.ok w m
   | _=>.no):=by simp only [evE]<;>rfl
theorem oX {C:Cx} {ρ:Loc} {m:Mem} (i:Nat):evT C (.var i) ρ m=(evE C (.var i) ρ m).bind λ w m=>D.truthy m w:=by simp only [evT,evE]<;>rfl
theorem aV {C:Cx} {ρ:Loc} {m:Mem} (w:W):evE C (.cst w) ρ m=(.ok w m):=by simp only [evE]<;>rfl
theorem jv {C:Cx} {ρ:Loc} {m:Mem} (op:Operator) (a b:E):evE C (.bin op a b) ρ m=((evE C a ρ m).bind λ x m=>(evE C b ρ m).bind λ y m=>binop op x y m):=by simp only [evE]<;>rfl
theorem CG {C:Cx} {ρ:Loc} {m:Mem} (a:E):evE C (.not a) ρ m=((evE C a ρ m).bind λ x m=>match x with
   | .bl b=>.ok (.bl (!b)) m
   | _=>.no):=by simp only [evE]<;>rfl
theorem uq {C:Cx} {ρ:Loc} {m:Mem} (a b:E):evE C (.and a b) ρ m=((evE C a ρ m).bind λ x m=>match x with
   | .bl c=>if c then evE C b ρ m else .ok (.bl false) m
   | _=>.no):=by simp only [evE]<;>rfl
theorem CH {C:Cx} {ρ:Loc} {m:Mem} (op:CmpOp) (a b:E):evE C (.cmp op a b) ρ m=((evE C a ρ m).bind λ x m=>(evE C b ρ m).bind λ y m=>(ak op x y m).bind λ c m=>.ok (.bl c) m):=by simp only [evE]<;>rfl
theorem xg {C:Cx} {ρ:Loc} {m:Mem} (o1 o2:CmpOp) (a b c:E):evE C (.chain o1 o2 a b c) ρ m=((evE C a ρ m).bind λ x m=>(evE C b ρ m).bind λ y m=>(ak o1 x y m).bind λ k m=>
    if k then (evE C c ρ m).bind λ z m=>(ak o2 y z m).bind λ k m=>.ok (.bl k) m else .ok (.bl false) m):=by simp only [evE]<;>rfl
theorem yh {C:Cx} {ρ:Loc} {m:Mem} (t a b:E):evE C (.ife t a b) ρ m=((evT C t ρ m).bind λ c m=>if c then evE C a ρ m else evE C b ρ m):=by simp only [evE]<;>rfl
theorem lO {C:Cx} {ρ:Loc} {m:Mem} (es:Es):evE C (.tup es) ρ m=((aH C es ρ m).bind λ ws m=>if ws.length<=lim then .ok (.tup ws) m else .no):=by simp only [evE]<;>rfl
theorem eS {C:Cx} {ρ:Loc} {m:Mem} (es:Es):evE C (.lst es) ρ m=((aH C es ρ m).bind λ ws m=>if ws.length<=lim then new (.lst ws) m else .no):=by simp only [evE]<;>rfl
theorem dS {C:Cx} {ρ:Loc} {m:Mem} (a b:E):evE C (.idx a b) ρ m=((evE C a ρ m).bind λ x m=>(evE C b ρ m).bind λ y m=>aQ x y m):=by simp only [evE]<;>rfl
theorem ur {C:Cx} {ρ:Loc} {m:Mem} (a:E) (lo hi:Oe):evE C (.slc a lo hi) ρ m=((evE C a ρ m).bind λ x m=>(evO C lo ρ m).bind λ l m=>(evO C hi ρ m).bind λ u m=>cG x l u m):=by simp only [evE]<;>rfl
theorem j4 {C:Cx} {ρ:Loc} {m:Mem} (f:Nat) (es:Es):evT C (.call f es) ρ m=(evE C (.call f es) ρ m).bind λ w m=>D.truthy m w:=by simp only [evT,evE]<;>rfl
theorem dU {C:Cx} {ρ:Loc} {m:Mem} (b:B) (es:Es):evE C (.blt b es) ρ m=((aH C es ρ m).bind λ ws m=>bf b ws m):=by simp only [evE]<;>rfl
theorem yi {C:Cx} {ρ:Loc} {m:Mem} (b:B) (es:Es):evT C (.blt b es) ρ m=(evE C (.blt b es) ρ m).bind λ w m=>D.truthy m w:=by simp only [evT,evE]<;>rfl
theorem eX {C:Cx} {ρ:Loc} {m:Mem} (o:E) (name:String) (es:Es):evE C (.meth o name es) ρ m=((evE C o ρ m).bind λ x m=>if kdOf m x=kdM name then (aH C es ρ m).bind λ ws m=>aM x name ws m else .no):=by simp only [evE]<;>rfl
theorem AL {C:Cx} {ρ:Loc} {m:Mem} (a:E):evE C (.lrng a) ρ m=((evE C a ρ m).bind λ x m=>match x with
   | .int j=>if 0<=j/\j<=1000000 then new (.lst ((List.range j.toNat).map λ i=>W.int (i:Nat))) m else .no
   | _=>.no):=by simp only [evE]<;>rfl
theorem uu {C:Cx} {ρ:Loc} {m:Mem} (u:U) (a:E):evE C (.fus u a) ρ m=((evE C a ρ m).bind λ x m=>bX u x m):=by simp only [evE]<;>rfl
theorem yj {C:Cx} {ρ:Loc} {m:Mem} (u:U) (a:E):evT C (.fus u a) ρ m=(evE C (.fus u a) ρ m).bind λ w m=>D.truthy m w:=by simp only [evT,evE]<;>rfl
theorem uv {C:Cx} {ρ:Loc} {m:Mem} (c:Str) (es:Es):evE C (.make c es) ρ m=((aH C es ρ m).bind λ ws m=>fQ C c ws m):=by simp only [evE]<;>rfl
theorem Ec {C:Cx} {ρ:Loc} {m:Mem} (o:E) (f:Str) (es:Es):evE C (.mth o f es) ρ m=((evE C o ρ m).bind λ x m=>match g9 C.cs x f m with
   | some i=>(aH C es ρ m).bind λ ws m=>C.call i (x::ws) m
   | none=>.no):=by simp only [evE]<;>rfl
theorem AM {C:Cx} {ρ:Loc} {m:Mem} :evE C (.set0) ρ m=(new (.set []) m):=by simp only [evE]<;>rfl
theorem oY {C:Cx} {ρ:Loc} {m:Mem} (a b:E):evT C (.and a b) ρ m=((evT C a ρ m).bind λ c m=>if c then evT C b ρ m else .ok false m):=by simp only [evT]<;>rfl
theorem uw {C:Cx} {ρ:Loc} {m:Mem} (a b:E):evT C (.or a b) ρ m=((evT C a ρ m).bind λ c m=>if c then .ok true m else evT C b ρ m):=by simp only [evT]<;>rfl
theorem iy {C:Cx} {ρ:Loc} {m:Mem} (a:E):evT C (.not a) ρ m=((evT C a ρ m).bind λ c m=>.ok (!c) m):=by simp only [evT]<;>rfl
theorem bZ {C:Cx} {ρ:Loc} {m:Mem} (op:CmpOp) (a b:E):evT C (.cmp op a b) ρ m=((evE C a ρ m).bind λ x m=>(evE C b ρ m).bind λ y m=>ak op x y m):=by simp only [evT]<;>rfl
theorem oZ {C:Cx} {ρ:Loc} {m:Mem} (o1 o2:CmpOp) (a b c:E):evT C (.chain o1 o2 a b c) ρ m=((evE C a ρ m).bind λ x m=>(evE C b ρ m).bind λ y m=>(ak o1 x y m).bind λ k m=>
   if k then (evE C c ρ m).bind λ z m=>ak o2 y z m else .ok false m):=by simp only [evT]<;>rfl
theorem aB {C:Cx} {ρ:Loc} {m:Mem}:aH C .nil ρ m=.ok [] m:=by simp only [aH]<;>rfl
theorem av {C:Cx} {ρ:Loc} {m:Mem} (e:E) (es:Es):aH C (.cons e es) ρ m=((evE C e ρ m).bind λ w m=>(aH C es ρ m).bind λ ws m=>.ok (w::ws) m):=by simp only [aH]<;>rfl
theorem nP {C:Cx} {ρ:Loc} {m:Mem}:evO C .none ρ m=.ok none m:=by simp only [evO]<;>rfl
theorem nQ {C:Cx} {ρ:Loc} {m:Mem} (e:E):evO C (.some e) ρ m=((evE C e ρ m).bind λ w m=>match w with
   | .int i=>.ok (some i) m
   | _=>.no):=by simp only [evO]<;>rfl
theorem aj {α β:Type} {a:α} {m:Mem} {f:α->Mem->R β}:(R.ok a m).bind f=f a m:=Eq.trans rfl rfl
theorem fD {C:Cx} {ρ:Loc} {m:Mem} (i:Nat):evI C (.var i) ρ m=(evE C (.var i) ρ m).bind toI:=by simp only [evI,evE]<;>rfl
theorem pe {C:Cx} {ρ:Loc} {m:Mem} (a:E):evI C (.frz a) ρ m=(evE C (.frz a) ρ m).bind toI:=by simp only [evI,evE]<;>rfl
theorem eY:∀n:Nat,bools (List.replicate n (W.bl true))=some (List.replicate n true)
 | 0=>rfl
 | n+1=>by simp [List.replicate_succ,bools,eY n]
theorem all_true (n:Nat):(List.replicate n true).all id=true:=by simp
theorem j5 {α:Type} (xs:List α) (w:W):(xs.map λ _=>w)=List.replicate xs.length w:=List.map_const' ..
theorem j6 {m:Mem} {w:W} {xs:List W} (h:getL m w=some xs):bG m w=some xs:=by
 cases w with
 | tup ys=>cases h
 | _=>exact h
theorem iz {m:Mem} {w:W} {xs:List W} (h:bG m w=some xs):bf .len [w] m=.ok (.int xs.length) m:=by
 cases w with
 | str z=>simp [bG,getL] at h
 | _=>simp only [bf,h]
theorem pq {α:Type} {xs:List α} {i:Nat} (h:i < xs.length):L2.atI xs (i:Int)=some xs[i]:=by
 have h1:(0:Int)<=i:=by omega
 have h2:(i:Int) < xs.length:=by omega
 simp only [L2.atI,L2.ixN,h1,h2,if_true,Option.bind_some,Int.toNat_natCast,List.getElem?_eq_getElem h]
theorem iA {m:Mem} {w:W} {xs:List W} {i:Nat} (h:bG m w=some xs) (hi:i < xs.length):aQ w (.int i) m=.ok xs[i] m:=by
 cases w with
 | str z=>simp [bG,getL] at h
 | _=>simp only [aQ,h,pq hi]
theorem lP {C:Cx} {i:Nat} {e it:E} {ρ:Loc} {m:Mem} {xs:List W} {s:Src} (hm:Cm m) (hI:evI C it ρ m=.ok s m) (hg:∀j,s.get m j=Src.get (.tup xs) m j) (hn:s.len m=xs.length) (hl:xs.length<=lim) {js:List Nat} (h:∀x∈xs,evE C e ((clr js ρ).set i (some x)) m=.ok (.bl true) m) :
  evE C (.blt .all (.cons (.frz (.comp (.gen (.var i) js it .nil (.elt e)))) .nil)) ρ m=.ok (.bl true) m:=by
 obtain ⟨ρ',hc⟩:=fC (C:=C) (get:=s.get) (t:=.var i) (ifs:=.nil) (e:=e) (ρ:=clr js ρ) (m:=m) (xs:=xs) (B:=λ x=>(clr js ρ).set i (some x)) (p:=λ _=>true) (g:=λ _=>.bl true) (λ j hj=>by rw [hg,aJ hj]) (by rw [hg]; exact aG (by omega)) (λ x _=>by simp only [aD]) (λ x _ y _=>by simp only [aD,List.set_set]) (λ x _=>by simp only [aN]) (λ x hx _=>h x hx) hl
 rw [j3,j5,<-hn] at hc
 have hf:=bQ (cL (js:=js) (ifs:=.nil) (g:=.elt e) hI (by rw [hn]; rw [hn] at hc; exact hc)) rfl hm (bD.mpr λ x hx=>by rw [(List.mem_replicate.mp hx).2]; rfl)
 rw [dU,av,hf]
 simp only [aj,aB,bf,getL,eY,all_true]
theorem gB {C:Cx} {e:E} {ρ:Loc} {m m1:Mem} {b:Bool} (he:evT C e ρ m=(evE C e ρ m).bind λ w m=>D.truthy m w) (h:evE C e ρ m=.ok (.bl b) m1):evT C e ρ m=.ok b m1:=by rw [he,h]; rfl
theorem bW {p:Pg} {n:Nat} {ρ:Loc} {m:Mem} (f:Nat) (es:Es):evE (Cn p n) (.call f es) ρ m=(aH (Cn p n) es ρ m).bind λ ws m=>aE (D.runN p n f) ws m:=by simp only [evE]
theorem ux {p:Pg} {n:Nat} {ρ:Loc} {m:Mem} (o:E) (f:Str) (es:Es):evE (Cn p n) (.mth o f es) ρ m=(evE (Cn p n) o ρ m).bind λ x m=>match g9 p.cs x f m with
  | some i=>(aH (Cn p n) es ρ m).bind λ ws m=>aE (D.runN p n i) (x::ws) m
  | none=>.no:=by simp only [evE]<;>rfl
theorem nR {p:Pg} {n:Nat} {ρ:Loc} {m:Mem} (a:E) (f:Str):evE (Cn p n) (.fld a f) ρ m=(evE (Cn p n) a ρ m).bind λ x m=>jn p.cs x f m:=by simp only [evE]
end D
end
section
namespace D
open PySem
abbrev pot (A B:Int):O:=.lst [.int A,.int B]
noncomputable def Pot (m:Mem) (p:Nat):Prop:=∃A B,m[p]?=some (pot A B)
noncomputable def PS (p:Nat) (m m':Mem):Prop:=∃A B,m'=m.set p (pot A B)
section
variable {m m' m'':Mem} {p q:Nat}
theorem Pot.refl (h:Pot m p):PS p m m:=let ⟨A,B,e⟩:=h; ⟨A,B,(set_same e).symm⟩
theorem PS.trans (h:PS p m m') (h':PS p m' m''):PS p m m'':=by
 obtain ⟨A,B,rfl⟩:=h
 obtain ⟨A',B',rfl⟩:=h'
 exact ⟨A',B',by rw [List.set_set]⟩
theorem PS.len (h:PS p m m'):m'.length=m.length:=by obtain ⟨A,B,rfl⟩:=h; simp
theorem PS.pot (h:PS p m m') (hp:Pot m p):Pot m' p:=by
 obtain ⟨A,B,rfl⟩:=h
 obtain ⟨A',B',e⟩:=hp
 exact ⟨A,B,List.getElem?_set_self (List.getElem?_eq_some_iff.mp e).1⟩
theorem PS.cm (h:PS p m m') (hm:Cm m):Cm m':=by obtain ⟨A,B,rfl⟩:=h; exact hm.set rfl
theorem PS.ne (h:PS p m m') (hq:p≠q):m'[q]?=m[q]?:=by obtain ⟨A,B,rfl⟩:=h; exact List.getElem?_set_ne hq
theorem Pot.lt (h:Pot m p):p < m.length:=let ⟨_,_,e⟩:=h; (List.getElem?_eq_some_iff.mp e).1
theorem Pot.app {l:Mem} (h:Pot m p):Pot (m++l) p:=let ⟨A,B,e⟩:=h; ⟨A,B,by rw [List.getElem?_append_left (List.getElem?_eq_some_iff.mp e).1]; exact e⟩
end
noncomputable def Draws (f:List W->Mem->R W):Prop:=∀{m:Mem} {p:Nat} {many:Int},Pot m p->0 < many->many < 1073741824->∃d m',f [.ref p,.int many] m=.ok (.int d) m'/\PS p m m'/\0<=d/\d < many
theorem jw {α:Type} [DecidableEq α]:∀{l k:List α},l.Nodup->(∀x∈l,x∈k)->l.length<=k.length
 | [],_,_,_=>Nat.zero_le _
 | x::l,k,hn,h=>by
  have hx:=h x List.mem_cons_self
  have hn':=List.nodup_cons.mp hn
  have:=jw (l:=l) (k:=k.erase x) hn'.2 λ y hy=>(List.mem_erase_of_ne (λ z=>by subst z; exact hn'.1 hy)).mpr (h y (List.mem_cons_of_mem _ hy))
  rw [List.length_erase_of_mem hx] at this
  have:0 < k.length:=List.length_pos_of_mem hx
  simp
  omega
theorem fE {m:Mem} {z:Str} {n:Nat} (h:z.cps.all (· < 0x110000)=true):toD (n+1) m (.str z)=some (.str z):=by simp only [toD,h,if_true]
theorem eE {m:Mem} {n:Nat}:∀{ws:List Str},(∀z∈ws,z.cps.all (· < 0x110000)=true)->bT (toD (n+1) m) (ws.map .str)=some (ws.map PyData.str)
 | [],_=>rfl
 | z::r,h=>by
  simp only [List.map_cons,bT,fE (h z List.mem_cons_self),eE λ y hy=>h y (List.mem_cons_of_mem _ hy)]
theorem pA (a b:Str):PyData.eqv (.str a) (.str b)=decide (a=b):=by
 simp only [PyData.eqv]
 by_cases h:a=b<;>simp [h]
theorem iB {m:Mem} {z:Str} {ws:List Str} (hz:z.cps.all (· < 0x110000)=true) (hw:∀z∈ws,z.cps.all (· < 0x110000)=true):iU m (.str z) (ws.map .str)=.ok (decide (z∈ws)) m:=by
 simp only [iU,fE hz,eE hw]
 congr 1
 rw [List.any_map]
 induction ws with
 | nil=>simp
 | cons y r ih=>
  have:=ih λ z hz=>hw z (List.mem_cons_of_mem _ hz)
  simp only [List.any_cons,Function.comp,pA,List.mem_cons] at this ⊢
  rw [this]
  by_cases h:z=y
  ·subst h; simp
  ·have h':¬y=z:=λ e=>h e.symm
   simp [h,h']
theorem nT {n:Nat} {m:Mem} {xs:List W}:toD (n+1) m (.fz xs)=(bT (toD n m) xs).map .list:=Eq.trans rfl rfl
theorem pB {n:Nat} {m:Mem} {xs:List W}:toD (n+1) m (.tup xs)=(bT (toD n m) xs).map .tuple:=Eq.trans rfl rfl
theorem pC {n a:Nat} {m:Mem} {xs:List W} (h:m[a]?=some (.lst xs)):toD (n+1) m (.ref a)=(bT (toD n m) xs).map .list:=by
 simp only [toD,getL,h]
theorem fF {n:Nat} {m:Mem} {w:W} {xs:List W} (h:getL m w=some xs):toD (n+1) m w=(bT (toD n m) xs).map .list:=by
 cases w with
 | ref a=>
  simp only [getL] at h
  split at h
  ·rename_i ys e
   cases h
   exact pC e
  ·cases h
 | fz ys=>cases h; exact nT
 | _=>cases h
theorem eF {m:Mem} {k:Nat}:∀ns:List Int,bT (toD (k+1) m) (ns.map .int)=some (ns.map PyData.int)
 | []=>rfl
 | a::r=>by simp only [List.map_cons,bT,eF r]; rfl
theorem iC {α β:Type} {f:W->Option β} {g:α->W} {h:α->β}:∀{xs:List α},(∀a∈xs,f (g a)=some (h a))->bT f (xs.map g)=some (xs.map h)
 | [],_=>rfl
 | a::r,hh=>by simp only [List.map_cons,bT,hh a List.mem_cons_self,iC λ x hx=>hh x (List.mem_cons_of_mem _ hx)]
end D
end
section
namespace D
open PySem PySem.Spec PyProof.Rows L2
abbrev Tb:Type:=Str×Stmt
noncomputable def Tb.x (t:Tb):Str:=match t.2 with
 | .FunctionDef n _ _ _ _ _ _ _ _ _=>n
 | _=>""
noncomputable def Tb.ps (t:Tb):List Str:=(d9 t.2).args.map (·.arg)
noncomputable def Tb.nm (t:Tb):List (Str×NameKind):=(aP t.2).names
noncomputable def Tb.N (t:Tb):List Str:=
 let a:=t.ps++(t.nm.filter λ p=>(p.2==.local||p.2==.cell)&&!t.ps.contains p.1).map (·.1)
 a++((aP t.2).more.filterMap λ p=>if p.1=("fast":Str) then (match p.2 with
  | .str x=>some x
  | _=>none) else none).filter λ x=>!a.contains x
noncomputable def CI:ScopeKind->Bool
 | .function=>true
 | _=>false
noncomputable def Tb.sc (t:Tb):Bool:=CI (aP t.2).kind&&!(aP t.2).isCoroutine&&!(aP t.2).isGenerator&&decide t.N.Nodup&&t.N.take t.ps.length==t.ps&&t.ps.all (λ x=>t.nm.lookup x==some .local||t.nm.lookup x==some .cell)&&t.nm.all λ y=>y.2 != .free
section
variable (K:PySem.W.Frag) (p:Pg) (fns:List (Str×(Nat×Nat))) (gl:List (Str×W)) (fz:List Pos) (T:List Tb)
noncomputable def Tb.a (t:Tb):Addr:=match (if t.1=("":Str) then PySem.W.nsIn K mainGlobals t.x else PySem.W.findIn K (.ref (aL K t.1)) t.x) with
 | some (some (.ref f))=>f
 | _=>0
noncomputable def Tb.get {α:Type} (t:Tb) (f:FuncData->α) (d:α):α:=match K.lookup (t.a K) with
 | some o=>match o.data with
  | .func g=>f g
  | _=>d
 | none=>d
noncomputable def Tb.fd (t:Tb):FuncData:=PySem.W.fnOf t.x (t.get K (·.qualname) "") (d9 t.2) (cy t.2) (aP t.2) .none .none .none (t.get K (·.pyModule) .none) none (t.get K (·.code) .none) .none
noncomputable def isR (o:Option (Option Value)) (f:Addr):Bool:=match o with
 | some (some (.ref g))=>g==f
 | _=>false
noncomputable def isN (o:Option (Option Value)):Bool:=match o with
 | some none=>true
 | _=>false
noncomputable def isA (o:Option (Option Value)):Bool:=match o with
 | some (some (.builtin b))=>b=="object.__setattr__"
 | _=>false
noncomputable def isG (o:Option (Option Value)) (w:W):Bool:=match o with
 | some (some (.int i _))=>(match w with
  | .int j=>i==j
  | _=>false)
 | some (some (.str i _))=>(match w with
  | .str j=>i==j
  | _=>false)
 | _=>false
noncomputable def clB (C:Addr):Bool:=PySem.W.plainGet K C Str.empty&&PySem.W.hasDictIn K C&&PySem.W.plainOver K C&&isA (PySem.W.findIn K (.ref C) "__setattr__")
noncomputable def AN:Value->Tok
 | .int _ t=>t
 | .str _ t=>t
 | _=>0
noncomputable def vOf (w:W) (t:Tok):Value:=match w with
 | .int i=>.int i t
 | .str x=>.str x t
 | _=>.none
noncomputable def vV:W->V
 | .int i=>.int i
 | .str x=>.str x
 | _=>.non
noncomputable def okC:W->Bool
 | .int _=>true
 | .str _=>true
 | _=>false
noncomputable def dEs (x:Str):Array DictEntry×Nat:=match K.lookup (aL K x) with
 | some o=>match o.data with
  | .dict es n=>(es,n)
  | _=>(#[],0)
 | none=>(#[],0)
noncomputable def lQ (P:Params):List (Str×W)->List DictEntry->List DictEntry
 | kv::r,e::es=>⟨PyData.keyHash P kv.1,.str kv.1 (AN e.key),vOf kv.2 (AN e.val)⟩::lQ P r es
 | _,_=>[]
noncomputable def CJ (P:Params) (y:Str×List (Str×W)):Obj:=⟨.type "dict",none,.dict (lQ P y.2 (dEs K y.1).1.toList).toArray (dEs K y.1).2,#[]⟩
noncomputable def tAt (i:Nat) (x:Str) (q:Tb->Bool):Bool:=match T[i]? with
 | some t=>t.x==x&&q t
 | none=>false
noncomputable def chk:Bool:=
 (ie.all λ x=>isN (PySem.W.nsIn K mainGlobals x))&&(gl.all λ y=>isG (PySem.W.nsIn K mainGlobals y.1) y.2) &&
 (fns.all λ y=>tAt T y.2.1 y.1 λ t=>t.ps.length==y.2.2&&isR (PySem.W.nsIn K mainGlobals y.1) (t.a K)) &&
 (p.cs.mths.all λ y=>clB K (aL K y.1.1)&&tAt T y.2 y.1.2 λ t=>isR (PySem.W.findIn K (.ref (aL K y.1.1)) y.1.2) (t.a K)&&PySem.W.isFn K (.ref (t.a K))) &&
 (p.cs.ini.all λ y=>PySem.W.makesIn K (aL K y.1)&&PySem.W.keepIn K (.ref (aL K y.1))&&isR (PySem.W.nsIn K mainGlobals y.1) (aL K y.1)&&tAt T y.2 "__init__" λ t=>isR (PySem.W.findIn K (.ref (aL K y.1)) "__init__") (t.a K)&&PySem.W.isFn K (.ref (t.a K))) &&
 (p.cs.flds.all λ y=>clB K (aL K y.1)&&isN (PySem.W.findIn K (.ref (aL K y.1)) y.2)) &&
 (p.cs.dic.all λ y=>isR (PySem.W.nsIn K mainGlobals y.1) (aL K y.1)&&y.2.all (λ kv=>okC kv.2)&&y.2.length==(dEs K y.1).1.toList.length&&!(aL K y.1==sysModules)) &&
 T.all λ t=>PySem.W.keepIn K (.ref (t.a K))&&PySem.W.codeIn K (t.fd K).code (t.fd K).qualname
structure Stat:Prop where
 c:T.map (λ t=>(cSs (cS 60 ⟨t.N,t.nm,fns,gl,p.cs,fz⟩) (cy t.2)).map (Fn.mk t.ps.length t.N.length))=p.fns.map some
 s:T.all Tb.sc=true
 b:T.map (λ t q pm cd (f:Nat->Value)=>bindArgs (PySem.W.fnOf t.x q (d9 t.2) (cy t.2) (aP t.2) .none .none .none pm none cd .none) ⟨(List.range t.ps.length).map f,[]⟩)=T.map λ t q pm cd f=>pure (t.ps.zip ((List.range t.ps.length).map f))
end
variable {K:PySem.W.Frag} {p:Pg} {fns:List (Str×(Nat×Nat))} {gl:List (Str×W)} {fz:List Pos} {T:List Tb}
theorem nU {α β:Type} {f g:α->β} {l:List α} (h:l.map f=l.map g) {i:Nat} {x:α} (hx:l[i]?=some x):f x=g x:=by
 have e:=congrArg (λ l=>l[i]?) h
 simpa [hx] using e
theorem fY {o:Option (Option Value)} {f:Addr} (h:isR o f=true):o=some (some (.ref f)):=by
 unfold isR at h
 split at h
 ·rw [eq_of_beq h]
 ·cases h
theorem uy {o:Option (Option Value)} (h:isN o=true):o=some none:=by
 unfold isN at h
 split at h
 ·rfl
 ·cases h
theorem AO {o:Option (Option Value)} (h:isA o=true):o=some (some (.builtin "object.__setattr__")):=by
 unfold isA at h
 split at h
 ·rw [eq_of_beq h]
 ·cases h
theorem uz {C:Addr} (h:clB K C=true):Cls K C:=by
 simp only [clB,Bool.and_eq_true] at h
 exact ⟨h.1.1.1,h.1.1.2,h.1.2,AO h.2⟩
theorem j7 {i:Nat} {x:Str} {q:Tb->Bool} (h:tAt T i x q=true):∃t,T[i]?=some t/\t.x=x/\q t=true:=by
 unfold tAt at h
 split at h
 ·rename_i t e
  rw [Bool.and_eq_true] at h
  exact ⟨t,e,eq_of_beq h.1,h.2⟩
 ·cases h
theorem uA (us:List Value):(List.range us.length).map (λ i=>us.getD i .none)=us:=by
 apply List.ext_getElem
 ·simp
 ·intro i h1 h2
  simp [List.getD,h2]
theorem yk (S:Stat p fns gl fz T) {i:Nat} {t:Tb} (ht:T[i]?=some t) {us:List Value} (hl:us.length=t.ps.length):bindArgs (t.fd K) ⟨us,[]⟩=pure (t.ps.zip us):=by
 have z:=congrFun (congrFun (congrFun (congrFun (nU S.b ht) (t.get K (·.qualname) "")) (t.get K (·.pyModule) .none)) (t.get K (·.code) .none)) (λ i=>us.getD i .none)
 rw [<-hl,uA] at z
 exact z
theorem pD (S:Stat p fns gl fz T) (hf:T.map (λ t=>(K.lookup (t.a K)).map Obj.data)=T.map λ t=>some (.func (t.fd K))) (hk:T.all (λ t=>PySem.W.keepIn K (.ref (t.a K))&&PySem.W.codeIn K (t.fd K).code (t.fd K).qualname)=true)
  {i:Nat} {t:Tb} (ht:T[i]?=some t):FD K p fns gl fz i t.x (t.a K) (t.fd K) t.ps:=by
 have hm:=List.mem_of_getElem? ht
 have k:=List.all_eq_true.mp hk t hm
 rw [Bool.and_eq_true] at k
 have e:=nU hf ht
 rw [Option.map_eq_some_iff] at e
 obtain ⟨o,e1,e2⟩:=e
 obtain ⟨oc,od,da,osl⟩:=o
 cases e2
 have F:=zC (st:=t.2) e1 k.2 k.1
 have s:=List.all_eq_true.mp S.s t hm
 simp only [Tb.sc,Bool.and_eq_true,Bool.not_eq_true',decide_eq_true_eq,List.all_eq_true,Bool.or_eq_true,beq_iff_eq,bne_iff_ne] at s
 have c:(cSs (cS 60 ⟨t.N,t.nm,fns,gl,p.cs,fz⟩) (cy t.2)).map (Fn.mk t.ps.length t.N.length)=p.fns[i]?:=by
  have z:=congrArg (λ l=>l[i]?) S.c
  simp only [List.getElem?_map,ht,Option.map_some] at z
  cases hp:p.fns[i]? with
  | none=>rw [hp] at z; cases z
  | some d=>rw [hp] at z; exact Option.some.inj z
 have hi:i < p.fns.length:=by
  have z:=congrArg List.length S.c
  simp only [List.length_map] at z
  have:=(List.getElem?_eq_some_iff.mp ht).1
  omega
 rw [List.getElem?_eq_getElem hi,Option.map_eq_some_iff] at c
 obtain ⟨b,c1,c2⟩:=c
 refine ⟨_,t.2,t.N,b,F,⟨?_,s.1.1.1.1.1.2,s.1.1.1.1.2,s.1.1.1.2,s.1.1.2,s.1.2,s.2⟩,c1,by rw [List.getElem?_eq_getElem hi,<-c2],Binds.all λ us hl=>?_⟩
 ·have z:=s.1.1.1.1.1.1
  unfold CI at z
  split at z
  ·assumption
  ·cases z
 ·exact yk S ht hl
theorem lR {P:Params}:∀(kvs:List (Str×W)) (es:List DictEntry),PySem.W.KeysLit P (lQ P kvs es)
 | [],_=>by unfold lQ; rw [PySem.W.KeysLit.eq_def]; trivial
 | _::_,[]=>by unfold lQ; rw [PySem.W.KeysLit.eq_def]; trivial
 | kv::r,e::es=>by
  unfold lQ
  rw [PySem.W.KeysLit.eq_def]
  exact ⟨⟨_,_,rfl,rfl⟩,lR r es⟩
theorem lT {P:Params} {x:Str}:∀(kvs:List (Str×W)) (es:List DictEntry),kvs.length=es.length->kvs.all (λ kv=>okC kv.2)=true->cU ((kvs.map λ kv=>(kv.1,vV kv.2)).lookup x) (((lQ P kvs es).find? λ e=>Value.isStrOf x e.key).map (·.val))
 | [],[],_,_=>trivial
 | [],_::_,h,_=>by simp at h
 | _::_,[],h,_=>by simp at h
 | (k,w)::r,e::es,h,hc=>by
  rw [List.all_cons,Bool.and_eq_true] at hc
  have ih:=lT (P:=P) (x:=x) r es (by simpa using h) hc.2
  unfold lQ
  rw [List.map_cons,List.lookup_cons,List.find?_cons]
  have e1:Value.isStrOf x (Value.str k (AN e.key))=(k==x):=rfl
  simp only [e1]
  by_cases hk:k=x
  ·subst hk
   simp only [BEq.rfl,Option.map_some]
   cases w<;>first | exact ⟨_,rfl⟩ | cases hc.1
  ·have h1:(x==k)=false:=by simpa using λ e=>hk e.symm
   have h2:(k==x)=false:=by simpa using hk
   rw [h1,h2]
   exact ih
theorem yl {K:PySem.W.Frag} {β:List Addr} {H:Hp}:∀(kvs:List (Str×W)),kvs.all (λ kv=>okC kv.2)=true->RFs K β H kvs (kvs.map λ kv=>(kv.1,vV kv.2))
 | [],_=>.nil
 | (k,w)::r,hc=>by
  rw [List.all_cons,Bool.and_eq_true] at hc
  refine .cons ?_ (yl r hc.2)
  cases w<;>first | exact .int _ | exact .str _ | cases hc.1
theorem CK {h:Heap} {w:World} (hdc:p.cs.dic.map (λ y=>K.lookup (aL K y.1))=p.cs.dic.map λ y=>some (CJ K w.params y)) {mg:Str->Option Value} (X:K.In h) (G:h.Ns mainGlobals mg) (S:Stat p fns gl fz T) (hf:T.map (λ t=>(K.lookup (t.a K)).map Obj.data)=T.map λ t=>some (.func (t.fd K))) (hc:chk K p fns gl T=true):FA K w mg p fns gl fz:=by
 simp only [chk,Bool.and_eq_true] at hc
 obtain ⟨⟨⟨⟨⟨⟨⟨c1,c2⟩,c3⟩,c4⟩,c5⟩,c6⟩,c8⟩,c7⟩:=hc
 have c7:T.all (λ t=>PySem.W.keepIn K (.ref (t.a K))&&PySem.W.codeIn K (t.fd K).code (t.fd K).qualname)=true:=c7
 rw [List.all_eq_true] at c1 c2 c3 c4 c5 c6 c8
 have kp:∀{i:Nat} {t:Tb},T[i]?=some t->PySem.W.keepIn K (.ref (t.a K))=true:=λ ht=>(Bool.and_eq_true_iff.mp (List.all_eq_true.mp c7 _ (List.mem_of_getElem? ht))).1
 refine ⟨λ x hx=>PySem.W.mg_none_of X G (uy (c1 x hx)),λ {x w} hx=>?_,λ {x i np} hx=>?_,λ {c x i} hx=>?_,λ {c i} hx=>?_,λ {c x} hx=>?_,λ {x kvs} hx=>?_⟩
 ·have z:=c2 _ (lookup_mem hx)
  unfold isG at z
  split at z
  ·rename_i i t e
   split at z
   ·rename_i j ej
    cases ej
    cases eq_of_beq z; exact ⟨_,.int _,PySem.W.mg_of X G e,⟨_,rfl⟩,λ _ _=>.int _⟩
   ·cases z
  ·rename_i i t e
   split at z
   ·rename_i j ej
    cases ej
    cases eq_of_beq z; exact ⟨_,.str _,PySem.W.mg_of X G e,⟨_,rfl⟩,λ _ _=>.str _⟩
   ·cases z
  ·cases z
 ·obtain ⟨t,e1,rfl,e3⟩:=j7 (c3 _ (lookup_mem hx))
  rw [Bool.and_eq_true] at e3
  exact ⟨t.a K,_,t.ps,eq_of_beq e3.1,pD S hf c7 e1,PySem.W.mg_of X G (fY e3.2)⟩
 ·have z:=c4 _ (lJ hx)
  rw [Bool.and_eq_true] at z
  obtain ⟨t,e1,rfl,e3⟩:=j7 z.2
  rw [Bool.and_eq_true] at e3
  exact ⟨t.a K,_,t.ps,pD S hf c7 e1,uz z.1,fY e3.1,e3.2,kp e1⟩
 ·have z:=c5 _ (lookup_mem hx)
  simp only [Bool.and_eq_true] at z
  obtain ⟨t,e1,e2,e3⟩:=j7 z.2
  rw [Bool.and_eq_true] at e3
  exact ⟨t.a K,_,t.ps,e2▸pD S hf c7 e1,⟨z.1.1.1,fY e3.1,e3.2,z.1.1.2⟩,PySem.W.mg_of X G (fY z.1.2)⟩
 ·have z:=c6 _ (List.contains_iff_mem.mp hx)
  rw [Bool.and_eq_true] at z
  exact ⟨uz z.1,uy z.2⟩
 ·have hm:=lookup_mem hx
  have z:=c8 _ hm
  simp only [Bool.and_eq_true,beq_iff_eq,Bool.not_eq_true'] at z
  obtain ⟨⟨⟨z1,z2⟩,z3⟩,z4⟩:=z
  obtain ⟨i,hi⟩:=List.getElem?_of_mem hm
  have e:=nU hdc hi
  refine ⟨aL K x,kvs.map λ kv=>(kv.1,vV kv.2),PySem.W.mg_of X G (fY z1),⟨⟨_,_,e,?_,λ y=>?_⟩,z4⟩,fun β H=>yl kvs z2⟩
  ·exact lR _ _
  ·unfold findBy
   rw [List.find?_toArray]
   exact lT kvs _ z3 z2
theorem CL {l:PySem.W.OpenLaw} {w:World} {h:Heap} {mg:Str->Option Value} {fa:Addr} {i:Nat} {x:Str} {t:Tb} (X:K.In h) (G:h.Ns mainGlobals mg) (hfa:mg "law"=some (.ref fa)) (S:Stat p fns gl fz T) (hi:fns.lookup ("law":Str)=some (i,1)) (ht:T[i]?=some t) (hx:t.ps=[x])
  (hf:T.map (λ t=>(K.lookup (t.a K)).map Obj.data)=T.map λ t=>some (.func (t.fd K))) (hc:chk K p fns gl T=true) (hdc:p.cs.dic.map (λ y=>K.lookup (aL K y.1))=p.cs.dic.map λ y=>some (CJ K w.params y)) :
  ∃fd:FuncData,(∀(s:Shared) (v:Value),BindsTo s fd ⟨[v],[]⟩ [(x,v)])/\∀base:Heap,K.In base->base.Ns mainGlobals mg->cV l.prog w K mg base CX0 80 fa fd [x] (spD K ⟨l.prog,w⟩ 1 (runN p 40 i)):=by
 have hc':=hc
 simp only [chk,Bool.and_eq_true] at hc'
 obtain ⟨⟨⟨⟨⟨⟨⟨c1,c2⟩,c3⟩,c4⟩,c5⟩,c6⟩,c8⟩,c7⟩:=hc'
 obtain ⟨t',e1,e2,e3⟩:=j7 (List.all_eq_true.mp c3 _ (lookup_mem hi))
 cases ht.symm.trans e1
 rw [Bool.and_eq_true] at e3
 cases hfa.symm.trans (PySem.W.mg_of X G (fY e3.2))
 have z:=pD S hf c7 ht
 rw [hx] at z
 refine ⟨t.fd K,λ s v=>.of_eq ?_,λ base _ _=>sound (CK hdc X G S hf hc) 40 z⟩
 have z:=yk (K:=K) S ht (us:=[v]) (by rw [hx]; rfl)
 rw [hx] at z
 exact z
end D
end
section
namespace My
open PySem L2 D
noncomputable def dk0:List (Str×W):=[("wire",(.int 2)),("made",(.int 2)),("broken",(.int 2)),("swap",(.int 3)),("coil",(.int 2)),("lamp",(.int 2))]
noncomputable def b0:Ss:=(.cons (.expr (.call 7 (.cons (.var 1) (.cons (.var 2) (.cons (.var 3) (.cons (.var 4) (.cons (.var 5) (.cons (.var 6) .nil)))))))) (.cons (.fas (.var 0) "key_list" (.frz (.blt .list (.cons (.var 1) .nil)))) (.cons (.fas (.var 0) "relay_list" (.frz (.blt .list (.cons (.var 2) .nil)))) (.cons (.fas (.var 0) "lamp_list" (.frz (.blt .list (.cons (.var 3) .nil)))) (.cons (.fas (.var 0) "many_nodes" (.var 4)) (.cons (.fas (.var 0) "piece_list" (.frz (.blt .list (.cons (.var 5) .nil)))) (.cons (.fas (.var 0) "time_list" (.frz (.blt .list (.cons (.var 6) .nil)))) .nil)))))))
noncomputable def b1:Ss:=(.cons (.ret (.blt .list (.cons (.fld (.var 0) "key_list") .nil))) .nil)
noncomputable def b2:Ss:=(.cons (.ret (.blt .list (.cons (.fld (.var 0) "relay_list") .nil))) .nil)
noncomputable def b3:Ss:=(.cons (.ret (.blt .list (.cons (.fld (.var 0) "lamp_list") .nil))) .nil)
noncomputable def b4:Ss:=(.cons (.ret (.fld (.var 0) "many_nodes")) .nil)
noncomputable def b5:Ss:=(.cons (.ret (.blt .list (.cons (.fld (.var 0) "piece_list") .nil))) .nil)
noncomputable def b6:Ss:=(.cons (.ret (.blt .list (.cons (.fld (.var 0) "time_list") .nil))) .nil)
noncomputable def b7:Ss:=(.cons (.expr (.call 8 (.cons (.var 0) (.cons (.var 1) (.cons (.var 2) .nil))))) (.cons (.expr (.call 11 (.cons (.var 0) (.cons (.var 1) (.cons (.var 2) .nil))))) (.cons (.expr (.call 12 (.cons (.var 3) (.cons (.blt .len (.cons (.var 4) .nil)) .nil)))) (.cons (.expr (.call 13 (.cons (.var 0) (.cons (.var 1) (.cons (.var 2) (.cons (.var 3) (.cons (.var 4) .nil))))))) (.cons (.expr (.call 18 (.cons (.cst (.str "coil")) (.cons (.var 1) (.cons (.var 4) .nil))))) (.cons (.expr (.call 18 (.cons (.cst (.str "lamp")) (.cons (.var 2) (.cons (.var 4) .nil))))) (.cons (.expr (.call 19 (.cons (.var 1) (.cons (.var 5) .nil)))) .nil)))))))
noncomputable def b8:Ss:=(.cons (.asg (.pt (.var 3)) (.call 9 (.cons (.frz (.bin .Add (.frz (.bin .Add (.var 0) (.var 1))) (.var 2))) .nil))) (.cons (.ife (.cmp .IsNot (.var 3) (.cst .non)) (.cons .never .nil) .nil) .nil))
noncomputable def AQ:Ss:=(.cons (.ife (.or (.not (.call 10 (.cons (.var 3) .nil))) (.cmp .In (.var 3) (.var 1))) (.cons (.ret (.var 2)) .nil) .nil) (.cons (.expr (.meth (.var 1) "add" (.cons (.var 3) .nil))) .nil))
noncomputable def b9:Ss:=(.cons (.asg (.pt (.var 1)) .set0) (.cons (.for_ (.tup (.cons (.var 2) (.cons (.var 3) .nil))) (.enm (.var 0)) AQ) (.cons (.ret (.cst .non)) .nil)))
noncomputable def b10:Ss:=(.cons (.ret (.and (.chain .LtE .LtE (.cst (.int 1)) (.blt .len (.cons (.var 0) .nil)) (.cst (.int 8))) (.blt .all (.cons (.frz (.comp (.gen (.var 1) [1] (.var 0) .nil (.elt (.chain .LtE .LtE (.cst (.str "a")) (.var 1) (.cst (.str "z"))))))) .nil)))) .nil)
noncomputable def lU:Ss:=(.cons (.ife (.cmp .Gt (.blt .len (.cons (.var 5) .nil)) (.var 6)) (.cons .never .nil) .nil) .nil)
noncomputable def b11:Ss:=(.cons (.asg (.pt (.var 3)) (.tup (.cons (.tup (.cons (.var 0) (.cons (.cst (.int 2)) .nil))) (.cons (.tup (.cons (.var 1) (.cons (.cst (.int 4)) .nil))) (.cons (.tup (.cons (.var 2) (.cons (.cst (.int 2)) .nil))) .nil))))) (.cons (.for_ (.tup (.cons (.var 4) (.cons (.tup (.cons (.var 5) (.cons (.var 6) .nil))) .nil))) (.enm (.var 3)) lU) .nil))
noncomputable def b12:Ss:=(.cons (.ife (.not (.chain .LtE .LtE (.cst (.int 2)) (.var 0) (.cst (.int 640)))) (.cons .never .nil) .nil) (.cons (.ife (.cmp .Gt (.var 1) (.cst (.int 800))) (.cons .never .nil) .nil) .nil))
noncomputable def uB:Ss:=(.cons (.ife (.not (.call 14 (.cons (.var 8) (.cons (.var 6) (.cons (.var 3) .nil))))) (.cons .never .nil) .nil) .nil)
noncomputable def b13:Ss:=(.cons (.asg (.pt (.var 5)) (.frz (.bin .Add (.var 0) (.var 1)))) (.cons (.asg (.pt (.var 6)) (.fus (.dict ["made","broken","swap","coil","lamp"]) (.tup (.cons (.var 5) (.cons (.var 5) (.cons (.var 5) (.cons (.var 1) (.cons (.var 2) .nil)))))))) (.cons (.for_ (.tup (.cons (.var 7) (.cons (.var 8) .nil))) (.enm (.var 4)) uB) .nil)))
noncomputable def b14:Ss:=(.cons (.ife (.or (.not (.var 0)) (.fus (.knin dk0) (.idx (.var 0) (.cst (.int 0))))) (.cons (.ret (.cst (.bl false))) .nil) .nil) (.cons (.asg (.pt (.var 3)) (.idx (.var 0) (.cst (.int 0)))) (.cons (.ife (.and (.cmp .In (.var 3) (.var 1)) (.or (.cmp .Lt (.blt .len (.cons (.var 0) .nil)) (.cst (.int 2))) (.cmp .NotIn (.idx (.var 0) (.cst (.int 1))) (.idx (.var 1) (.var 3))))) (.cons (.ret (.cst (.bl false))) .nil) .nil) (.cons (.asg (.pt (.var 4)) (.call 15 (.cons (.var 0) .nil))) (.cons (.ret (.and (.cmp .Eq (.blt .len (.cons (.var 4) .nil)) (.fus (.kget dk0) (.var 3))) (.call 16 (.cons (.var 4) (.cons (.var 2) .nil))))) .nil)))))
noncomputable def b15:Ss:=(.cons (.ret (.ife (.cmp .Eq (.idx (.var 0) (.cst (.int 0))) (.cst (.str "wire"))) (.slc (.var 0) (.some (.cst (.int 1))) .none) (.slc (.var 0) (.some (.cst (.int 2))) .none))) .nil)
noncomputable def b16:Ss:=(.cons (.ret (.and (.blt .all (.cons (.frz (.comp (.gen (.var 2) [2] (.var 0) .nil (.elt (.and (.call 17 (.cons (.var 2) .nil)) (.chain .LtE .Lt (.cst (.int 0)) (.var 2) (.var 1))))))) .nil)) (.cmp .Eq (.fus .gm (.var 0)) (.blt .len (.cons (.var 0) .nil))))) .nil)
noncomputable def b17:Ss:=(.cons (.ret (.and (.isI (.var 0) "int") (.not (.isI (.var 0) "bool")))) .nil)
noncomputable def uC:Ss:=(.cons (.ife (.cmp .NotEq (.meth (.var 3) "count" (.cons (.var 5) .nil)) (.cst (.int 1))) (.cons .never .nil) .nil) .nil)
noncomputable def b18:Ss:=(.cons (.asg (.pt (.var 3)) (.comp (.gen (.var 6) [6] (.var 2) (.cons (.cmp .Eq (.idx (.var 6) (.cst (.int 0))) (.var 0)) .nil) (.elt (.idx (.var 6) (.cst (.int 1))))))) (.cons (.for_ (.tup (.cons (.var 4) (.cons (.var 5) .nil))) (.enm (.var 1)) uC) .nil))
noncomputable def uD:Ss:=(.cons (.ife (.not (.call 20 (.cons (.var 3) .nil))) (.cons .never .nil) .nil) .nil)
noncomputable def b19:Ss:=(.cons (.for_ (.tup (.cons (.var 2) (.cons (.var 3) .nil))) (.enm (.slc (.var 1) .none (.some (.blt .len (.cons (.var 0) .nil))))) uD) (.cons (.ife (.cmp .NotEq (.blt .len (.cons (.var 1) .nil)) (.blt .len (.cons (.var 0) .nil))) (.cons .never .nil) .nil) .nil))
noncomputable def b20:Ss:=(.cons (.ife (.or (.cmp .NotEq (.blt .len (.cons (.var 0) .nil)) (.cst (.int 4))) (.not (.blt .all (.cons (.frz (.comp (.gen (.var 1) [1] (.var 0) .nil (.elt (.chain .LtE .LtE (.cst (.int 1)) (.var 1) (.cst (.int 4))))))) .nil)))) (.cons (.ret (.cst (.bl false))) .nil) .nil) (.cons (.ret (.and (.cmp .LtE (.idx (.var 0) (.cst (.int 0))) (.idx (.var 0) (.cst (.int 1)))) (.cmp .LtE (.idx (.var 0) (.cst (.int 2))) (.idx (.var 0) (.cst (.int 3)))))) .nil))
noncomputable def b21:Ss:=(.cons (.asg (.pt (.var 2)) (.cst (.int 0))) (.cons (.ife (.cmp .Lt (.var 1) (.blt .len (.cons (.var 0) .nil))) (.cons (.asg (.pt (.var 2)) (.idx (.var 0) (.var 1))) .nil) .nil) (.cons (.ret (.lst (.cons (.blt .max (.cons (.cst (.int 0)) (.cons (.bin .Sub (.var 2) (.bin .Pow (.cst (.int 10)) (.cst (.int 18)))) .nil))) (.cons (.bin .Add (.bin .Mod (.bin .Add (.bin .Add (.blt .abs (.cons (.var 2) .nil)) (.bin .Mult (.cst (.int 7919)) (.var 1))) (.cst (.int 31))) (.cst (.int 2147483646))) (.cst (.int 1))) .nil)))) .nil)))
noncomputable def b22:Ss:=(.cons (.ife (.cmp .Gt (.idx (.var 0) (.cst (.int 0))) (.cst (.int 0))) (.cons (.asg (.tup (.cons (.sub (.var 0) (.cst (.int 0))) (.cons (.pt (.var 2)) .nil))) (.blt .divmod (.cons (.idx (.var 0) (.cst (.int 0))) (.cons (.var 1) .nil)))) (.cons (.ret (.var 2)) .nil)) .nil) (.cons (.asg (.sub (.var 0) (.cst (.int 1))) (.bin .Mod (.bin .Mult (.idx (.var 0) (.cst (.int 1))) (.cst (.int 48271))) (.cst (.int 2147483647)))) (.cons (.ret (.bin .Mod (.bin .FloorDiv (.bin .Mod (.bin .Mult (.idx (.var 0) (.cst (.int 1))) (.idx (.var 0) (.cst (.int 1)))) (.cst (.int 2147483629))) (.cst (.int 7))) (.var 1))) .nil)))
noncomputable def b23:Ss:=(.cons (.asg (.pt (.var 2)) (.cst (.str "abcdefghijklmnopqrstuvwxyz"))) (.cons (.asg (.pt (.var 3)) (.call 22 (.cons (.var 0) (.cons (.cst (.int 8)) .nil)))) (.cons (.ife (.cmp .Eq (.var 3) (.cst (.int 7))) (.cons (.asg (.pt (.var 4)) (.idx (.frz (.lst (.cons (.cst (.str "keys")) (.cons (.cst (.str "relay")) (.cons (.cst (.str "lamps")) (.cons (.cst (.str "nodes")) (.cons (.cst (.str "wire")) (.cons (.cst (.str "made")) (.cons (.cst (.str "broken")) (.cons (.cst (.str "swap")) (.cons (.cst (.str "coil")) (.cons (.cst (.str "lamp")) .nil)))))))))))) (.call 22 (.cons (.var 0) (.cons (.cst (.int 10)) .nil))))) .nil) (.cons (.asg (.pt (.var 5)) (.bin .Add (.cst (.int 1)) (.bin .Mult (.bin .Mod (.var 3) (.cst (.int 2))) (.call 22 (.cons (.var 0) (.cons (.cst (.int 8)) .nil)))))) (.cons (.asg (.pt (.var 4)) (.meth (.cst (.str "")) "join" (.cons (.frz (.comp (.gen (.var 6) [6] (.rng (.var 5)) .nil (.elt (.idx (.var 2) (.call 22 (.cons (.var 0) (.cons (.cst (.int 26)) .nil)))))))) .nil))) .nil))) (.cons (.ife (.cmp .In (.var 4) (.var 1)) (.cons (.asg (.pt (.var 4)) (.idx (.frz (.comp (.gen (.var 7) [7] (.var 2) (.cons (.cmp .NotIn (.bin .Add (.slc (.var 4) .none (.some (.cst (.int 7)))) (.var 7)) (.var 1)) .nil) (.elt (.bin .Add (.slc (.var 4) .none (.some (.cst (.int 7)))) (.var 7)))))) (.cst (.int 0)))) .nil) .nil) (.cons (.expr (.meth (.var 1) "append" (.cons (.var 4) .nil))) (.cons (.ret (.var 4)) .nil))))))
noncomputable def b24:Ss:=(.cons (.asg (.pt (.var 3)) (.lrng (.var 1))) (.cons (.ret (.blt .tuple (.cons (.frz (.comp (.gen (.var 4) [4] (.rng (.var 2)) .nil (.elt (.meth (.var 3) "pop" (.cons (.call 22 (.cons (.var 0) (.cons (.blt .len (.cons (.var 3) .nil)) .nil))) .nil)))))) .nil))) .nil))
noncomputable def b25:Ss:=(.cons (.asg (.pt (.var 3)) (.call 22 (.cons (.var 0) (.cons (.cst (.int 4)) .nil)))) (.cons (.ife (.or (.cmp .Eq (.var 3) (.cst (.int 0))) (.cmp .Eq (.var 1) (.frz (.lst .nil)))) (.cons (.ret (.bin .Add (.tup (.cons (.cst (.str "wire")) .nil)) (.frz (.call 24 (.cons (.var 0) (.cons (.var 2) (.cons (.cst (.int 2)) .nil))))))) .nil) .nil) (.cons (.asg (.pt (.var 4)) (.idx (.var 1) (.call 22 (.cons (.var 0) (.cons (.blt .len (.cons (.var 1) .nil)) .nil))))) (.cons (.ife (.and (.cmp .Eq (.var 3) (.cst (.int 3))) (.cmp .Gt (.var 2) (.cst (.int 2)))) (.cons (.ret (.bin .Add (.tup (.cons (.cst (.str "swap")) (.cons (.var 4) .nil))) (.frz (.call 24 (.cons (.var 0) (.cons (.var 2) (.cons (.cst (.int 3)) .nil))))))) .nil) .nil) (.cons (.ret (.bin .Add (.tup (.cons (.idx (.frz (.lst (.cons (.cst (.str "made")) (.cons (.cst (.str "broken")) .nil)))) (.bin .Mod (.var 3) (.cst (.int 2)))) (.cons (.var 4) .nil))) (.frz (.call 24 (.cons (.var 0) (.cons (.var 2) (.cons (.cst (.int 2)) .nil))))))) .nil)))))
noncomputable def b26:Ss:=(.cons (.asg (.pt (.tup (.cons (.var 1) (.cons (.var 2) .nil)))) (.tup (.cons (.bin .Add (.cst (.int 1)) (.call 22 (.cons (.var 0) (.cons (.cst (.int 4)) .nil)))) (.cons (.bin .Add (.cst (.int 1)) (.call 22 (.cons (.var 0) (.cons (.cst (.int 4)) .nil)))) .nil)))) (.cons (.ret (.tup (.cons (.var 1) (.cons (.bin .Add (.var 1) (.call 22 (.cons (.var 0) (.cons (.bin .Sub (.cst (.int 5)) (.var 1)) .nil)))) (.cons (.var 2) (.cons (.bin .Add (.var 2) (.call 22 (.cons (.var 0) (.cons (.bin .Sub (.cst (.int 5)) (.var 2)) .nil)))) .nil)))))) .nil))
noncomputable def ym:Ss:=(.cons (.expr (.meth (.var 7) "insert" (.cons (.call 22 (.cons (.var 0) (.cons (.bin .Add (.blt .len (.cons (.var 7) .nil)) (.cst (.int 1))) .nil))) (.cons (.bin .Add (.tup (.cons (.cst (.str "coil")) (.cons (.var 8) .nil))) (.frz (.call 24 (.cons (.var 0) (.cons (.var 6) (.cons (.cst (.int 2)) .nil)))))) .nil)))) .nil)
noncomputable def yo:Ss:=(.cons (.expr (.meth (.var 7) "insert" (.cons (.call 22 (.cons (.var 0) (.cons (.bin .Add (.blt .len (.cons (.var 7) .nil)) (.cst (.int 1))) .nil))) (.cons (.bin .Add (.tup (.cons (.cst (.str "lamp")) (.cons (.var 8) .nil))) (.frz (.call 24 (.cons (.var 0) (.cons (.var 6) (.cons (.cst (.int 2)) .nil)))))) .nil)))) .nil)
noncomputable def b27:Ss:=(.cons (.asg (.pt (.var 2)) (.lst .nil)) (.cons (.asg (.pt (.var 3)) (.frz (.comp (.gen (.var 9) [9] (.rng (.call 22 (.cons (.var 0) (.cons (.cst (.int 3)) .nil)))) .nil (.elt (.call 23 (.cons (.var 0) (.cons (.var 2) .nil)))))))) (.cons (.asg (.pt (.var 4)) (.frz (.comp (.gen (.var 9) [9] (.rng (.call 22 (.cons (.var 0) (.cons (.cst (.int 5)) .nil)))) .nil (.elt (.call 23 (.cons (.var 0) (.cons (.var 2) .nil)))))))) (.cons (.asg (.pt (.var 5)) (.frz (.comp (.gen (.var 9) [9] (.rng (.call 22 (.cons (.var 0) (.cons (.cst (.int 3)) .nil)))) .nil (.elt (.call 23 (.cons (.var 0) (.cons (.var 2) .nil)))))))) (.cons (.asg (.pt (.var 6)) (.bin .Add (.cst (.int 2)) (.call 22 (.cons (.var 0) (.cons (.cst (.int 11)) .nil))))) (.cons (.asg (.pt (.var 7)) (.comp (.gen (.var 9) [9] (.rng (.call 22 (.cons (.var 0) (.cons (.bin .Add (.var 1) (.cst (.int 1))) .nil)))) .nil (.elt (.call 25 (.cons (.var 0) (.cons (.frz (.bin .Add (.var 3) (.var 4))) (.cons (.var 6) .nil)))))))) (.cons (.for_ (.var 8) (.var 4) ym) (.cons (.for_ (.var 8) (.var 5) yo) (.cons (.ret (.lst (.cons (.var 3) (.cons (.var 4) (.cons (.var 5) (.cons (.var 6) (.cons (.var 7) (.cons (.frz (.comp (.gen (.var 8) [8] (.var 4) .nil (.elt (.call 26 (.cons (.var 0) .nil)))))) .nil)))))))) .nil)))))))))
noncomputable def b28:Ss:=(.cons (.asg (.tup (.cons (.pt (.var 1)) (.cons (.pt (.var 2)) (.cons (.pt (.var 3)) (.cons (.pt (.var 4)) (.cons (.pt (.var 5)) (.cons (.pt (.var 6)) .nil))))))) (.var 0)) (.cons (.ret (.lst (.cons (.blt .list (.cons (.var 1) .nil)) (.cons (.blt .list (.cons (.var 2) .nil)) (.cons (.blt .list (.cons (.var 3) .nil)) (.cons (.var 4) (.cons (.blt .list (.cons (.var 5) .nil)) (.cons (.blt .list (.cons (.var 6) .nil)) .nil)))))))) .nil))
noncomputable def b29:Ss:=(.cons (.ret (.make "Net" (.cons (.idx (.var 0) (.cst (.int 0))) (.cons (.idx (.var 0) (.cst (.int 1))) (.cons (.idx (.var 0) (.cst (.int 2))) (.cons (.idx (.var 0) (.cst (.int 3))) (.cons (.idx (.var 0) (.cst (.int 4))) (.cons (.idx (.var 0) (.cst (.int 5))) .nil)))))))) .nil)
noncomputable def b30:Ss:=(.cons (.ret (.lst (.cons (.mth (.var 0) "key_words" .nil) (.cons (.mth (.var 0) "relays" .nil) (.cons (.mth (.var 0) "lamps" .nil) (.cons (.mth (.var 0) "nodes" .nil) (.cons (.mth (.var 0) "pieces" .nil) (.cons (.mth (.var 0) "times" .nil) .nil)))))))) .nil)
noncomputable def CM:Ss:=(.cons (.expr (.meth (.var 3) "clear" .nil)) .nil)
noncomputable def CN:Ss:=(.cons (.expr (.meth (.var 3) "reverse" .nil)) (.cons (.expr (.meth (.var 3) "append" (.cons (.cst (.str "a")) .nil))) .nil))
noncomputable def b31:Ss:=(.cons (.asg (.pt (.var 2)) (.call 30 (.cons (.var 0) .nil))) (.cons (.ife (.cmp .NotEq (.blt .repr (.cons (.var 2) .nil)) (.blt .repr (.cons (.var 1) .nil))) (.cons (.ret (.cst (.bl false))) .nil) .nil) (.cons (.for_ (.var 3) (.frz (.bin .Add (.slc (.var 2) .none (.some (.cst (.int 3)))) (.slc (.var 2) (.some (.cst (.int 4))) .none))) CM) (.cons (.asg (.pt (.var 2)) (.call 30 (.cons (.var 0) .nil))) (.cons (.for_ (.var 3) (.frz (.bin .Add (.slc (.var 2) .none (.some (.cst (.int 3)))) (.slc (.var 2) (.some (.cst (.int 4))) .none))) CN) (.cons (.ret (.cst (.bl true))) .nil))))))
noncomputable def CO:Ss:=(.cons (.expr (.meth (.var 7) "clear" .nil)) .nil)
noncomputable def lV:Ss:=(.cons (.for_ (.var 7) (.frz (.bin .Add (.slc (.var 4) .none (.some (.cst (.int 3)))) (.slc (.var 4) (.some (.cst (.int 4))) .none))) CO) .nil)
noncomputable def lW:Ss:=(.cons (.ife (.not (.call 31 (.cons (.idx (.var 6) (.var 8)) (.cons (.idx (.var 3) (.var 8)) .nil)))) (.cons (.ret (.cst (.bl false))) .nil) .nil) .nil)
noncomputable def pF:Ss:=(.cons (.asg (.pt (.var 2)) (.call 21 (.cons (.var 0) (.cons (.var 1) .nil)))) (.cons (.asg (.pt (.var 3)) (.frz (.lst (.cons (.call 27 (.cons (.var 2) (.cons (.cst (.int 18)) .nil))) (.cons (.call 27 (.cons (.var 2) (.cons (.cst (.int 18)) .nil))) .nil))))) (.cons (.asg (.pt (.var 5)) (.comp (.gen (.var 4) [4] (.var 3) .nil (.elt (.call 28 (.cons (.var 4) .nil)))))) (.cons (.asg (.pt (.var 6)) (.frz (.comp (.gen (.var 4) [4] (.var 5) .nil (.elt (.call 29 (.cons (.var 4) .nil))))))) (.cons (.ife (.cmp .NotEq (.blt .repr (.cons (.var 5) .nil)) (.blt .repr (.cons (.var 3) .nil))) (.cons (.ret (.cst (.bl false))) .nil) .nil) (.cons (.for_ (.var 4) (.var 5) lV) (.cons (.for_ (.var 8) (.frz (.lst (.cons (.cst (.int 0)) (.cons (.cst (.int 1)) (.cons (.cst (.int 1)) (.cons (.cst (.int 0)) .nil)))))) lW) .nil)))))))
noncomputable def b32:Ss:=(.cons (.for_ (.var 1) (.rng (.blt .max (.cons (.cst (.int 1)) (.cons (.blt .min (.cons (.blt .len (.cons (.var 0) .nil)) (.cons (.cst (.int 8)) .nil))) .nil)))) pF) (.cons (.ret (.cst (.bl true))) .nil))
noncomputable def fe (x:Str) (i n:Nat):Str×(Nat×Nat):=(x,(i,n))
noncomputable def fns:List (Str×(Nat×Nat)):=[fe "check_net" 7 6,fe "check_words" 8 3,fe "first_wrong_word" 9 1,fe "is_word" 10 1,fe "check_many" 11 3,fe "check_sizes" 12 2,fe "check_pieces" 13 5,fe "is_piece" 14 3,fe "ends_of" 15 1,fe "are_unlike_nodes" 16 2,fe "is_whole" 17 1,fe "check_just_one" 18 3,fe "check_times" 19 2,fe "are_times" 20 1,fe "_law_pot" 21 2,fe "_law_take" 22 2,fe "_law_word" 23 2,fe "_law_unlike" 24 3,fe "_law_piece" 25 3,fe "_law_times" 26 1,fe "_law_net" 27 2,fe "_law_copy" 28 1,fe "_law_made" 29 1,fe "_law_told" 30 1,fe "_law_right" 31 2,fe "law" 32 1]
noncomputable def gl:List (Str×W):=[("MOST_SIGNS",(.int 8)),("MOST_KEYS",(.int 2)),("MOST_RELAYS",(.int 4)),("MOST_LAMPS",(.int 2)),("LEAST_NODES",(.int 2)),("MOST_NODES",(.int 640)),("MOST_PIECES",(.int 800)),("LEAST_TIME",(.int 1)),("MOST_TIME",(.int 4))]
noncomputable def fz:List Pos:=[⟨23,24,23,34⟩,⟨24,26,24,38⟩,⟨25,25,25,36⟩,⟨27,26,27,38⟩,⟨28,25,28,36⟩,⟨56,29,56,42⟩,⟨56,29,56,50⟩,⟨67,48,67,85⟩,⟨79,15,79,28⟩,⟨95,15,95,67⟩,⟨110,35,110,87⟩,⟨129,25,129,110⟩,⟨132,33,132,108⟩,⟨134,25,134,145⟩,⟨139,17,139,105⟩,⟨142,41,142,43⟩,⟨143,27,143,68⟩,⟨146,37,146,78⟩,⟨147,12,147,30⟩,⟨147,62,147,103⟩,⟨153,16,153,103⟩,⟨154,18,154,105⟩,⟨155,17,155,104⟩,⟨157,45,157,68⟩,⟨159,97,159,138⟩,⟨161,97,161,138⟩,⟨162,73,162,129⟩,⟨174,21,174,60⟩,⟨177,21,177,60⟩,⟨184,20,184,78⟩,⟨186,20,186,75⟩,⟨190,29,190,62⟩,⟨192,25,192,37⟩]
noncomputable def cs:Cs:=⟨[("Net","key_list"),("Net","relay_list"),("Net","lamp_list"),("Net","many_nodes"),("Net","piece_list"),("Net","time_list")],[(("Net","key_words"),1),(("Net","relays"),2),(("Net","lamps"),3),(("Net","nodes"),4),(("Net","pieces"),5),(("Net","times"),6)],[("Net",0)],[("MANY_ENDS",dk0)]⟩
noncomputable def fuel:Nat:=1000
noncomputable def pg:Pg:=⟨[⟨7,7,b0⟩,⟨1,1,b1⟩,⟨1,1,b2⟩,⟨1,1,b3⟩,⟨1,1,b4⟩,⟨1,1,b5⟩,⟨1,1,b6⟩,⟨6,6,b7⟩,⟨3,4,b8⟩,⟨1,4,b9⟩,⟨1,2,b10⟩,⟨3,7,b11⟩,⟨2,2,b12⟩,⟨5,9,b13⟩,⟨3,5,b14⟩,⟨1,1,b15⟩,⟨2,3,b16⟩,⟨1,1,b17⟩,⟨3,7,b18⟩,⟨2,4,b19⟩,⟨1,2,b20⟩,⟨2,3,b21⟩,⟨2,3,b22⟩,⟨2,8,b23⟩,⟨3,5,b24⟩,⟨3,5,b25⟩,⟨1,3,b26⟩,⟨2,10,b27⟩,⟨1,7,b28⟩,⟨1,1,b29⟩,⟨1,1,b30⟩,⟨2,4,b31⟩,⟨1,9,b32⟩],cs,fuel⟩
noncomputable def tf (i:Nat):Tb:=("",top i)
noncomputable def tm (c:Str) (i j:Nat):Tb:=(c,inClass (top i) j)
noncomputable def DZ:List Tb:=[tm "Net" 14 0,tm "Net" 14 1,tm "Net" 14 2,tm "Net" 14 3,tm "Net" 14 4,tm "Net" 14 5,tm "Net" 14 6,tf 15,tf 16,tf 17,tf 18,tf 19,tf 20,tf 21,tf 22,tf 23,tf 24,tf 25,tf 26,tf 27,tf 28,tf 30,tf 31,tf 32,tf 33,tf 34,tf 35,tf 36,tf 37,tf 38,tf 39,tf 40,tf 41]
theorem stat:Stat pg fns gl fz DZ:=⟨by kernel_rfl,by kernel_rfl,by kernel_rfl⟩
end My
end
section
namespace My
open PySem D
def EVs:=And.intro (@ay) (And.intro (@aV) (And.intro (@jv) (And.intro (@CG) (And.intro (@uq) (And.intro (@CH) (And.intro (@xg) (And.intro (@yh) (And.intro (@lO) (And.intro (@eS) (And.intro (@dS) (And.intro (@ur) (And.intro (@bW) (And.intro (@dU) (And.intro (@eX) (And.intro (@AL) (And.intro (@uu) (And.intro (@nR) (And.intro (@uv) (And.intro (@ux) (And.intro (@AM) (And.intro (@aB) (And.intro (@av) (And.intro (@nP) (And.intro (@nQ) (@aj)))))))))))))))))))))))))
def ETs:=And.intro (@j4) (And.intro (@yi) (And.intro (@yj) (And.intro (@oY) (And.intro (@uw) (And.intro (@iy) (And.intro (@bZ) (@oZ)))))))
theorem gq0 {α:Type} {a:α} {l:List α}:(a::l)[0]?=some a:=rfl
theorem gq1 {α:Type} {a:α} {l:List α} {i:Nat}:(a::l)[i+1]?=l[i]?:=rfl
theorem gq2 {α:Type} {x a:α} {l:List α}:(x::l).set 0 a=a::l:=rfl
theorem gq3 {α:Type} {x a:α} {l:List α} {n:Nat}:(x::l).set (n+1) a=x::l.set n a:=rfl
structure Wd (z:Str):Prop where
 lo:1<=z.cps.size
 hi:z.cps.size<=8
 az:∀c∈z.cps.toList,97<=c/\c<=122
theorem qM (z:Str):z.length=z.cps.size:=rfl
theorem Wd.asc {z:Str} (h:Wd z):L2.asc z=true:=by
 unfold L2.asc
 rw [Array.all_eq_true]
 intro i hi
 have:=h.az z.cps[i] (by simp)
 simp
 omega
theorem leA {c:Nat} (h:97<=c/\c<=122):ak .LtE (.str "a") (.str ⟨#[c]⟩)=λ m=>.ok true m:=by
 funext m
 have:¬[c] < [97]:=by simp [List.cons_lt_cons_iff]; omega
 simp [ak]
 exact this
theorem leZ {c:Nat} (h:97<=c/\c<=122):ak .LtE (.str ⟨#[c]⟩) (.str "z")=λ m=>.ok true m:=by
 funext m
 have:¬[122] < [c]:=by simp [List.cons_lt_cons_iff]; omega
 simp [ak]
 exact this
theorem xh {n:Nat} {z:Str} (h:Wd z):D.runN pg (n+1) 10 [.str z] []=.ok (.bl true) []:=by
 refine bx (d:=⟨1,2,b10⟩) rfl rfl ?_
 show aF _ b10 [some (.str z),none] []=_
 have hI:evI (Cn pg n) (.var 0) [some (.str z),none] []=.ok (.tup (signs z)) []:=by simp [evI,R.bind,toI,nj,h.asc]
 obtain ⟨ρ',hc⟩:=comp_map (C:=Cn pg n) (i:=1) (e:=.chain .LtE .LtE (.cst (.str "a")) (.var 1) (.cst (.str "z"))) (ρ:=[some (.str z),none]) (m:=[]) (xs:=signs z) (g:=λ _=>.bl true) (λ x hx=>by
  obtain ⟨c,hc,rfl⟩:=List.mem_map.mp hx
  have:=h.az c hc
  simp [evE,R.bind,leA this,leZ this]) (by have:=h.hi; simp [signs,lim]; omega)
 have hf:=bQ (C:=Cn pg n) (m:=[]) (m0:=[]) (cL (js:=[1]) (ifs:=.nil) hI hc) rfl Cm.nil (by rw [j5]; exact bD.mpr λ x hx=>by rw [(List.mem_replicate.mp hx).2]; rfl)
 rw [b10,aW (bg (w:=.bl true) (m1:=[]) ?_)]
 have h1:(1:Int)<=z.length:=by have:=h.lo; rw [qM]; omega
 have h2:(z.length:Int)<=8:=by have:=h.hi; rw [qM]; omega
 have h3:z.length<=lim:=by have:=h.hi; rw [qM]; simp [lim]; omega
 have hb:bools ((signs z).map λ _=>W.bl true)=some (List.replicate (signs z).length true):=by rw [j5]; exact eY _
 simp [EVs,bf,h3,ak,h1,h2,hf,getL,hb]
theorem qN {z:Str} {ws:List Str} (h:z∉ws):gZ (.inr z) (ws.map Sum.inr)=false:=by
 simp only [gZ,List.any_map,Function.comp_def]
 rw [List.any_eq_false]
 intro x hx
 simp only [decide_eq_true_eq,Sum.inr.injEq]
 rintro rfl
 exact h hx
theorem fZ {n:Nat} {ws:List Str} (hw:∀z∈ws,Wd z) (hn:ws.Nodup) (hl:ws.length<=100) {M:Mem}:aE (D.runN pg (n+1+1) 9) [.fz (ws.map .str)] M=.ok .non M:=by
 have hI:evI (Cn pg (n+1)) (.enm (.var 0)) [some (.fz (ws.map .str)),some (.ref 0),none,none] [.set []]=.ok (.enm (.tup (ws.map .str))) [.set []]:=by simp [evI,EVs,srcOf]
 obtain ⟨ρ',m',hf,_⟩:=bP (t:=.tup (.cons (.var 2) (.cons (.var 3) .nil))) (b:=AQ) (n:=ws.length) hI (by simp [Src.len])
  (λ i ρ m=>m=[.set ((ws.take i).map Sum.inr)]/\∃o2 o3,ρ=[some (.fz (ws.map .str)),some (.ref 0),o2,o3]) ⟨rfl,_,_,rfl⟩ (λ i ρ m hi=>by
   rintro ⟨rfl,o2,o3,rfl⟩
   have hz:=hw ws[i] (List.getElem_mem hi)
   refine ⟨.tup [.int i,.str ws[i]],[some (.fz (ws.map .str)),some (.ref 0),some (.int i),some (.str ws[i])],[some (.fz (ws.map .str)),some (.ref 0),some (.int i),some (.str ws[i])],[.set ((ws.take (i+1)).map Sum.inr)],?_,by simp [aD,bU],.inl ?_,rfl,_,_,rfl⟩
   ·rw [dz (w:=.str ws[i])]
    rw [aJ (by simpa using hi)]
    simp
   ·have hc:∀m,aE (D.runN pg (n+1) 10) [.str ws[i]] m=.ok (.bl true) m:=λ m=>bq rfl (xh hz) rfl
    have hk:gZ (.inr ws[i]) ((ws.take i).map Sum.inr)=false:=qN (nO hn hi)
    have ht:ws.take (i+1)=ws.take i++[ws[i]]:=by rw [List.take_add_one,List.getElem?_eq_getElem hi]; rfl
    have hlt:min i ws.length < 4000:=by omega
    have h1:evT (Cn pg (n+1)) (.or (.not (.call 10 (.cons (.var 3) .nil))) (.cmp .In (.var 3) (.var 1))) [some (.fz (ws.map .str)),some (.ref 0),some (.int i),some (.str ws[i])] [.set ((ws.take i).map Sum.inr)]=.ok false [.set ((ws.take i).map Sum.inr)]:=by
     simp only [EVs,oX,ETs,gq0,gq1,gq2,gq3,hc,D.truthy,ak,ng,sO,hk,Bool.not_true,Bool.false_eq_true,if_false]
    have h2:evE (Cn pg (n+1)) (.meth (.var 1) "add" (.cons (.var 3) .nil)) [some (.fz (ws.map .str)),some (.ref 0),some (.int i),some (.str ws[i])] [.set ((ws.take i).map Sum.inr)]=.ok .non [.set ((ws.take (i+1)).map Sum.inr)]:=by
     have e1:kdM "add"=.set:=by decide
     have e2:((ws.take i).map Sum.inr:List L2.Key).length < 4000:=by rw [List.length_map,List.length_take]; exact hlt
     simp only [EVs,gq0,gq1,gq2,gq3,kdOf,e1,if_true,aM,ee,sU,sO,hk,e2,Bool.false_eq_true,if_false]
     rw [ht,List.map_append]
     rfl
    rw [AQ,af (ρ1:=[some (.fz (ws.map .str)),some (.ref 0),some (.int i),some (.str ws[i])]) (by rw [cZ h1,ao]),af (bA h2),ao])
  (fun ρ m _=>by rw [cM]; exact aG (by simp))
 refine bq (m1:=m') (by simp [ah,aC,aU]) (bx (d:=⟨1,4,b9⟩) rfl rfl ?_) rfl
 show aF _ b9 [some (.fz (ws.map .str)),none,none,none] []=_
 rw [b9,af (ρ1:=[some (.fz (ws.map .str)),some (.ref 0),none,none]) (aK (w:=.ref 0) (m1:=[.set []]) (by simp [EVs,new]) rfl),af hf,aW (bg (w:=.non) (m1:=m') (by simp [EVs]))]
end My
end
section
namespace My
open PySem D
abbrev tupI (a:List Int):W:=.tup (a.map .int)
theorem eqI {m:Mem} {a b:Int}:eqW m (.int a) (.int b)=.ok (decide (a=b)) m:=by
 simp [eqW,toD,PyData.eqv]
 by_cases h:a=b<;>simp [h]
theorem qO {ns:List Int} (h:ns.Nodup):L2.unlike ns=ns.length:=by
 unfold L2.unlike PyProof.Rows.firstMet
 have e:(List.range ns.length).map (λ i=>ns.getD i 0)=ns:=by
  apply List.ext_getElem
  ·simp
  ·intro i h1 h2
   simp [List.getD,h2]
 rw [e]
 have g:∀(l acc:List Int),l.Nodup->(∀a∈acc,a∉l)->l.foldl PyProof.Rows.step_dedup acc=acc++l:=by
  intro l
  induction l with
  | nil=>intro acc _ _; simp
  | cons x r ih=>
   intro acc hn hd
   rw [List.nodup_cons] at hn
   have hx:(acc.any λ y=>y==x)=false:=by
    rw [List.any_eq_false]
    intro y hy z
    exact hd y hy (by rw [eq_of_beq z]; exact List.mem_cons_self)
   rw [List.foldl_cons,PyProof.Rows.step_dedup,hx,if_neg (by simp),ih (acc++[x]) hn.2 (λ a ha hr=>?_),List.append_assoc]
   ·rfl
   ·rcases List.mem_append.mp ha with ha | ha
    ·exact hd a ha (List.mem_cons_of_mem _ hr)
    ·rw [List.mem_singleton] at ha; subst ha; exact hn.1 hr
 rw [g ns [] h (by simp)]
 simp
theorem qP (a:List Int):dJ (a.map .int)=some a:=by
 induction a with
 | nil=>rfl
 | cons x r ih=>simp [dJ,ih]
theorem j8 {a:List Int} {M:Mem}:bf .len [tupI a] M=.ok (.int a.length) M:=by
 have:=iz (m:=M) (w:=tupI a) (xs:=a.map .int) rfl
 rw [List.length_map] at this
 exact this
section
variable {n:Nat} {m:Mem}
theorem uE {i:Int}:aE (D.runN pg (n+1) 17) [.int i] m=.ok (.bl true) m:=bq (m1:=[]) rfl (by kernel_rfl) rfl
theorem qQ {es:List Int} {nodes:Nat} (hn:es.Nodup) (hr:∀i∈es,0<=i/\i < (nodes:Int)) (hl:es.length<=100):aE (D.runN pg (n+1+1) 16) [tupI es,.int nodes] m=.ok (.bl true) m:=by
 refine bq (m1:=[]) (by simp [ah,aC,dB]) ?_ rfl
 refine bx (d:=⟨2,3,b16⟩) rfl rfl ?_
 show aF _ b16 [some (tupI es),some (.int nodes),none] []=_
 have hall:=lP (C:=Cn pg (n+1)) (i:=2) (js:=[2]) (it:=.var 0) (s:=.tup (es.map .int)) (e:=.and (.call 17 (.cons (.var 2) .nil)) (.chain .LtE .Lt (.cst (.int 0)) (.var 2) (.var 1))) (ρ:=[some (tupI es),some (.int nodes),none]) (m:=[]) (xs:=es.map .int) Cm.nil (by rw [fD,ay]; rfl) (λ j=>rfl) rfl (by rw [List.length_map]; simp only [lim]; omega) (λ x hx=>by
  obtain ⟨i,hi,rfl⟩:=List.mem_map.mp hx
  obtain ⟨h1,h2⟩:=hr i hi
  have hc1:ak .LtE (.int 0) (.int i) []=.ok true []:=by simp [ak,h1]
  have hc2:ak .Lt (.int i) (.int nodes) []=.ok true []:=by simp [ak,h2]
  simp only [clr,EVs,gq0,gq1,gq2,gq3,uE,hc1,hc2,if_true])
 have hs:bX .gm (tupI es) []=.ok (.int es.length) []:=by
  simp only [bX,nh,qP,qO hn]
  rw [if_pos (by omega)]
 rw [b16,aW (bg (w:=.bl true) (m1:=[]) ?_)]
 rw [uq,hall]
 simp only [aj,if_true]
 simp only [EVs,gq0,gq1,gq2,gq3,hs,j8,ak,eqI]
 simp
theorem eqS {a b:Str} (ha:a.cps.all (· < 0x110000)=true) (hb:b.cps.all (· < 0x110000)=true):eqW m (.str a) (.str b)=.ok (decide (a=b)) m:=by
 have h1:toD 60 m (.str a)=some (.str a):=by simp only [toD]; rw [if_pos ha]
 have h2:toD 60 m (.str b)=some (.str b):=by simp only [toD]; rw [if_pos hb]
 simp only [eqW,h1,h2,pA]
theorem Wd.ok {z:Str} (h:Wd z):z.cps.all (· < 0x110000)=true:=by
 rw [Array.all_eq_true]
 intro i hi
 have:=h.az z.cps[i] (by simp)
 simp
 omega
theorem uF {y:W} {z:Str} {ws:List Str} (h:getL m y=some (ws.map .str)) (hz:Wd z) (hw:∀x∈ws,Wd x):ak .NotIn (.str z) y m=.ok (!decide (z∈ws)) m:=by
 have e:=iB (m:=m) hz.ok λ x hx=>(hw x hx).ok
 cases y with
 | fz ys=>
  simp only [getL] at h
  cases h
  simp only [ak,e,aj]
 | ref q=>
  simp only [getL] at h
  split at h
  ·rename_i ys e0
   cases h
   simp only [ak,e0,e,aj]
  ·cases h
 | _=>cases h
abbrev Pc:=Str×List Str×List Int
abbrev pcW (p:Pc):W:=.tup (.str p.1::(p.2.1.map .str++p.2.2.map .int))
theorem D0 {x:W} {r:List W}:fk (x::r) (some 1) none=r:=by simp [fk,HT.sIx]
theorem D3 {x y:W} {r:List W}:fk (x::y::r) (some 2) none=r:=by simp [fk,HT.sIx]
end
end My
end
section
namespace My
open PySem D
section
variable {n:Nat} {m:Mem}
inductive Kd:Str->Nat->Prop
 | made:Kd "made" 2
 | broken:Kd "broken" 2
 | swap:Kd "swap" 3
 | coil:Kd "coil" 2
 | lamp:Kd "lamp" 2
structure iD (sw rl lm:List Str) (nodes:Nat) (p:Pc):Prop where
 kind:(p.1="wire"/\p.2.1=[]/\p.2.2.length=2)\/∃z k,p.2.1=[z]/\Kd p.1 k/\p.2.2.length=k/\z∈(if p.1="coil" then rl else if p.1="lamp" then lm else sw)
 nd:p.2.2.Nodup
 rg:∀i∈p.2.2,0<=i/\i < (nodes:Int)
theorem iD.len {sw rl lm:List Str} {nodes:Nat} {p:Pc} (h:iD sw rl lm nodes p):p.2.2.length<=3:=by
 rcases h.kind with h | ⟨z,k,_,hk,hl,_⟩
 ·omega
 ·have:∀{w:Str} {k:Nat},Kd w k->k<=3:=λ h=>by cases h<;>omega
  have:=this hk
  omega
theorem iE {w:Str} (h:w="wire"\/∃k,Kd w k):w.cps.all (· < 0x110000)=true:=by
 rcases h with rfl | ⟨k,hk⟩
 ·decide +kernel
 ·cases hk<;>decide +kernel
theorem pc0 {p:Pc} {M:Mem}:aQ (pcW p) (.int 0) M=.ok (.str p.1) M:=by
 have:=iA (m:=M) (w:=pcW p) (xs:=.str p.1::(p.2.1.map .str++p.2.2.map .int)) (i:=0) rfl (by simp)
 exact this
theorem xj {p:Pc} (h:(p.1="wire"/\p.2.1=[])\/∃z k,p.2.1=[z]/\Kd p.1 k):aE (D.runN pg (n+1) 15) [pcW p] m=.ok (tupI p.2.2) m:=by
 obtain ⟨w,zs,es⟩:=p
 have hw:w.cps.all (· < 0x110000)=true:=by
  rcases h with h | ⟨z,k,_,hk⟩
  ·exact iE (.inl h.1)
  ·exact iE (.inr ⟨k,hk⟩)
 have hp:ah [pcW (w,zs,es)]=true:=by
  simp only [ah,aC,Bool.and_true]
  rw [Bool.true_and,yg,aU,dB]
  rfl
 refine bq (m1:=[]) hp ?_ (by simp [aC,dB])
 refine bx (d:=⟨1,1,b15⟩) rfl rfl ?_
 show aF _ b15 [some (pcW (w,zs,es))] []=_
 have ht:evT (Cn pg n) (.cmp .Eq (.idx (.var 0) (.cst (.int 0))) (.cst (.str "wire"))) [some (pcW (w,zs,es))] []=.ok (decide (w="wire")) []:=by
  simp only [bZ,dS,ay,aV,gq0,gq1,gq2,gq3,aj,pc0,ak]
  exact eqS hw (by decide +kernel)
 rw [b15,aW (bg (w:=tupI es) (m1:=[]) ?_)]
 rw [yh,ht]
 simp only [aj]
 rcases h with ⟨h1,h2⟩ | ⟨z,k,h2,hk⟩
 ·dsimp only at h1 h2
  subst h1 h2
  rw [if_pos (by decide)]
  simp only [EVs,gq0,gq1,gq2,gq3,cG,List.map_nil,List.nil_append]
  rw [D0]
 ·dsimp only at h2 hk
  subst h2
  have:decide (w="wire")=false:=by cases hk<;>decide +kernel
  rw [this,if_neg (by simp)]
  simp only [EVs,gq0,gq1,gq2,gq3,cG,List.map_cons,List.map_nil,List.cons_append,List.nil_append]
  rw [D3]
abbrev nmD (sw rl lm:W):List (Str×W):=[("made",sw),("broken",sw),("swap",sw),("coil",rl),("lamp",lm)]
theorem uG {p:Pc} {sws rls lms:List Str} {sw rl lm:W} {j nodes:Nat} (h:iD sws rls lms nodes p) (hj:m[j]?=some (.dic (nmD sw rl lm))) (h1:getL m sw=some (sws.map .str)) (h2:getL m rl=some (rls.map .str)) (h3:getL m lm=some (lms.map .str))
  (w1:∀z∈sws,Wd z) (w2:∀z∈rls,Wd z) (w3:∀z∈lms,Wd z):aE (D.runN pg (n+1+1+1) 14) [pcW p,.ref j,.int nodes] m=.ok (.bl true) m:=by
 have hlen:=h.len
 have hun:=qQ (n:=n) (m:=m) h.nd h.rg (by omega)
 have hen:=xj (n:=n+1) (m:=m) (p:=p) (h.kind.elim (λ h=>.inl ⟨h.1,h.2.1⟩) λ ⟨z,k,a,b,_⟩=>.inr ⟨z,k,a,b⟩)
 obtain ⟨w,zs,es⟩:=p
 obtain ⟨hk,hnd,hrg⟩:=h
 dsimp only at hk hnd hrg hlen hun hen
 have hw:w="wire"\/∃k,Kd w k:=by
  rcases hk with hk | ⟨z,k,_,hk,_⟩
  ·exact .inl hk.1
  ·exact .inr ⟨k,hk⟩
 rw [aO (by simp [ah,aC])]
 refine bx (d:=⟨3,5,b14⟩) rfl rfl ?_
 show aF _ b14 [some (pcW (w,zs,es)),some (.ref j),some (.int nodes),none,none] m=_
 have hd:(dk0.lookup w).isSome=true:=by
  rcases hw with rfl | ⟨k,hk⟩
  ·decide +kernel
  ·cases hk<;>decide +kernel
 have hT1:evT (Cn pg (n+1+1)) (.or (.not (.var 0)) (.fus (.knin dk0) (.idx (.var 0) (.cst (.int 0))))) [some (pcW (w,zs,es)),some (.ref j),some (.int nodes),none,none] m=.ok false m:=by
  have t1:evT (Cn pg (n+1+1)) (.var 0) [some (pcW (w,zs,es)),some (.ref j),some (.int nodes),none,none] m=.ok true m:=by
   simp only [oX,ay,gq0,gq1,gq2,gq3,aj,D.truthy,List.isEmpty_cons,Bool.not_false]
  have t2:evT (Cn pg (n+1+1)) (.fus (.knin dk0) (.idx (.var 0) (.cst (.int 0)))) [some (pcW (w,zs,es)),some (.ref j),some (.int nodes),none,none] m=.ok false m:=by
   simp only [yj,uu,dS,ay,aV,gq0,gq1,gq2,gq3,aj,pc0,bX,hd,Bool.not_true,D.truthy]
  rw [uw,iy,t1]
  simp only [aj,Bool.not_true,Bool.false_eq_true,if_false]
  exact t2
 have hT2:evT (Cn pg (n+1+1)) (.and (.cmp .In (.var 3) (.var 1)) (.or (.cmp .Lt (.blt .len (.cons (.var 0) .nil)) (.cst (.int 2))) (.cmp .NotIn (.idx (.var 0) (.cst (.int 1))) (.idx (.var 1) (.var 3))))) [some (pcW (w,zs,es)),some (.ref j),some (.int nodes),some (.str w),none] m=.ok false m:=by
  have t1:evT (Cn pg (n+1+1)) (.cmp .In (.var 3) (.var 1)) [some (pcW (w,zs,es)),some (.ref j),some (.int nodes),some (.str w),none] m=.ok ((nmD sw rl lm).lookup w).isSome m:=by
   simp only [bZ,ay,gq0,gq1,gq2,gq3,aj,ak,ng,hj]
  rw [oY,t1]
  simp only [aj]
  rcases hk with ⟨rfl,_,_⟩ | ⟨z,k,rfl,hk,hl,hz⟩
  ·have:((nmD sw rl lm).lookup ("wire":Str)).isSome=false:=rfl
   rw [this]
   rfl
  ·obtain ⟨sv,l,hsv,hg,hzl,hwl⟩:∃(sv:W) (l:List Str),(nmD sw rl lm).lookup w=some sv/\getL m sv=some (l.map .str)/\z∈l/\∀x∈l,Wd x:=by
    cases hk with
    | made=>exact ⟨sw,sws,rfl,h1,by rw [if_neg (by decide +kernel),if_neg (by decide +kernel)] at hz; exact hz,w1⟩
    | broken=>exact ⟨sw,sws,rfl,h1,by rw [if_neg (by decide +kernel),if_neg (by decide +kernel)] at hz; exact hz,w1⟩
    | swap=>exact ⟨sw,sws,rfl,h1,by rw [if_neg (by decide +kernel),if_neg (by decide +kernel)] at hz; exact hz,w1⟩
    | coil=>exact ⟨rl,rls,rfl,h2,by rw [if_pos rfl] at hz; exact hz,w2⟩
    | lamp=>exact ⟨lm,lms,rfl,h3,by rw [if_neg (by decide +kernel),if_pos rfl] at hz; exact hz,w3⟩
   rw [hsv]
   have hl0:bf .len [pcW (w,[z],es)] m=.ok (.int (es.length+2:Nat)) m:=by
    have:=iz (m:=m) (w:=pcW (w,[z],es)) (xs:=.str w::([z].map .str++es.map .int)) rfl
    rw [this]
    simp
    omega
   have i1:aQ (pcW (w,[z],es)) (.int 1) m=.ok (.str z) m:=by
    have:=iA (m:=m) (w:=pcW (w,[z],es)) (xs:=.str w::([z].map .str++es.map .int)) (i:=1) rfl (by simp)
    exact this
   have i2:aQ (.ref j) (.str w) m=.ok sv m:=by simp only [aQ,hj,hsv]
   have hni:=uF (m:=m) hg (hwl z hzl) hwl
   rw [decide_eq_true hzl] at hni
   have t2:evT (Cn pg (n+1+1)) (.cmp .Lt (.blt .len (.cons (.var 0) .nil)) (.cst (.int 2))) [some (pcW (w,[z],es)),some (.ref j),some (.int nodes),some (.str w),none] m=.ok false m:=by
    simp only [bZ,dU,av,aB,ay,aV,gq0,gq1,gq2,gq3,aj,hl0,ak]
    rw [decide_eq_false (by omega)]
   have t3:evT (Cn pg (n+1+1)) (.cmp .NotIn (.idx (.var 0) (.cst (.int 1))) (.idx (.var 1) (.var 3))) [some (pcW (w,[z],es)),some (.ref j),some (.int nodes),some (.str w),none] m=.ok false m:=by
    simp only [bZ,dS,ay,aV,gq0,gq1,gq2,gq3,aj,i1,i2,hni,Bool.not_true]
   simp only [Option.isSome_some,if_true]
   rw [uw,t2]
   simp only [aj,Bool.false_eq_true,if_false]
   exact t3
 have hlk:∃k:Int,dk0.lookup w=some (.int k)/\(es.length:Int)=k:=by
  rcases hk with ⟨rfl,_,hl⟩ | ⟨z,k,_,hk,hl,_⟩
  ·exact ⟨2,rfl,by omega⟩
  ·cases hk
   ·exact ⟨2,rfl,by omega⟩
   ·exact ⟨2,rfl,by omega⟩
   ·exact ⟨3,rfl,by omega⟩
   ·exact ⟨2,rfl,by omega⟩
   ·exact ⟨2,rfl,by omega⟩
 obtain ⟨kk,hlk,hkk⟩:=hlk
 rw [b14,af (by rw [cZ hT1,ao]),af (ρ1:=[some (pcW (w,zs,es)),some (.ref j),some (.int nodes),some (.str w),none]) (m1:=m) (aK (w:=.str w) (by simp only [EVs,gq0,gq1,gq2,gq3,pc0]) rfl),af (by rw [cZ hT2,ao]),af (ρ1:=[some (pcW (w,zs,es)),some (.ref j),some (.int nodes),some (.str w),some (tupI es)]) (m1:=m) (aK (w:=tupI es) (by simp only [EVs,gq0,gq1,gq2,gq3,hen]) rfl),aW (bg (w:=.bl true) (m1:=m) ?_)]
 have hcm:evE (Cn pg (n+1+1)) (.cmp .Eq (.blt .len (.cons (.var 4) .nil)) (.fus (.kget dk0) (.var 3))) [some (pcW (w,zs,es)),some (.ref j),some (.int nodes),some (.str w),some (tupI es)] m=.ok (.bl true) m:=by
  simp only [EVs,gq0,gq1,gq2,gq3,j8,bX,hlk,ak,eqI,decide_eq_true hkk]
 rw [uq,hcm]
 simp only [aj,if_true]
 simp only [EVs,gq0,gq1,gq2,gq3,hun]
end
end My
end
section
namespace My
open PySem D
theorem yp {M:Mem} {x y:W} {xs ys:List W} (h1:getL M x=some xs) (h2:getL M y=some ys) (h3:xs.length+ys.length<=lim):binop .Add x y M=.ok (.ref M.length) (M++[.lst (xs++ys)]):=by
 have:vR M x y=.ok (.ref M.length) (M++[.lst (xs++ys)]):=by simp only [vR,h1,h2]; rw [if_pos h3]; rfl
 cases x<;>cases y<;>first | exact this | cases h1 | cases h2
theorem xm {C:D.Cx} {a b:E} {ρ:D.Loc} {m:Mem} {x y:W} {xs ys:List W} (hm:Cm m) (ha:evE C a ρ m=.ok x m) (hb:evE C b ρ m=.ok y m) (h1:getL m x=some xs) (h2:getL m y=some ys) (h3:xs.length+ys.length<=lim) (hp:ah (xs++ys)=true) :
  evE C (.frz (.bin .Add a b)) ρ m=.ok (.fz (xs++ys)) m:=by
 refine bQ (m0:=m) ?_ rfl hm hp
 rw [jv,ha]
 simp only [aj]
 rw [hb]
 simp only [aj]
 exact yp h1 h2 h3
structure Hd (m:Mem) (a b c d e:Nat) (ks rl lm:List Str) (ps:List Pc) (ts:List (List Int)):Prop where
 k:m[a]?=some (.lst (ks.map .str))
 r:m[b]?=some (.lst (rl.map .str))
 l:m[c]?=some (.lst (lm.map .str))
 p:m[d]?=some (.lst (ps.map pcW))
 t:m[e]?=some (.lst (ts.map tupI))
theorem Hd.app {m l:Mem} {a b c d e:Nat} {ks rl lm:List Str} {ps:List Pc} {ts:List (List Int)} (h:Hd m a b c d e ks rl lm ps ts):Hd (m++l) a b c d e ks rl lm ps ts:=by
 have g:∀{i:Nat} {o:O},m[i]?=some o->(m++l)[i]?=some o:=λ q=>by rw [List.getElem?_append_left (List.getElem?_eq_some_iff.mp q).1]; exact q
 exact ⟨g h.k,g h.r,g h.l,g h.p,g h.t⟩
noncomputable def fG (t:List Int):Bool:=match t with
 | [a,b,c,d]=>decide (1<=a)&&decide (a<=b)&&decide (b<=4)&&decide (1<=c)&&decide (c<=d)&&decide (d<=4)
 | _=>false
noncomputable def fnd (w:Str) (ps:List Pc):List Str:=(ps.filter λ p=>decide (p.1=w)).flatMap (·.2.1)
structure bC (ks rl lm:List Str) (nodes:Nat) (ps:List Pc) (ts:List (List Int)):Prop where
 wd:∀z∈ks++rl++lm,Wd z
 nd:(ks++rl++lm).Nodup
 k2:ks.length<=2
 r4:rl.length<=4
 l2:lm.length<=2
 n2:2<=nodes
 n6:nodes<=640
 p8:ps.length<=800
 pc:∀p∈ps,iD (ks++rl) rl lm nodes p
 co:∀z∈rl,(fnd "coil" ps).count z=1
 la:∀z∈lm,(fnd "lamp" ps).count z=1
 tl:ts.length=rl.length
 tm:∀t∈ts,fG t=true
section
variable {n:Nat} {m:Mem} {a b c d e:Nat} {ks rl lm:List Str} {nodes:Nat} {ps:List Pc} {ts:List (List Int)}
theorem uH {q:Nat} {xs:List W} (h:m[q]?=some (.lst xs)):bf .len [.ref q] m=.ok (.int xs.length) m:=iz (m:=m) (w:=.ref q) (xs:=xs) (j6 (by simp only [getL,h]))
theorem lX (hm:Cm m) (h:Hd m a b c d e ks rl lm ps ts) (o:bC ks rl lm nodes ps ts):aE (D.runN pg (n+1+1+1) 8) [.ref a,.ref b,.ref c] m=.ok .non m:=by
 rw [aO rfl]
 refine dQ (d:=⟨3,4,b8⟩) (ρ:=[some (.ref a),some (.ref b),some (.ref c),some .non]) rfl rfl ?_
 show aF _ b8 [some (.ref a),some (.ref b),some (.ref c),none] m=_
 have hk2:=o.k2
 have hr4:=o.r4
 have hl2:=o.l2
 have e1:=xm (C:=Cn pg (n+1+1)) (a:=.var 0) (b:=.var 1) (ρ:=[some (.ref a),some (.ref b),some (.ref c),none]) (x:=.ref a) (y:=.ref b) (xs:=ks.map .str) (ys:=rl.map .str) hm (by simp only [EVs,gq0,gq1,gq2,gq3]) (by simp only [EVs,gq0,gq1,gq2,gq3]) (by simp only [getL,h.k]) (by simp only [getL,h.r]) (by simp [lim]; omega) (by rw [<-List.map_append]; exact aU _)
 have e2:=xm (C:=Cn pg (n+1+1)) (b:=.var 2) (y:=.ref c) (ys:=lm.map .str) hm e1 (by simp only [EVs,gq0,gq1,gq2,gq3]) rfl (by simp only [getL,h.l]) (by simp [lim]; omega) (by rw [<-List.map_append,<-List.map_append]; exact aU _)
 rw [<-List.map_append,<-List.map_append] at e2
 have e3:evE (Cn pg (n+1+1)) (.call 9 (.cons (.frz (.bin .Add (.frz (.bin .Add (.var 0) (.var 1))) (.var 2))) .nil)) [some (.ref a),some (.ref b),some (.ref c),none] m=.ok .non m:=by
  rw [bW,av,e2]
  simp only [aj,aB,fZ (n:=n) o.wd o.nd (by simp; omega)]
 have ht:evT (Cn pg (n+1+1)) (.cmp .IsNot (.var 3) (.cst .non)) [some (.ref a),some (.ref b),some (.ref c),some .non] m=.ok false m:=by simp only [EVs,oX,ETs,gq0,gq1,gq2,gq3,ak,ow,Bool.not_true]
 rw [b8,af (ρ1:=[some (.ref a),some (.ref b),some (.ref c),some .non]) (aK e3 rfl),af (by rw [cZ ht,ao]),ao]
theorem nV (h:Hd m a b c d e ks rl lm ps ts) (o:bC ks rl lm nodes ps ts):aE (D.runN pg (n+1) 11) [.ref a,.ref b,.ref c] m=.ok .non m:=by
 rw [aO rfl]
 have hI:evI (Cn pg n) (.enm (.var 3)) [some (.ref a),some (.ref b),some (.ref c),some (.tup [.tup [.ref a,.int 2],.tup [.ref b,.int 4],.tup [.ref c,.int 2]]),none,none,none] m=.ok (.enm (.tup [.tup [.ref a,.int 2],.tup [.ref b,.int 4],.tup [.ref c,.int 2]])) m:=by simp [evI,EVs,srcOf]
 obtain ⟨ρ',m',hf,o4,o5,o6,rfl,rfl⟩:=bP (C:=Cn pg n) (t:=.tup (.cons (.var 4) (.cons (.tup (.cons (.var 5) (.cons (.var 6) .nil))) .nil))) (b:=lU) hI (n:=3) rfl
  (λ i ρ M=>∃o4 o5 o6,ρ=[some (.ref a),some (.ref b),some (.ref c),some (.tup [.tup [.ref a,.int 2],.tup [.ref b,.int 4],.tup [.ref c,.int 2]]),o4,o5,o6]/\M=m) ⟨none,none,none,rfl,rfl⟩ (λ i ρ M hi=>by
   rintro ⟨o4,o5,o6,rfl,rfl⟩
   have go:∀(q:Nat) (k:Int) (xs:List W),M[q]?=some (.lst xs)->(xs.length:Int)<=k->([W.tup [.ref a,.int 2],.tup [.ref b,.int 4],.tup [.ref c,.int 2]]:List W)[i]?=some (.tup [.ref q,.int k])->∃x ρ1 ρ2 m2,Src.get (.enm (.tup [.tup [.ref a,.int 2],.tup [.ref b,.int 4],.tup [.ref c,.int 2]])) M i=.it x/\aD (.tup (.cons (.var 4) (.cons (.tup (.cons (.var 5) (.cons (.var 6) .nil))) .nil))) x [some (.ref a),some (.ref b),some (.ref c),some (.tup [.tup [.ref a,.int 2],.tup [.ref b,.int 4],.tup [.ref c,.int 2]]),o4,o5,o6]=some ρ1/\(aF (Cn pg n) lU ρ1 M=.ok (.nx ρ2) m2\/aF (Cn pg n) lU ρ1 M=.ok (.ct ρ2) m2)/\∃o4 o5 o6,ρ2=[some (.ref a),some (.ref b),some (.ref c),some (.tup [.tup [.ref a,.int 2],.tup [.ref b,.int 4],.tup [.ref c,.int 2]]),o4,o5,o6]/\m2=M:=λ q k xs hq hk hx=>by
    have hT:evT (Cn pg n) (.cmp .Gt (.blt .len (.cons (.var 5) .nil)) (.var 6)) [some (.ref a),some (.ref b),some (.ref c),some (.tup [.tup [.ref a,.int 2],.tup [.ref b,.int 4],.tup [.ref c,.int 2]]),some (.int i),some (.ref q),some (.int k)] M=.ok false M:=by
     simp only [bZ,dU,av,aB,ay,gq0,gq1,gq2,gq3,aj,uH hq,ak]
     rw [decide_eq_false (by omega)]
    refine ⟨.tup [.int i,.tup [.ref q,.int k]],[some (.ref a),some (.ref b),some (.ref c),some (.tup [.tup [.ref a,.int 2],.tup [.ref b,.int 4],.tup [.ref c,.int 2]]),some (.int i),some (.ref q),some (.int k)],_,_,?_,rfl,.inl (by rw [lU,af (by rw [cZ hT,ao]),ao]),_,_,_,rfl,rfl⟩
    simp only [Src.get,hx]
   have hk2:=o.k2
   have hr4:=o.r4
   have hl2:=o.l2
   rcases (by omega:i=0\/i=1\/i=2) with rfl | rfl | rfl
   ·exact go a 2 _ h.k (by rw [List.length_map]; omega) rfl
   ·exact go b 4 _ h.r (by rw [List.length_map]; omega) rfl
   ·exact go c 2 _ h.l (by rw [List.length_map]; omega) rfl)
  (fun ρ M _=>rfl)
 refine dQ (d:=⟨3,7,b11⟩) (ρ:=[some (.ref a),some (.ref b),some (.ref c),some (.tup [.tup [.ref a,.int 2],.tup [.ref b,.int 4],.tup [.ref c,.int 2]]),o4,o5,o6]) rfl rfl ?_
 show aF _ b11 [some (.ref a),some (.ref b),some (.ref c),none,none,none,none] m'=_
 rw [b11,af (ρ1:=[some (.ref a),some (.ref b),some (.ref c),some (.tup [.tup [.ref a,.int 2],.tup [.ref b,.int 4],.tup [.ref c,.int 2]]),none,none,none]) (m1:=m') (aK (w:=.tup [.tup [.ref a,.int 2],.tup [.ref b,.int 4],.tup [.ref c,.int 2]]) (by simp [EVs,lim]) rfl),af hf,ao]
theorem lY {k:Nat} (h1:2<=nodes) (h2:nodes<=640) (h3:k<=800):aE (D.runN pg (n+1) 12) [.int nodes,.int k] m=.ok .non m:=by
 refine bq (m1:=[]) rfl ?_ rfl
 refine dQ (d:=⟨2,2,b12⟩) (ρ:=[some (.int nodes),some (.int k)]) rfl rfl ?_
 show aF _ b12 [some (.int nodes),some (.int k)] []=_
 have c1:ak .LtE (.int 2) (.int nodes) []=.ok true []:=by simp [ak]; omega
 have c2:ak .LtE (.int nodes) (.int 640) []=.ok true []:=by simp [ak]; omega
 have c3:ak .Gt (.int k) (.int 800) []=.ok false []:=by simp [ak]; omega
 have t1:evT (Cn pg n) (.not (.chain .LtE .LtE (.cst (.int 2)) (.var 0) (.cst (.int 640)))) [some (.int nodes),some (.int k)] []=.ok false []:=by
  simp only [iy,oZ,aV,ay,gq0,gq1,gq2,gq3,aj,c1,c2,if_true,Bool.not_true]
 have t2:evT (Cn pg n) (.cmp .Gt (.var 1) (.cst (.int 800))) [some (.int nodes),some (.int k)] []=.ok false []:=by
  simp only [bZ,aV,ay,gq0,gq1,gq2,gq3,aj,c3]
 rw [b12,af (by rw [cZ t1,ao]),af (by rw [cZ t2,ao]),ao]
theorem j9 (hm:Cm m) (h:Hd m a b c d e ks rl lm ps ts) (o:bC ks rl lm nodes ps ts):∃l,aE (D.runN pg (n+1+1+1+1) 13) [.ref a,.ref b,.ref c,.int nodes,.ref d] m=.ok .non (m++l)/\Cm (m++l):=by
 have hk2:=o.k2
 have hr4:=o.r4
 have bl:=(List.getElem?_eq_some_iff.mp h.r).1
 have cl:=(List.getElem?_eq_some_iff.mp h.l).1
 have e5:=xm (C:=Cn pg (n+1+1+1)) (a:=.var 0) (b:=.var 1) (ρ:=[some (.ref a),some (.ref b),some (.ref c),some (.int nodes),some (.ref d),none,none,none,none]) (x:=.ref a) (y:=.ref b) (xs:=ks.map .str) (ys:=rl.map .str) hm (by simp only [EVs,gq0,gq1,gq2,gq3]) (by simp only [EVs,gq0,gq1,gq2,gq3]) (by simp only [getL,h.k]) (by simp only [getL,h.r]) (by simp [lim]; omega) (by rw [<-List.map_append]; exact aU _)
 rw [<-List.map_append] at e5
 have hc:Cm (m++[.dic (nmD (.fz ((ks++rl).map .str)) (.ref b) (.ref c))]):=hm.push (by
  have:=aI m.length (aU (ks++rl))
  simp only [List.map_append] at this ⊢
  simp [dm,bJ,dM,bl,cl,this])
 have hj:(m++[O.dic (nmD (.fz ((ks++rl).map .str)) (.ref b) (.ref c))])[m.length]?=some (.dic (nmD (.fz ((ks++rl).map .str)) (.ref b) (.ref c))):=by simp
 have h':=h.app (l:=[O.dic (nmD (.fz ((ks++rl).map .str)) (.ref b) (.ref c))])
 refine ⟨_,?_,hc⟩
 generalize hM:m++[O.dic (nmD (.fz ((ks++rl).map .str)) (.ref b) (.ref c))]=M at hj h' hc ⊢
 rw [aO rfl]
 have hI:evI (Cn pg (n+1+1+1)) (.enm (.var 4)) [some (.ref a),some (.ref b),some (.ref c),some (.int nodes),some (.ref d),some (.fz ((ks++rl).map .str)),some (.ref m.length),none,none] M=.ok (.enm (.lst d)) M:=by
  simp only [evI,ay,gq0,gq1,gq2,gq3,aj,srcOf,getL,h'.p]
 obtain ⟨ρ',m',hf,o7,o8,rfl,rfl⟩:=bP (C:=Cn pg (n+1+1+1)) (t:=.tup (.cons (.var 7) (.cons (.var 8) .nil))) (b:=uB) hI (n:=ps.length) (by simp [Src.len,getL,h'.p])
  (λ i ρ M'=>∃o7 o8,ρ=[some (.ref a),some (.ref b),some (.ref c),some (.int nodes),some (.ref d),some (.fz ((ks++rl).map .str)),some (.ref m.length),o7,o8]/\M'=M) ⟨none,none,rfl,rfl⟩ (λ i ρ M' hi=>by
   rintro ⟨o7,o8,rfl,rfl⟩
   have hp:=uG (n:=n) (m:=M') (o.pc ps[i] (List.getElem_mem hi)) hj rfl (by simp only [getL,h'.r]) (by simp only [getL,h'.l]) (λ z hz=>o.wd z (List.mem_append_left _ hz)) (λ z hz=>o.wd z (List.mem_append_left _ (List.mem_append_right _ hz))) (λ z hz=>o.wd z (List.mem_append_right _ hz))
   have hT:evT (Cn pg (n+1+1+1)) (.not (.call 14 (.cons (.var 8) (.cons (.var 6) (.cons (.var 3) .nil))))) [some (.ref a),some (.ref b),some (.ref c),some (.int nodes),some (.ref d),some (.fz ((ks++rl).map .str)),some (.ref m.length),some (.int i),some (pcW ps[i])] M'=.ok false M':=by
    have t:evT (Cn pg (n+1+1+1)) (.call 14 (.cons (.var 8) (.cons (.var 6) (.cons (.var 3) .nil)))) [some (.ref a),some (.ref b),some (.ref c),some (.int nodes),some (.ref d),some (.fz ((ks++rl).map .str)),some (.ref m.length),some (.int i),some (pcW ps[i])] M'=.ok true M':=gB (j4 _ _) (by simp only [EVs,gq0,gq1,gq2,gq3,hp])
    rw [iy,t]
    rfl
   refine ⟨.tup [.int i,pcW ps[i]],[some (.ref a),some (.ref b),some (.ref c),some (.int nodes),some (.ref d),some (.fz ((ks++rl).map .str)),some (.ref m.length),some (.int i),some (pcW ps[i])],_,_,?_,rfl,.inl (by rw [uB,af (by rw [cZ hT,ao]),ao]),_,_,rfl,rfl⟩
   rw [dz (w:=pcW ps[i])]
   rw [bB h'.p,aJ (by simpa using hi),List.getElem_map])
  (fun ρ M'=>by
   rintro ⟨_,_,_,rfl⟩
   rw [cM]
   rw [bB h'.p]
   exact aG (by simp))
 refine dQ (d:=⟨5,9,b13⟩) (ρ:=[some (.ref a),some (.ref b),some (.ref c),some (.int nodes),some (.ref d),some (.fz ((ks++rl).map .str)),some (.ref m.length),o7,o8]) rfl rfl ?_
 show aF _ b13 [some (.ref a),some (.ref b),some (.ref c),some (.int nodes),some (.ref d),none,none,none,none] m=_
 rw [b13,af (ρ1:=[some (.ref a),some (.ref b),some (.ref c),some (.int nodes),some (.ref d),some (.fz ((ks++rl).map .str)),none,none,none]) (m1:=m) (aK e5 rfl),af (ρ1:=[some (.ref a),some (.ref b),some (.ref c),some (.int nodes),some (.ref d),some (.fz ((ks++rl).map .str)),some (.ref m.length),none,none]) (m1:=m') (aK (w:=.ref m.length) ?_ rfl),af hf,ao]
 rw [uu,lO]
 simp only [av,aB,ay,gq0,gq1,gq2,gq3,aj]
 rw [if_pos (by simp [lim])]
 simp only [aj,bX,ni]
 rw [if_pos ⟨rfl,by decide +kernel,by decide⟩]
 simp only [new,List.zip_cons_cons,List.zip_nil_right,hM]
end
end My
end
section
namespace My
open PySem D
section
variable {n:Nat} {m:Mem} {a b c d e:Nat} {ks rl lm:List Str} {nodes:Nat} {ps:List Pc} {ts:List (List Int)}
theorem at4 {x0 x1 x2 x3:Int} {M:Mem}:aQ (tupI [x0,x1,x2,x3]) (.int 0) M=.ok (.int x0) M/\aQ (tupI [x0,x1,x2,x3]) (.int 1) M=.ok (.int x1) M/\aQ (tupI [x0,x1,x2,x3]) (.int 2) M=.ok (.int x2) M/\aQ (tupI [x0,x1,x2,x3]) (.int 3) M=.ok (.int x3) M:=⟨rfl,rfl,rfl,rfl⟩
theorem pG {i j:Int} (h:i<=j) (M:Mem):ak .LtE (.int i) (.int j) M=.ok true M:=by simp [ak,h]
theorem qR {t:List Int} (h:fG t=true):aE (D.runN pg (n+1) 20) [tupI t] m=.ok (.bl true) m:=by
 obtain ⟨x0,x1,x2,x3,rfl⟩:∃x0 x1 x2 x3,t=[x0,x1,x2,x3]:=by
  unfold fG at h
  split at h
  ·exact ⟨_,_,_,_,rfl⟩
  ·cases h
 simp only [fG,Bool.and_eq_true,decide_eq_true_eq] at h
 obtain ⟨⟨⟨⟨⟨h1,h2⟩,h3⟩,h4⟩,h5⟩,h6⟩:=h
 refine bq (m1:=[]) rfl ?_ rfl
 refine bx (d:=⟨1,2,b20⟩) rfl rfl ?_
 show aF _ b20 [some (tupI [x0,x1,x2,x3]),none] []=_
 obtain ⟨a0,a1,a2,a3⟩:=at4 (x0:=x0) (x1:=x1) (x2:=x2) (x3:=x3) (M:=[])
 have hall:=lP (C:=Cn pg n) (i:=1) (js:=[1]) (it:=.var 0) (s:=.tup ([x0,x1,x2,x3].map .int)) (e:=.chain .LtE .LtE (.cst (.int 1)) (.var 1) (.cst (.int 4))) (ρ:=[some (tupI [x0,x1,x2,x3]),none]) (m:=[]) (xs:=[x0,x1,x2,x3].map .int) Cm.nil (by rw [fD,ay]; rfl) (λ j=>rfl) rfl (by simp [lim]) (λ x hx=>by
  obtain ⟨i,hi,rfl⟩:=List.mem_map.mp hx
  have:1<=i/\i<=4:=by
   simp only [List.mem_cons,List.not_mem_nil,or_false] at hi
   rcases hi with rfl | rfl | rfl | rfl<;>omega
  simp only [clr,EVs,gq0,gq1,gq2,gq3,pG this.1,pG this.2,if_true])
 have hT:evT (Cn pg n) (.or (.cmp .NotEq (.blt .len (.cons (.var 0) .nil)) (.cst (.int 4))) (.not (.blt .all (.cons (.frz (.comp (.gen (.var 1) [1] (.var 0) .nil (.elt (.chain .LtE .LtE (.cst (.int 1)) (.var 1) (.cst (.int 4))))))) .nil)))) [some (tupI [x0,x1,x2,x3]),none] []=.ok false []:=by
  have t1:evT (Cn pg n) (.cmp .NotEq (.blt .len (.cons (.var 0) .nil)) (.cst (.int 4))) [some (tupI [x0,x1,x2,x3]),none] []=.ok false []:=by
   simp only [bZ,dU,av,aB,ay,aV,gq0,gq1,gq2,gq3,aj,j8,ak,eqI]
   rfl
  have t2:=gB (yi _ _) hall
  rw [uw,t1]
  simp only [aj,Bool.false_eq_true,if_false]
  rw [iy,t2]
  rfl
 rw [b20,af (by rw [cZ hT,ao]),aW (bg (w:=.bl true) (m1:=[]) ?_)]
 simp only [EVs,gq0,gq1,gq2,gq3,a0,a1,a2,a3,pG h2,pG h5,if_true]
theorem lZ (hm:Cm m) (h:Hd m a b c d e ks rl lm ps ts) (o:bC ks rl lm nodes ps ts):∃l,aE (D.runN pg (n+1+1) 19) [.ref b,.ref e] m=.ok .non (m++l)/\Cm (m++l):=by
 have hr4:=o.r4
 have htl:=o.tl
 obtain ⟨Y,hY,hYm,hYl⟩:∃Y:List (List Int),fk (ts.map tupI) none (some (rl.length:Int))=Y.map tupI/\(∀t∈Y,fG t=true)/\Y.length<=4:=by
  refine ⟨(ts.drop (HT.sIx (ts.map tupI).length 0 none)).take (HT.sIx (ts.map tupI).length (ts.map tupI).length (some (rl.length:Int)) - HT.sIx (ts.map tupI).length 0 none),?_,λ t ht=>o.tm t (List.mem_of_mem_drop (List.mem_of_mem_take ht)),?_⟩
  ·unfold fk
   rw [<-List.map_drop,<-List.map_take]
  ·rw [List.length_take,List.length_drop]; omega
 have hc:Cm (m++[.lst (Y.map tupI)]):=hm.push (o:=.lst (Y.map tupI)) (aI _ (uh (λ t=>by simp [aC,dB]) _))
 have h':=h.app (l:=[.lst (Y.map tupI)])
 have hq:(m++[O.lst (Y.map tupI)])[m.length]?=some (.lst (Y.map tupI)):=by simp
 refine ⟨_,?_,hc⟩
 rw [aO rfl]
 have hI:evI (Cn pg (n+1)) (.enm (.slc (.var 1) .none (.some (.blt .len (.cons (.var 0) .nil))))) [some (.ref b),some (.ref e),none,none] m=.ok (.enm (.lst m.length)) (m++[.lst (Y.map tupI)]):=by
  have hs:cG (.ref e) none (some (rl.length:Int)) m=.ok (.ref m.length) (m++[.lst (Y.map tupI)]):=by
   simp only [cG,getL,h.t,hY,new]
  simp only [evI,ur,ay,nP,nQ,dU,av,aB,gq0,gq1,gq2,gq3,aj,uH h.r,List.length_map,hs,srcOf,getL,hq]
 obtain ⟨ρ',m',hf,o2,o3,rfl,rfl⟩:=bP (C:=Cn pg (n+1)) (t:=.tup (.cons (.var 2) (.cons (.var 3) .nil))) (b:=uD) hI (n:=Y.length) (by simp [Src.len,getL,hq])
  (λ i ρ M'=>∃o2 o3,ρ=[some (.ref b),some (.ref e),o2,o3]/\M'=m++[.lst (Y.map tupI)]) ⟨none,none,rfl,rfl⟩ (λ i ρ M' hi=>by
   rintro ⟨o2,o3,rfl,rfl⟩
   have hp:=qR (n:=n) (m:=m++[.lst (Y.map tupI)]) (hYm Y[i] (List.getElem_mem hi))
   have hT:evT (Cn pg (n+1)) (.not (.call 20 (.cons (.var 3) .nil))) [some (.ref b),some (.ref e),some (.int i),some (tupI Y[i])] (m++[.lst (Y.map tupI)])=.ok false (m++[.lst (Y.map tupI)]):=by
    have t:evT (Cn pg (n+1)) (.call 20 (.cons (.var 3) .nil)) [some (.ref b),some (.ref e),some (.int i),some (tupI Y[i])] (m++[.lst (Y.map tupI)])=.ok true (m++[.lst (Y.map tupI)]):=gB (j4 _ _) (by simp only [EVs,gq0,gq1,gq2,gq3,hp])
    rw [iy,t]
    rfl
   refine ⟨.tup [.int i,tupI Y[i]],[some (.ref b),some (.ref e),some (.int i),some (tupI Y[i])],_,_,?_,rfl,.inl (by rw [uD,af (by rw [cZ hT,ao]),ao]),_,_,rfl,rfl⟩
   rw [dz (w:=tupI Y[i])]
   rw [bB hq,aJ (by simpa using hi),List.getElem_map])
  (fun ρ M'=>by
   rintro ⟨_,_,_,rfl⟩
   rw [cM]
   rw [bB hq]
   exact aG (by simp))
 refine dQ (d:=⟨2,4,b19⟩) (ρ:=[some (.ref b),some (.ref e),o2,o3]) rfl rfl ?_
 show aF _ b19 [some (.ref b),some (.ref e),none,none] m=_
 have hT2:evT (Cn pg (n+1)) (.cmp .NotEq (.blt .len (.cons (.var 1) .nil)) (.blt .len (.cons (.var 0) .nil))) [some (.ref b),some (.ref e),o2,o3] (m++[.lst (Y.map tupI)])=.ok false (m++[.lst (Y.map tupI)]):=by
  simp only [bZ,dU,av,aB,ay,gq0,gq1,gq2,gq3,aj,uH h'.r,uH h'.t,List.length_map,ak,eqI,htl]
  simp
 rw [b19,af hf,af (by rw [cZ hT2,ao]),ao]
theorem qS (l:List Str):cK (l.map .str)=some l:=by
 induction l with
 | nil=>rfl
 | cons x r ih=>simp [cK,ih]
noncomputable def isP (w:Str):W->Bool
 | .tup (.str v::_)=>decide (v=w)
 | _=>false
noncomputable def AR:W->W
 | .tup (_::y::_)=>y
 | _=>.non
theorem uI {w:Str}:∀{ps:List Pc},(∀p∈ps,p.1=w->∃z,p.2.1=[z])->((ps.map pcW).filter (isP w)).map AR=(fnd w ps).map .str:=by
 intro ps
 induction ps with
 | nil=>intro _; rfl
 | cons p r ih=>
  intro h
  have ih:=ih λ x hx=>h x (List.mem_cons_of_mem _ hx)
  unfold fnd at ih ⊢
  have e:isP w (pcW p)=decide (p.1=w):=rfl
  rw [List.map_cons,List.filter_cons,List.filter_cons,e]
  by_cases hp:p.1=w
  ·obtain ⟨z,hz⟩:=h p List.mem_cons_self hp
   rw [if_pos (by simp [hp]),if_pos (by simp [hp]),List.map_cons,ih,List.flatMap_cons,hz]
   show AR (.tup (.str p.1::(p.2.1.map .str++p.2.2.map .int)))::_=_
   rw [hz]
   rfl
  ·rw [if_neg (by simp [hp]),if_neg (by simp [hp])]
   exact ih
theorem xo {w:Str} {ps:List Pc} (h:∀p∈ps,p.1=w->∃z,p.2.1=[z]):(fnd w ps).length<=ps.length:=by
 have:=congrArg List.length (uI h)
 rw [List.length_map,List.length_map] at this
 have h2:=List.length_filter_le (isP w) (ps.map pcW)
 rw [List.length_map] at h2
 omega
theorem l0 {w:Str} {q:Nat} {nl:List Str} (hm:Cm m) (hw:w="coil"\/w="lamp") (hd:m[d]?=some (.lst (ps.map pcW))) (hq:m[q]?=some (.lst (nl.map .str))) (hc:∀z∈nl,(fnd w ps).count z=1) (hp:∀p∈ps,∃sw rl lm nodes,iD sw rl lm nodes p) (hl:ps.length<=800) :
  ∃l,aE (D.runN pg (n+1) 18) [.str w,.ref q,.ref d] m=.ok .non (m++l)/\Cm (m++l):=by
 have hwo:w.cps.all (· < 0x110000)=true:=iE (.inr (by rcases hw with rfl | rfl; exact ⟨_,.coil⟩; exact ⟨_,.lamp⟩))
 have hk:∀p∈ps,p.1.cps.all (· < 0x110000)=true/\(p.1=w->∃z,p.2.1=[z]):=λ p hpp=>by
  obtain ⟨_,_,_,_,hok⟩:=hp p hpp
  rcases hok.kind with ⟨h1,_,_⟩ | ⟨z,k,h1,h2,_⟩
  ·refine ⟨iE (.inl h1),λ e=>?_⟩
   rw [h1] at e
   rcases hw with rfl | rfl
   ·exact absurd e (by decide +kernel)
   ·exact absurd e (by decide +kernel)
  ·exact ⟨iE (.inr ⟨k,h2⟩),λ _=>⟨z,h1⟩⟩
 have hlim:(ps.map pcW).length<=lim:=by rw [List.length_map]; simp only [lim]; omega
 have hx0:∀x∈ps.map pcW,∃p∈ps,x=pcW p:=λ x hx=>by
  obtain ⟨p,hp,e⟩:=List.mem_map.mp hx
  exact ⟨p,hp,e.symm⟩
 obtain ⟨ρ1,hcm⟩:=fC (C:=Cn pg n) (get:=Src.get (.lst d)) (t:=.var 6) (ifs:=.cons (.cmp .Eq (.idx (.var 6) (.cst (.int 0))) (.var 0)) .nil) (e:=.idx (.var 6) (.cst (.int 1))) (ρ:=clr [6] [some (.str w),some (.ref q),some (.ref d),none,none,none,none]) (m:=m) (xs:=ps.map pcW) (B:=λ x=>(clr [6] [some (.str w),some (.ref q),some (.ref d),none,none,none,none]).set 6 (some x)) (p:=isP w) (g:=AR)
  (λ j hj=>by rw [bB hd,aJ hj]) (by rw [bB hd]; exact aG (by omega)) (λ x _=>by simp only [aD]) (λ x _ y _=>by simp only [aD,List.set_set]) (λ x hx=>by
   obtain ⟨p,hpp,rfl⟩:=hx0 x hx
   have e:=eqS (m:=m) (hk p hpp).1 hwo
   simp only [clr,aN,bZ,dS,ay,aV,gq0,gq1,gq2,gq3,aj,pc0,ak,e]
   show (if decide (p.1=w)=true then R.ok true m else R.ok false m)=.ok (decide (p.1=w)) m
   cases decide (p.1=w)<;>rfl) (λ x hx hpx=>by
   obtain ⟨p,hpp,rfl⟩:=hx0 x hx
   obtain ⟨z,hz⟩:=(hk p hpp).2 (of_decide_eq_true hpx)
   obtain ⟨v,zs,es⟩:=p
   have hz:zs=[z]:=hz
   subst hz
   have e:=iA (m:=m) (w:=pcW (v,[z],es)) (xs:=.str v::([z].map .str++es.map .int)) (i:=1) rfl (by simp)
   simp only [clr,dS,ay,aV,gq0,gq1,gq2,gq3,aj]
   exact e) hlim
 rw [uI λ p hpp=>(hk p hpp).2] at hcm
 have hfl:=xo (w:=w) (ps:=ps) λ p hpp=>(hk p hpp).2
 have eC:evE (Cn pg n) (.comp (.gen (.var 6) [6] (.var 2) (.cons (.cmp .Eq (.idx (.var 6) (.cst (.int 0))) (.var 0)) .nil) (.elt (.idx (.var 6) (.cst (.int 1)))))) [some (.str w),some (.ref q),some (.ref d),none,none,none,none] m=.ok (.ref m.length) (m++[.lst ((fnd w ps).map .str)]):=by
  refine cL (s:=.lst d) (js:=[6]) (m1:=m) (ρ':=ρ1) ?_ ?_
  ·rw [fD,ay]
   simp only [gq0,gq1,gq2,gq3,aj,toI,nj,srcOf,getL,hd]
  ·have hlen:Src.len (.lst d) m=(ps.map pcW).length:=by simp only [Src.len,getL,hd]
   rw [hlen]
   exact hcm
 have hc1:Cm (m++[.lst ((fnd w ps).map .str)]):=hm.push (o:=.lst ((fnd w ps).map .str)) (aI _ (aU _))
 have hf0:(m++[O.lst ((fnd w ps).map .str)])[m.length]?=some (.lst ((fnd w ps).map .str)):=by simp
 have hq':(m++[O.lst ((fnd w ps).map .str)])[q]?=some (.lst (nl.map .str)):=by rw [List.getElem?_append_left (List.getElem?_eq_some_iff.mp hq).1]; exact hq
 refine ⟨_,?_,hc1⟩
 generalize m++[O.lst ((fnd w ps).map .str)]=M at eC hf0 hq' hc1 ⊢
 rw [aO (by simp [ah,aC])]
 have hI:evI (Cn pg n) (.enm (.var 1)) [some (.str w),some (.ref q),some (.ref d),some (.ref m.length),none,none,none] M=.ok (.enm (.lst q)) M:=by
  simp only [evI,ay,gq0,gq1,gq2,gq3,aj,srcOf,getL,hq']
 obtain ⟨ρ',m',hf,o4,o5,rfl,rfl⟩:=bP (C:=Cn pg n) (t:=.tup (.cons (.var 4) (.cons (.var 5) .nil))) (b:=uC) hI (n:=nl.length) (by simp [Src.len,getL,hq'])
  (λ i ρ M'=>∃o4 o5,ρ=[some (.str w),some (.ref q),some (.ref d),some (.ref m.length),o4,o5,none]/\M'=M) ⟨none,none,rfl,rfl⟩ (λ i ρ M' hi=>by
   rintro ⟨o4,o5,rfl,rfl⟩
   have h1:=hc nl[i] (List.getElem_mem hi)
   have hkd:kdOf M' (.ref m.length)=kdM "count":=by simp only [kdOf,hf0]; decide
   have hct:aM (.ref m.length) "count" [.str nl[i]] M'=.ok (.int 1) M':=by
    simp only [aM,hf0,bY,String.reduceEq,if_false,if_true,jN,qS,h1]
    rfl
   have hT:evT (Cn pg n) (.cmp .NotEq (.meth (.var 3) "count" (.cons (.var 5) .nil)) (.cst (.int 1))) [some (.str w),some (.ref q),some (.ref d),some (.ref m.length),some (.int i),some (.str nl[i]),none] M'=.ok false M':=by
    simp only [bZ,eX,ay,aV,av,aB,gq0,gq1,gq2,gq3,aj]
    rw [if_pos hkd,hct]
    simp only [aj,ak,eqI]
    rfl
   refine ⟨.tup [.int i,.str nl[i]],[some (.str w),some (.ref q),some (.ref d),some (.ref m.length),some (.int i),some (.str nl[i]),none],_,_,?_,rfl,.inl (by rw [uC,af (by rw [cZ hT,ao]),ao]),_,_,rfl,rfl⟩
   rw [dz (w:=.str nl[i])]
   rw [bB hq',aJ (by simpa using hi),List.getElem_map])
  (fun ρ M'=>by
   rintro ⟨_,_,_,rfl⟩
   rw [cM]
   rw [bB hq']
   exact aG (by simp))
 refine dQ (d:=⟨3,7,b18⟩) (ρ:=[some (.str w),some (.ref q),some (.ref d),some (.ref m.length),o4,o5,none]) rfl rfl ?_
 show aF _ b18 [some (.str w),some (.ref q),some (.ref d),none,none,none,none] m=_
 rw [b18,af (aK eC rfl)]
 simp only [gq0,gq1,gq2,gq3]
 rw [af hf,ao]
theorem qT (hm:Cm m) (h:Hd m a b c d e ks rl lm ps ts) (o:bC ks rl lm nodes ps ts):∃l,aE (D.runN pg (n+1+1+1+1+1) 7) [.ref a,.ref b,.ref c,.int nodes,.ref d,.ref e] m=.ok .non (m++l)/\Cm (m++l):=by
 have hpc:∀p∈ps,∃sw rl lm nodes,iD sw rl lm nodes p:=λ p hp=>⟨_,_,_,_,o.pc p hp⟩
 have e1:=lX (n:=n+1) hm h o
 have e2:=nV (n:=n+1+1+1) h o
 have e3:=lY (n:=n+1+1+1) (m:=m) o.n2 o.n6 o.p8
 obtain ⟨l1,e4,c1⟩:=j9 (n:=n) hm h o
 have h1:=h.app (l:=l1)
 obtain ⟨l2,e5,c2⟩:=l0 (n:=n+1+1+1) (w:="coil") c1 (.inl rfl) h1.p h1.r o.co hpc o.p8
 have h2:=h1.app (l:=l2)
 obtain ⟨l3,e6,c3⟩:=l0 (n:=n+1+1+1) (w:="lamp") c2 (.inr rfl) h2.p h2.l o.la hpc o.p8
 have h3:=h2.app (l:=l3)
 obtain ⟨l4,e7,c4⟩:=lZ (n:=n+1+1) c3 h3 o
 refine ⟨l1++l2++l3++l4,?_,by simpa [List.append_assoc] using c4⟩
 rw [aO rfl]
 refine dQ (d:=⟨6,6,b7⟩) (ρ:=[some (.ref a),some (.ref b),some (.ref c),some (.int nodes),some (.ref d),some (.ref e)]) rfl rfl ?_
 show aF _ b7 [some (.ref a),some (.ref b),some (.ref c),some (.int nodes),some (.ref d),some (.ref e)] m=_
 rw [b7,af (bA (w:=.non) (m1:=m) (by simp only [EVs,gq0,gq1,gq2,gq3,e1])),af (bA (w:=.non) (m1:=m) (by simp only [EVs,gq0,gq1,gq2,gq3,e2])),af (bA (w:=.non) (m1:=m) (by simp only [EVs,gq0,gq1,gq2,gq3,uH h.p,List.length_map,e3])),af (bA (w:=.non) (m1:=m++l1) (by simp only [EVs,gq0,gq1,gq2,gq3,e4])),af (bA (w:=.non) (m1:=m++l1++l2) (by simp only [EVs,gq0,gq1,gq2,gq3,e5])),af (bA (w:=.non) (m1:=m++l1++l2++l3) (by simp only [EVs,gq0,gq1,gq2,gq3,e6])),af (bA (w:=.non) (m1:=m++l1++l2++l3++l4) (by simp only [EVs,gq0,gq1,gq2,gq3,e7])),ao]
 simp [List.append_assoc]
end
end My
end
section
namespace My
open PySem D
abbrev fzS (l:List Str):W:=.fz (l.map .str)
theorem dW {C:D.Cx} {e:E} {ρ:D.Loc} {m:Mem} {w:W} {xs:List W} (he:evE C e ρ m=.ok w m) (h:getL m w=some xs) (hm:Cm m) (hp:ah xs=true):evE C (.frz (.blt .list (.cons e .nil))) ρ m=.ok (.fz xs) m:=by
 refine bQ (m0:=m) ?_ rfl hm hp
 rw [dU,av,he]
 simp only [aj,aB,bf,j6 h,new]
theorem f6 {m:Mem} {p:Nat} {f:Str} {fs fs':List (Str×W)} {v:W} (hp:m[p]?=some (.ins "Net" fs)) (hc:cs.flds.contains (("Net":Str),f)=true) (hl:fs.length < 1000) (hf:D.cu f v fs=fs'):kZ cs (.ref p) f v m=.ok () (m.set p (.ins "Net" fs')):=by
 simp only [kZ,hp]
 rw [if_pos ⟨hc,hl⟩,hf]
theorem uJ (p:Pc):aC (pcW p)=true:=by
 simp only [aC,ah,Bool.true_and]
 rw [yg,aU,dB]
 rfl
theorem bF (ps:List Pc):ah (ps.map pcW)=true:=uh uJ ps
theorem cR (ts:List (List Int)):ah (ts.map tupI)=true:=uh (λ t=>by simp [aC,dB]) ts
abbrev cj (ks rl lm:List Str) (nodes:Nat) (ps:List Pc) (ts:List (List Int)):List (Str×W):=[("key_list",fzS ks),("relay_list",fzS rl),("lamp_list",fzS lm),("many_nodes",.int nodes),("piece_list",.fz (ps.map pcW)),("time_list",.fz (ts.map tupI))]
abbrev bz (ks rl lm:List Str) (nodes:Nat) (ps:List Pc) (ts:List (List Int)):W:=.obj "Net" ["key_list","relay_list","lamp_list","many_nodes","piece_list","time_list"] [fzS ks,fzS rl,fzS lm,.int nodes,.fz (ps.map pcW),.fz (ts.map tupI)]
theorem uK {m:Mem} {p:Nat} {fs:List (Str×W)} (h:Cm m) (hp:ah (fs.map (·.2))=true):Cm (m.set p (.ins "Net" fs)):=h.set (aI _ hp)
section
variable {n:Nat} {m:Mem} {a b c d e:Nat} {ks rl lm:List Str} {nodes:Nat} {ps:List Pc} {ts:List (List Int)}
theorem Hd.ins {p:Nat} {fs gs:List (Str×W)} (h:Hd m a b c d e ks rl lm ps ts) (hp:m[p]?=some (.ins "Net" fs)):Hd (m.set p (.ins "Net" gs)) a b c d e ks rl lm ps ts:=by
 have g:∀{i:Nat} {xs:List W},m[i]?=some (.lst xs)->(m.set p (.ins "Net" gs))[i]?=some (.lst xs):=λ {i xs} q=>by
  rw [List.getElem?_set_ne]
  ·exact q
  ·rintro rfl
   rw [hp] at q; cases q
 exact ⟨g h.k,g h.r,g h.l,g h.p,g h.t⟩
theorem uL {p:Nat} (hm:Cm m) (hp:m[p]?=some (.ins "Net" [])) (h:Hd m a b c d e ks rl lm ps ts) (o:bC ks rl lm nodes ps ts) :
  ∃l,D.runN pg (n+1+1+1+1+1+1) 0 [.ref p,.ref a,.ref b,.ref c,.int nodes,.ref d,.ref e] m=.ok .non ((m++l).set p (.ins "Net" (cj ks rl lm nodes ps ts)))/\Cm ((m++l).set p (.ins "Net" (cj ks rl lm nodes ps ts))):=by
 obtain ⟨l,d0,c0⟩:=qT (n:=n) hm h o
 have hlt:p < m.length:=(List.getElem?_eq_some_iff.mp hp).1
 have hp0:(m++l)[p]?=some (.ins "Net" []):=by rw [List.getElem?_append_left hlt]; exact hp
 have h0:=h.app (l:=l)
 refine ⟨l,?_,uK c0 (by simp [ah,aC,aU,bF,cR])⟩
 generalize m++l=M at d0 c0 hp0 h0 ⊢
 have hlM:p < M.length:=(List.getElem?_eq_some_iff.mp hp0).1
 have g:∀o:O,(M.set p o)[p]?=some o:=λ o=>by rw [List.getElem?_set_self hlM]
 have cm:∀fs:List (Str×W),ah (fs.map (·.2))=true->Cm (M.set p (.ins "Net" fs)):=λ fs hf=>uK c0 hf
 have hh:∀fs:List (Str×W),Hd (M.set p (.ins "Net" fs)) a b c d e ks rl lm ps ts:=λ fs=>h0.ins hp0
 have gL:∀{M':Mem} {i:Nat} {xs:List W},M'[i]?=some (.lst xs)->getL M' (.ref i)=some xs:=λ q=>by simp only [getL,q]
 refine dQ (d:=⟨7,7,b0⟩) (ρ:=[some (.ref p),some (.ref a),some (.ref b),some (.ref c),some (.int nodes),some (.ref d),some (.ref e)]) rfl rfl ?_
 show aF _ b0 [some (.ref p),some (.ref a),some (.ref b),some (.ref c),some (.int nodes),some (.ref d),some (.ref e)] m=_
 have v0:∀M',evE (Cn pg (n+1+1+1+1+1)) (.var 0) [some (.ref p),some (.ref a),some (.ref b),some (.ref c),some (.int nodes),some (.ref d),some (.ref e)] M'=.ok (.ref p) M':=λ M'=>by simp only [EVs,gq0,gq1,gq2,gq3]
 rw [b0,af (bA (w:=.non) (m1:=M) (by simp only [EVs,gq0,gq1,gq2,gq3,d0]))]
 rw [af (fW (dW (w:=.ref a) (by simp only [EVs,gq0,gq1,gq2,gq3]) (gL h0.k) c0 (aU _)) (v0 _) (f6 (fs':=[("key_list",fzS ks)]) hp0 rfl (by decide) rfl))]
 rw [af (fW (dW (w:=.ref b) (by simp only [EVs,gq0,gq1,gq2,gq3]) (gL (hh _).r) (cm _ (by simp [ah,aC,aU])) (aU _)) (v0 _) (f6 (fs':=[("key_list",fzS ks),("relay_list",fzS rl)]) (g _) rfl (by simp) rfl)),List.set_set]
 rw [af (fW (dW (w:=.ref c) (by simp only [EVs,gq0,gq1,gq2,gq3]) (gL (hh _).l) (cm _ (by simp [ah,aC,aU])) (aU _)) (v0 _) (f6 (fs':=[("key_list",fzS ks),("relay_list",fzS rl),("lamp_list",fzS lm)]) (g _) rfl (by simp) rfl)),List.set_set]
 rw [af (fW (w:=.int nodes) (m1:=M.set p (.ins "Net" [("key_list",fzS ks),("relay_list",fzS rl),("lamp_list",fzS lm)])) (by simp only [EVs,gq0,gq1,gq2,gq3]) (v0 _) (f6 (fs':=[("key_list",fzS ks),("relay_list",fzS rl),("lamp_list",fzS lm),("many_nodes",.int nodes)]) (g _) rfl (by simp) rfl)),List.set_set]
 rw [af (fW (dW (w:=.ref d) (by simp only [EVs,gq0,gq1,gq2,gq3]) (gL (hh _).p) (cm _ (by simp [ah,aC,aU])) (bF _)) (v0 _) (f6 (fs':=[("key_list",fzS ks),("relay_list",fzS rl),("lamp_list",fzS lm),("many_nodes",.int nodes),("piece_list",.fz (ps.map pcW))]) (g _) rfl (by simp) rfl)),List.set_set]
 rw [af (fW (dW (w:=.ref e) (by simp only [EVs,gq0,gq1,gq2,gq3]) (gL (hh _).t) (cm _ (by simp [ah,aC,aU,bF])) (cR _)) (v0 _) (f6 (fs':=cj ks rl lm nodes ps ts) (g _) rfl (by simp) rfl)),List.set_set,ao]
theorem made {q:Nat} (hm:Cm m) (hq:m[q]?=some (.lst [.ref a,.ref b,.ref c,.int nodes,.ref d,.ref e])) (h:Hd m a b c d e ks rl lm ps ts) (o:bC ks rl lm nodes ps ts) :
  ∃l,aE (D.runN pg (n+1+1+1+1+1+1+1) 29) [.ref q] m=.ok (.ref m.length) (m++.ins "Net" (cj ks rl lm nodes ps ts)::l)/\Cm (m++.ins "Net" (cj ks rl lm nodes ps ts)::l):=by
 have hp:(m++[O.ins "Net" []])[m.length]?=some (.ins "Net" []):=by simp
 obtain ⟨l,h1,c1⟩:=uL (n:=n) (hm.push (o:=.ins "Net" []) rfl) hp h.app o
 have h2:((m++[O.ins "Net" []])++l).set m.length (.ins "Net" (cj ks rl lm nodes ps ts))=m++.ins "Net" (cj ks rl lm nodes ps ts)::l:=by
  rw [List.append_assoc,List.set_append_right _ _ (Nat.le_refl _),Nat.sub_self]
  rfl
 rw [h2] at h1 c1
 refine ⟨l,?_,c1⟩
 rw [aO rfl]
 refine bx (d:=⟨1,1,b29⟩) rfl rfl ?_
 show aF _ b29 [some (.ref q)] m=_
 have hi:cs.ini.lookup ("Net":Str)=some 0:=rfl
 have gx:bG m (.ref q)=some [.ref a,.ref b,.ref c,.int nodes,.ref d,.ref e]:=j6 (by simp only [getL,hq])
 have ix:aQ (.ref q) (.int 0) m=.ok (.ref a) m/\aQ (.ref q) (.int 1) m=.ok (.ref b) m/\aQ (.ref q) (.int 2) m=.ok (.ref c) m/\aQ (.ref q) (.int 3) m=.ok (.int nodes) m/\aQ (.ref q) (.int 4) m=.ok (.ref d) m/\aQ (.ref q) (.int 5) m=.ok (.ref e) m:=by
  simp only [aQ,gx]
  exact ⟨rfl,rfl,rfl,rfl,rfl,rfl⟩
 obtain ⟨i0,i1,i2,i3,i4,i5⟩:=ix
 rw [b29,aW (bg (w:=.ref m.length) (m1:=m++.ins "Net" (cj ks rl lm nodes ps ts)::l) ?_)]
 rw [uv]
 simp only [av,aB,dS,ay,aV,gq0,gq1,gq2,gq3,aj,i0,i1,i2,i3,i4,i5]
 simp only [fQ,Cn,pg,hi]
 have:aE (D.runN pg (n+1+1+1+1+1+1) 0) [.ref m.length,.ref a,.ref b,.ref c,.int nodes,.ref d,.ref e] (m++[O.ins "Net" []])=.ok .non (m++.ins "Net" (cj ks rl lm nodes ps ts)::l):=by rw [aO rfl,h1]
 simp only [pg] at this
 rw [this]
 rfl
end
end My
end
section
namespace My
open PySem D
theorem toNat_eq {d:Int} (h:0<=d):((d.toNat:Nat):Int)=d:=by omega
theorem D4 {n:Nat}:Draws (D.runN pg (n+1) 22):=by
 intro m p many hp h0 h1
 obtain ⟨A,B,hm⟩:=hp
 have hp:p < m.length:=(List.getElem?_eq_some_iff.mp hm).1
 have hs:∀o:O,(m.set p o)[p]?=some o:=λ o=>by simp [hp]
 by_cases hA:0 < A
 ·refine ⟨A%many,m.set p (pot (A / many) B),?_,⟨_,_,rfl⟩,Int.emod_nonneg _ (by omega),Int.emod_lt_of_pos _ h0⟩
  simp [D.runN,pg,b22,cH,aF,evS,evT,evE,aH,evA,cP,aD,R.bind,ak,aQ,bG,getL,hm,L2.atI,L2.ixN,bf,kX,outF,hA,h0,h1]
 ·refine ⟨_,m.set p (pot A ((B*48271)%2147483647)),?_,⟨_,_,rfl⟩,Int.emod_nonneg (((B*48271)%2147483647)*((B*48271)%2147483647)%2147483629 / 7) (by omega:many≠0),Int.emod_lt_of_pos _ h0⟩
  have g0:0<=(B*48271)%2147483647:=Int.emod_nonneg _ (by decide)
  have g1:(B*48271)%2147483647 < 2147483647:=Int.emod_lt_of_pos _ (by decide)
  have g2:eN B 48271=true:=by simp [eN]
  have g3:eN ((B*48271)%2147483647) ((B*48271)%2147483647)=true:=by simp [eN]; omega
  simp [D.runN,pg,b22,cH,aF,evS,evT,evE,aH,evA,cP,aD,R.bind,ak,aQ,bG,getL,hm,hs,L2.atI,L2.ixN,bf,kX,outF,hA,h0,h1,binop,g2,g3]
theorem draw {n:Nat} {m:Mem} {p:Nat} {many:Int} (hp:Pot m p) (h0:0 < many) (h1:many < 1073741824):∃d:Nat,∃m',aE (D.runN pg (n+1) 22) [.ref p,.int many] m=.ok (.int d) m'/\PS p m m'/\(d:Int) < many:=by
 rw [aO rfl]
 obtain ⟨d,m',h,s,z0,z1⟩:=D4 hp h0 h1
 exact ⟨d.toNat,m',by rw [toNat_eq z0]; exact h,s,by omega⟩
theorem D5 {n:Nat} {m:Mem} {ns:List Int} {k:Nat} (hk:k < 100):∃A B,aE (D.runN pg (n+1) 21) [.fz (ns.map .int),.int k] m=.ok (.ref m.length) (m++[pot A B]):=by
 have g:eN 7919 k=true:=by simp [eN]
 obtain ⟨A,B,hr⟩:∃A B,D.runN pg (n+1) 21 [.fz (ns.map .int),.int k] []=.ok (.ref 0) [pot A B]:=by
  by_cases h:k < ns.length
  ·have h':(k:Int) < ns.length:=by omega
   refine ⟨if ns[k] - 10^18>0 then ns[k] - 10^18 else 0,((if ns[k] < 0 then -ns[k] else ns[k])+7919*k+31)%2147483646+1,?_⟩
   simp [D.runN,pg,b21,cH,aF,evS,evT,evE,aH,evA,aD,R.bind,ak,aQ,bG,getL,L2.atI,L2.ixN,bf,binop,outF,h,h',g,new,lim]
  ·have h':¬(k:Int) < ns.length:=by omega
   refine ⟨0,(0+7919*k+31)%2147483646+1,?_⟩
   simp [D.runN,pg,b21,cH,aF,evS,evT,evE,aH,evA,aD,R.bind,ak,aQ,bG,getL,L2.atI,L2.ixN,bf,binop,outF,h,h',g,new,lim]
 exact ⟨A,B,(eB (m:=m) (by simp [ah,aC,dB]) hr rfl).trans rfl⟩
theorem yq:("abcdefghijklmnopqrstuvwxyz":Str).cps.toList=(List.range 26).map (97+·):=by decide +kernel
abbrev ab:W:=.str "abcdefghijklmnopqrstuvwxyz"
theorem D6 {d:Nat} (h:d < 26) (m:Mem):aQ ab (.int d) m=.ok (.str ⟨#[97+d]⟩) m:=by
 have hl:("abcdefghijklmnopqrstuvwxyz":Str).length<=lim:=by decide +kernel
 simp only [aQ]
 rw [if_pos hl,yq,pq (i:=d) (by simpa using h)]
 simp
theorem Wd.small {z:Str} (h:Wd z):z.cps.all (· < 0x110000)=true:=by
 rw [Array.all_eq_true]
 intro i hi
 have:=h.az z.cps[i] (by simp)
 simp
 omega
noncomputable def ws (cs:List Nat):Str:=⟨cs.toArray⟩
theorem yr {cs:List Nat} (h1:1<=cs.length) (h8:cs.length<=8) (ha:∀c∈cs,97<=c/\c<=122):Wd (ws cs):=⟨by simpa [ws] using h1,by simpa [ws] using h8,λ c hc=>ha c (by simpa [ws] using hc)⟩
theorem AS {cs:List Nat} {c:Nat} {m:Mem} (h:cs.length<=100):binop .Add (.str (ws cs)) (.str ⟨#[c]⟩) m=.ok (.str (ws (cs++[c]))) m:=by
 have e:(ws cs).length+(⟨#[c]⟩:Str).length<=lim:=by simp [qM,ws,lim]; omega
 simp only [binop]
 rw [if_pos e]
 congr 2
 show Str.mk (cs.toArray++#[c])=_
 simp [ws]
end My
end
section
namespace My
open PySem D
section
variable {C:D.Cx} {i:Nat} {js:List Nat} {it e:E} {ifs:Es} {ρ:D.Loc} {m:Mem} {xs:List W} {s:Src} {p:W->Bool} {g:W->W} {t:T} {B:W->D.Loc}
theorem AU (hm:Cm m) (hI:evI C it ρ m=.ok s m) (hg:∀j,s.get m j=Src.get (.tup xs) m j) (hn:s.len m=xs.length) (h0:∀x∈xs,aD t x (clr js ρ)=some (B x)) (h1:∀x∈xs,∀y∈xs,aD t y (B x)=some (B y)) (ht:∀x∈xs,aN C ifs (B x) m=.ok (p x) m)
  (he:∀x∈xs,p x=true->evE C e (B x) m=.ok (g x) m) (hp:∀x∈xs,p x=true->aC (g x)=true) (hl:xs.length<=lim):evE C (.frz (.comp (.gen t js it ifs (.elt e)))) ρ m=.ok (.fz ((xs.filter p).map g)) m:=by
 obtain ⟨ρ',hc⟩:=fC (C:=C) (get:=s.get) (t:=t) (ifs:=ifs) (e:=e) (ρ:=clr js ρ) (m:=m) (xs:=xs) (B:=B) (p:=p) (g:=g) (λ j hj=>by rw [hg,aJ hj]) (by rw [hg]; exact aG (by omega)) h0 h1 ht he hl
 refine bQ (cL (js:=js) (ifs:=ifs) (g:=.elt e) hI (by rw [hn]; exact hc)) rfl hm (bD.mpr λ x hx=>?_)
 obtain ⟨y,hy,rfl⟩:=List.mem_map.mp hx
 obtain ⟨hy,hpy⟩:=List.mem_filter.mp hy
 exact hp y hy hpy
theorem CP (hm:Cm m) (hI:evI C it ρ m=.ok s m) (hg:∀j,s.get m j=Src.get (.tup xs) m j) (hn:s.len m=xs.length) (ht:∀x∈xs,aN C ifs ((clr js ρ).set i (some x)) m=.ok (p x) m)
  (he:∀x∈xs,p x=true->evE C e ((clr js ρ).set i (some x)) m=.ok (g x) m) (hp:∀x∈xs,p x=true->aC (g x)=true) (hl:xs.length<=lim):evE C (.frz (.comp (.gen (.var i) js it ifs (.elt e)))) ρ m=.ok (.fz ((xs.filter p).map g)) m:=
 AU hm hI hg hn (λ x _=>by simp only [aD]) (λ x _ y _=>by simp only [aD,List.set_set]) ht he hp hl
end
theorem AV:L2.asc ("abcdefghijklmnopqrstuvwxyz":Str)=true:=by decide +kernel
theorem dX:signs ("abcdefghijklmnopqrstuvwxyz":Str)=(List.range 26).map λ d=>W.str ⟨#[97+d]⟩:=by
 unfold signs
 rw [yq,List.map_map]
 rfl
theorem AW (cs:List Nat):Txt.slice (ws cs) none (some 7)=ws (cs.take 7):=by
 have:=L2.sD (ws cs) 7
 rw [show ((7:Nat):Int)=7 from rfl] at this
 rw [this]
 simp [ws]
section
variable {C:D.Cx} {i p:Nat} {js:List Nat} {it e:E} {ρ:D.Loc} {m:Mem} {xs:List W} {s:Src} {Rr:W->W->Prop}
theorem pH (hp:Pot m p) (hm:Cm m) (hI:evI C it ρ m=.ok s m) (hg:∀M j,s.get M j=Src.get (.tup xs) M j) (hn:s.len m=xs.length) (hl:xs.length<=lim)
  (he:∀x∈xs,∀m1,PS p m m1->∃w m2,evE C e ((clr js ρ).set i (some x)) m1=.ok w m2/\PS p m1 m2/\aC w=true/\Rr x w) :
  ∃ws m',evE C (.frz (.comp (.gen (.var i) js it .nil (.elt e)))) ρ m=.ok (.fz ws) m'/\PS p m m'/\ws.length=xs.length/\∀(j:Nat) (h:j < xs.length) (h':j < ws.length),Rr xs[j] ws[j]:=by
 obtain ⟨acc,ρ',m',e1,h1,h2,h3,h4,h5⟩:=cB (get:=s.get) (t:=.var i) (test:=fun ρ m=>aN C .nil ρ m) (body:=fun ρ m acc=>evG C (.elt e) ρ m acc) (n:=xs.length)
  (λ j ρ1 m1 acc=>(∀o,ρ1.set i o=(clr js ρ).set i o)/\PS p m m1/\acc.length=j/\(∀w∈acc,aC w=true)/\∀(k:Nat) (h:k < xs.length) (h':k < acc.length),Rr xs[k] acc[k]) (λ j ρ1 m1 acc hj=>by
   rintro ⟨h1,h2,h3,h4,h5⟩
   obtain ⟨w,m2,e1,e2,e3,e4⟩:=he xs[j] (List.getElem_mem hj) m1 h2
   refine ⟨xs[j],(clr js ρ).set i (some xs[j]),by rw [hg,aJ hj],by simp only [aD,h1],.inl ⟨m1,acc++[w],(clr js ρ).set i (some xs[j]),m2,by simp only [aN],?_,λ o=>by simp,h2.trans e2,by simp [h3],λ y hy=>?_,λ k hk hk'=>?_⟩⟩
   ·have:acc.length < lim:=by omega
    simp only [evG,e1,R.bind,this,if_true]
   ·rcases List.mem_append.mp hy with hy | hy
    ·exact h4 y hy
    ·rw [List.mem_singleton] at hy; subst hy; exact e3
   ·by_cases hka:k < acc.length
    ·rw [List.getElem_append_left hka]; exact h5 k hk hka
    ·have hk2:k=acc.length:=by simp at hk'; omega
     subst hk2
     rw [List.getElem_append_right (Nat.le_refl _)]
     simp only [h3,Nat.sub_self,List.getElem_cons_zero]
     exact e4) (fun ρ m acc _=>by rw [hg]; exact aG (by omega)) xs.length 0 (clr js ρ) m [] (by omega) ⟨λ _=>rfl,hp.refl,rfl,by simp,λ k h h'=>by simp at h'⟩
 refine ⟨acc,m',bQ (m0:=m') (cL (js:=js) (ifs:=.nil) (g:=.elt e) hI (by rw [hn]; exact e1)) h2.len (h2.cm hm) (bD.mpr h4),h2,h3,h5⟩
end
theorem gC (k:Nat) (M:Mem) (j:Nat):Src.get (.rng 0 k) M j=Src.get (.tup ((List.range k).map λ t=>W.int (t:Nat))) M j:=by
 by_cases h:j < k
 ·rw [eW h,aJ (by simpa using h)]; simp
 ·rw [dR h,aG (by simpa using h)]
section
variable {C:D.Cx} {i:Nat} {js:List Nat} {it e:E} {ρ:D.Loc} {m:Mem} {xs:List W} {s:Src}
theorem uM (I:Nat->Mem->List W->Prop) {m0:Mem} (hI:evI C it ρ m0=.ok s m) (hg:∀M j,I j M=I j M->s.get M j=Src.get (.tup xs) M j) (hn:s.len m=xs.length) (hl:xs.length<=lim) (h0:I 0 m [])
  (hs:∀(j:Nat) (h:j < xs.length) (M:Mem) (acc:List W),I j M acc->acc.length=j->∃w M2,evE C e ((clr js ρ).set i (some xs[j])) M=.ok w M2/\aC w=true/\I (j+1) M2 (acc++[w]))
  (hf:∀M acc,I xs.length M acc->M.length=m0.length/\Cm M) :
  ∃ws m',evE C (.frz (.comp (.gen (.var i) js it .nil (.elt e)))) ρ m0=.ok (.fz ws) m'/\I xs.length m' ws/\ws.length=xs.length:=by
 obtain ⟨acc,ρ',m',e1,h1,h2,h3,h4⟩:=cB (get:=s.get) (t:=.var i) (test:=fun ρ m=>aN C .nil ρ m) (body:=fun ρ m acc=>evG C (.elt e) ρ m acc) (n:=xs.length)
  (λ j ρ1 m1 acc=>(∀o,ρ1.set i o=(clr js ρ).set i o)/\I j m1 acc/\acc.length=j/\∀w∈acc,aC w=true) (λ j ρ1 m1 acc hj=>by
   rintro ⟨h1,h2,h3,h4⟩
   obtain ⟨w,m2,e1,e3,e4⟩:=hs j hj m1 acc h2 h3
   refine ⟨xs[j],(clr js ρ).set i (some xs[j]),by rw [hg m1 j rfl,aJ hj],by simp only [aD,h1],.inl ⟨m1,acc++[w],(clr js ρ).set i (some xs[j]),m2,by simp only [aN],?_,λ o=>by simp,e4,by simp [h3],λ y hy=>?_⟩⟩
   ·have:acc.length < lim:=by omega
    simp only [evG,e1,R.bind,this,if_true]
   ·rcases List.mem_append.mp hy with hy | hy
    ·exact h4 y hy
    ·rw [List.mem_singleton] at hy; subst hy; exact e3) (fun ρ m acc _=>by rw [hg m _ rfl]; exact aG (by omega)) xs.length 0 (clr js ρ) m [] (by omega) ⟨λ _=>rfl,h0,rfl,by simp⟩
 obtain ⟨f1,f2⟩:=hf _ _ h2
 exact ⟨acc,m',bQ (m0:=m') (cL (js:=js) (ifs:=.nil) (g:=.elt e) hI (by rw [hn]; exact e1)) f1 f2 (bD.mpr h4),h2,h3⟩
theorem uN (I:Nat->Mem->List W->Prop) {m0:Mem} (hI:evI C it ρ m0=.ok s m) (hg:∀M j,I j M=I j M->s.get M j=Src.get (.tup xs) M j) (hn:s.len m=xs.length) (hl:xs.length<=lim) (h0:I 0 m [])
  (hs:∀(j:Nat) (h:j < xs.length) (M:Mem) (acc:List W),I j M acc->acc.length=j->∃w M2,evE C e ((clr js ρ).set i (some xs[j])) M=.ok w M2/\aC w=true/\I (j+1) M2 (acc++[w])) :
  ∃ws m',evE C (.comp (.gen (.var i) js it .nil (.elt e))) ρ m0=.ok (.ref m'.length) (m'++[.lst ws])/\I xs.length m' ws/\ws.length=xs.length/\ah ws=true:=by
 obtain ⟨acc,ρ',m',e1,h1,h2,h3,h4⟩:=cB (get:=s.get) (t:=.var i) (test:=fun ρ m=>aN C .nil ρ m) (body:=fun ρ m acc=>evG C (.elt e) ρ m acc) (n:=xs.length)
  (λ j ρ1 m1 acc=>(∀o,ρ1.set i o=(clr js ρ).set i o)/\I j m1 acc/\acc.length=j/\∀w∈acc,aC w=true) (λ j ρ1 m1 acc hj=>by
   rintro ⟨h1,h2,h3,h4⟩
   obtain ⟨w,m2,e1,e3,e4⟩:=hs j hj m1 acc h2 h3
   refine ⟨xs[j],(clr js ρ).set i (some xs[j]),by rw [hg m1 j rfl,aJ hj],by simp only [aD,h1],.inl ⟨m1,acc++[w],(clr js ρ).set i (some xs[j]),m2,by simp only [aN],?_,λ o=>by simp,e4,by simp [h3],λ y hy=>?_⟩⟩
   ·have:acc.length < lim:=by omega
    simp only [evG,e1,R.bind,this,if_true]
   ·rcases List.mem_append.mp hy with hy | hy
    ·exact h4 y hy
    ·rw [List.mem_singleton] at hy; subst hy; exact e3) (fun ρ m acc _=>by rw [hg m _ rfl]; exact aG (by omega)) xs.length 0 (clr js ρ) m [] (by omega) ⟨λ _=>rfl,h0,rfl,by simp⟩
 exact ⟨acc,m',cL (js:=js) (ifs:=.nil) (g:=.elt e) hI (by rw [hn]; exact e1),h2,h3,bD.mpr h4⟩
end
end My
end
section
namespace My
open PySem D
theorem nW {α:Type}:∀{l:List α} {d:Nat} (h:d < l.length),(l[d]::l.eraseIdx d).Perm l:=by
 intro l
 induction l with
 | nil=>intro d h; simp at h
 | cons x r ih=>
  intro d h
  cases d with
  | zero=>exact List.Perm.refl _
  | succ d=>
   have hd:d < r.length:=by simpa using h
   show (r[d]::x::r.eraseIdx d).Perm (x::r)
   exact (List.Perm.swap x r[d] _).trans ((ih hd).cons x)
theorem kc {α β:Type} (f:α->β):∀(l:List α) (d:Nat),(l.map f).eraseIdx d=(l.eraseIdx d).map f:=by
 intro l
 induction l with
 | nil=>intro d; rfl
 | cons x r ih=>
  intro d
  cases d with
  | zero=>rfl
  | succ d=>show f x::(r.map f).eraseIdx d=_; rw [ih]; rfl
structure Ist (p q L:Nat) (all:List Int) (Z M:Mem) (ns rest:List Int):Prop where
 fr:∀i,i≠p->i≠q->M[i]?=Z[i]?
 pot:Pot M p
 cm:Cm M
 len:M.length=L
 at_:M[q]?=some (.lst (rest.map W.int))
 perm:(ns++rest).Perm all
theorem Ist.step {n p q L:Nat} {all:List Int} {Z M:Mem} {ns rest:List Int} (h:Ist p q L all Z M ns rest) (hpq:p≠q) (hr:0 < rest.length) (hl:rest.length<=1000) {ρ:D.Loc} (h0:ρ[0]?=some (some (.ref p))) (h3:ρ[3]?=some (some (.ref q))) :
  ∃a rest' M2,evE (Cn pg (n+1)) (.meth (.var 3) "pop" (.cons (.call 22 (.cons (.var 0) (.cons (.blt .len (.cons (.var 3) .nil)) .nil))) .nil)) ρ M=.ok (.int a) M2/\Ist p q L all Z M2 (ns++[a]) rest'/\rest'.length+1=rest.length:=by
 obtain ⟨d,m1,hd,s,d1⟩:=draw (n:=n) (many:=rest.length) h.pot (by omega) (by omega)
 have hq1:m1[q]?=some (.lst (rest.map W.int)):=(s.ne hpq).trans h.at_
 have hql:q < m1.length:=(List.getElem?_eq_some_iff.mp hq1).1
 have hdl:d < rest.length:=by omega
 have hk:kdOf M (.ref q)=kdM "pop":=by simp only [kdOf,h.at_]; rfl
 have D7:aM (.ref q) "pop" [.int d] m1=.ok (.int rest[d]) (m1.set q (.lst ((rest.eraseIdx d).map W.int))):=by
  have hb:-(2^63)<=(d:Int)/\(d:Int) < 2^63:=by omega
  have hs:seqIndex? (d:Int) (rest.map W.int).length=some d:=by
   unfold seqIndex?
   simp only [List.length_map]
   rw [if_neg (by omega:¬(d:Int) < 0)]
   simp
   omega
  have hg:(rest.map W.int)[d]?=some (.int rest[d]):=by simp [hdl]
  have hop:oA q (rest.map W.int) [.int d] m1=.ok (.int rest[d]) (m1.set q (.lst ((rest.eraseIdx d).map W.int))):=by
   simp only [oA]
   rw [if_pos hb]
   simp only [hs,hg,kc]
  simp only [aM,hq1,bY]
  rw [if_neg (by decide),if_neg (by decide),if_neg (by decide),if_pos trivial]
  exact hop
 obtain ⟨A,B,hA⟩:=s.pot h.pot
 refine ⟨rest[d],rest.eraseIdx d,m1.set q (.lst ((rest.eraseIdx d).map W.int)),?_,⟨λ i h1 h2=>by rw [List.getElem?_set_ne h2.symm,s.ne h1.symm]; exact h.fr i h1 h2,⟨A,B,?_⟩,(s.cm h.cm).set (aI _ (dB _)),by rw [List.length_set,s.len,h.len],List.getElem?_set_self hql,?_⟩,by rw [List.length_eraseIdx_of_lt hdl]; omega⟩
 ·simp only [EVs,h0,h3,hk,if_true,bf,bG,getL,h.at_,List.length_map,hd,D7]
 ·rw [List.getElem?_set_ne hpq.symm]; exact hA
 ·refine List.Perm.trans ?_ h.perm
  rw [List.append_assoc]
  refine List.Perm.append_left ns ?_
  exact nW hdl
theorem unlike {n p:Nat} {m:Mem} {nodes many:Nat} {ρ:D.Loc} {es:Es} (hp:Pot m p) (hm:Cm m) (h1:many<=nodes) (h2:nodes<=100) (he:aH (Cn pg (n+1+1)) es ρ m=.ok [.ref p,.int nodes,.int many] m) :
  ∃(ns:List Int) (m':Mem),evE (Cn pg (n+1+1)) (.frz (.call 24 es)) ρ m=.ok (tupI ns) m'/\PS p m m'/\ns.length=many/\ns.Nodup/\∀i∈ns,0<=i/\i < (nodes:Int):=by
 have hpl:=hp.lt
 have hpq:p≠m.length:=by omega
 have hrg:((List.range nodes).map λ i=>W.int (i:Nat))=((List.range nodes).map λ i:Nat=>(i:Int)).map W.int:=by rw [List.map_map]; rfl
 have n0:Ist p m.length (m.length+1) ((List.range nodes).map λ i:Nat=>(i:Int)) (m++[.lst (((List.range nodes).map λ i:Nat=>(i:Int)).map W.int)]) (m++[.lst (((List.range nodes).map λ i:Nat=>(i:Int)).map W.int)]) [] ((List.range nodes).map λ i:Nat=>(i:Int)):=
  ⟨λ _ _ _=>rfl,hp.app,hm.push (o:=.lst (((List.range nodes).map λ i:Nat=>(i:Int)).map W.int)) (aI _ (dB _)),by simp,by simp,List.Perm.refl _⟩
 generalize hM:m++[O.lst (((List.range nodes).map λ i:Nat=>(i:Int)).map W.int)]=M0 at n0
 have hI:evI (Cn pg (n+1)) (.rng (.var 2)) [some (.ref p),some (.int nodes),some (.int many),some (.ref m.length),none] M0=.ok (.rng 0 many) M0:=ug (by simp only [EVs,gq0,gq1,gq2,gq3]) (by omega)
 obtain ⟨ws,m2,e,⟨ns,rest,rfl,hr,hN⟩,hlen⟩:=uM (C:=Cn pg (n+1)) (i:=4) (js:=[4]) (it:=.rng (.var 2)) (e:=.meth (.var 3) "pop" (.cons (.call 22 (.cons (.var 0) (.cons (.blt .len (.cons (.var 3) .nil)) .nil))) .nil)) (ρ:=[some (.ref p),some (.int nodes),some (.int many),some (.ref m.length),none]) (m:=M0) (xs:=(List.range many).map λ t=>W.int (t:Nat))
  (λ j M' acc=>∃ns rest,acc=ns.map W.int/\rest.length+j=nodes/\Ist p m.length (m.length+1) ((List.range nodes).map λ i:Nat=>(i:Int)) M0 M' ns rest) hI (λ M j _=>gC many M j) (by simp [Src.len]) (by simp [lim]; omega) ⟨[],_,rfl,by simp,n0⟩ (λ j hj M' acc ⟨ns,rest,ha,hr,hN⟩ hac=>by
   have hj:j < many:=by simpa using hj
   obtain ⟨a,rest',M2,e,hN2,hl⟩:=hN.step (n:=n) hpq (by omega) (by omega) (ρ:=(clr [4] [some (.ref p),some (.int nodes),some (.int many),some (.ref m.length),none]).set 4 (some ((List.range many).map λ t=>W.int (t:Nat))[j])) (by simp only [clr,gq0,gq1,gq2,gq3]) (by simp only [clr,gq0,gq1,gq2,gq3])
   exact ⟨.int a,M2,e,rfl,ns++[a],rest',by simp [ha],by omega,hN2⟩) (λ M' acc ⟨ns,rest,_,_,hN⟩=>⟨by rw [hN.len,n0.len],hN.cm⟩)
 have hall:((List.range nodes).map λ i:Nat=>(i:Int)).Nodup:=by
  rw [List.nodup_iff_pairwise_ne,List.pairwise_map]
  exact List.Pairwise.imp (λ {a b} hab e=>hab (Int.ofNat.inj e)) (List.nodup_iff_pairwise_ne.mp List.nodup_range)
 have hnd:ns.Nodup:=(List.nodup_append.mp (hN.perm.nodup_iff.mpr hall)).1
 have hrn:∀i∈ns,0<=i/\i < (nodes:Int):=λ i hi=>by
  obtain ⟨j,hj,rfl⟩:=List.mem_map.mp (hN.perm.mem_iff.mp (List.mem_append_left _ hi))
  have:=List.mem_range.mp hj
  omega
 obtain ⟨A,B,hA⟩:=hN.pot
 have hm2:m2=m.set p (pot A B)++[.lst (rest.map W.int)]:=by
  apply List.ext_getElem?
  intro i
  by_cases hi:i < m.length
  ·rw [List.getElem?_append_left (by rw [List.length_set]; exact hi)]
   by_cases hip:i=p
   ·subst hip
    rw [List.getElem?_set_self hi]; exact hA
   ·rw [List.getElem?_set_ne (λ z=>hip z.symm),hN.fr i hip (by omega),<-hM,List.getElem?_append_left hi]
  ·by_cases hi2:i=m.length
   ·subst hi2
    rw [hN.at_,List.getElem?_append_right (by simp)]
    simp
   ·have h3:=hN.len
    rw [List.getElem?_eq_none (by omega),List.getElem?_eq_none (by simp; omega)]
 have hps:PS p m (m.set p (pot A B)):=⟨A,B,rfl⟩
 refine ⟨ns,m.set p (pot A B),?_,hps,by simpa using hlen,hnd,hrn⟩
 refine iw (m0:=m.set p (pot A B)) (w:=tupI ns) (l:=[.lst (rest.map W.int)]) ?_ (by simp) (hps.cm hm) (lM _ (by simp [aC,dB]))
 rw [bW,he]
 simp only [aj]
 rw [aO rfl]
 refine bx (d:=⟨3,5,b24⟩) rfl rfl ?_
 show aF _ b24 [some (.ref p),some (.int nodes),some (.int many),none,none] m=_
 rw [b24,af (ρ1:=[some (.ref p),some (.int nodes),some (.int many),some (.ref m.length),none]) (m1:=M0) (aK (w:=.ref m.length) ?_ rfl),aW (bg (w:=tupI ns) (m1:=m.set p (pot A B)++[.lst (rest.map W.int)]) ?_)]
 ·rw [dU,av,e]
  simp only [aj,aB,bf,bG,getL,hm2]
 ·simp only [EVs,gq0,gq1,gq2,gq3]
  rw [if_pos (by omega)]
  simp only [new,Int.toNat_natCast,hrg,hM]
end My
end
section
namespace My
open PySem D
theorem qU {a b:Int} {m:Mem}:binop .Add (.int a) (.int b) m=.ok (.int (a+b)) m:=rfl
theorem D8 {a b:Int} {m:Mem}:binop .Sub (.int a) (.int b) m=.ok (.int (a - b)) m:=rfl
theorem times {n p:Nat} {m:Mem} (hp:Pot m p):∃t m',aE (D.runN pg (n+1+1) 26) [.ref p] m=.ok (tupI t) m'/\PS p m m'/\fG t=true:=by
 obtain ⟨d1,m1,h1,s1,z1⟩:=draw (n:=n) (many:=4) hp (by decide) (by decide)
 obtain ⟨d2,m2,h2,s2,z2⟩:=draw (n:=n) (many:=4) (s1.pot hp) (by decide) (by decide)
 have s12:=s1.trans s2
 obtain ⟨d3,m3,h3,s3,z3⟩:=draw (n:=n) (many:=5 - (1+(d1:Int))) (s12.pot hp) (by omega) (by omega)
 have s13:=s12.trans s3
 obtain ⟨d4,m4,h4,s4,z4⟩:=draw (n:=n) (many:=5 - (1+(d2:Int))) (s13.pot hp) (by omega) (by omega)
 refine ⟨[1+d1,1+d1+d3,1+d2,1+d2+d4],m4,?_,s13.trans s4,by simp [fG]; omega⟩
 rw [aO rfl]
 refine bx (d:=⟨1,3,b26⟩) rfl rfl ?_
 show aF _ b26 [some (.ref p),none,none] m=_
 rw [b26,af (ρ1:=[some (.ref p),some (.int (1+d1)),some (.int (1+d2))]) (m1:=m2) ?_,aW (bg (w:=tupI [1+d1,1+d1+d3,1+d2,1+d2+d4]) (m1:=m4) ?_)]
 ·simp only [EVs,gq0,gq1,gq2,gq3,qU,D8,h3,h4]
  rfl
 ·simp only [evS,EVs,gq0,gq1,gq2,gq3,qU,h1,h2]
  rfl
theorem CQ {m:Mem} {zs:List Str} (hz:∀z∈zs,Wd z):eqW m (.fz (zs.map .str)) (.fz [])=.ok (decide (zs=[])) m:=by
 have h1:toD 60 m (.fz (zs.map .str))=some (.list (zs.map PyData.str)):=by
  rw [nT,eE (n:=58) (λ z h=>(hz z h).ok)]; rfl
 have h2:toD 60 m (.fz [])=some (.list []):=rfl
 simp only [eqW,h1,h2]
 cases zs with
 | nil=>rfl
 | cons z r=>rfl
theorem xq {m:Mem} {xs ys:List W} (h:xs.length+ys.length<=lim):binop .Add (.tup xs) (.tup ys) m=.ok (.tup (xs++ys)) m:=by simp only [binop]; rw [if_pos h]
theorem at2 {d:Nat} {m:Mem} (h:d < 4):∃w:Str,aQ (.fz [.str "made",.str "broken"]) (.int ((d:Int)%2)) m=.ok (.str w) m/\(w="made"\/w="broken"):=by
 rcases (by omega:d=0\/d=1\/d=2\/d=3) with rfl | rfl | rfl | rfl
 ·exact ⟨_,rfl,.inl rfl⟩
 ·exact ⟨_,rfl,.inr rfl⟩
 ·exact ⟨_,rfl,.inl rfl⟩
 ·exact ⟨_,rfl,.inr rfl⟩
theorem uO {C:D.Cx} {ρ:D.Loc} {m:Mem} (hm:Cm m):evE C (.frz (.lst (.cons (.cst (.str "made")) (.cons (.cst (.str "broken")) .nil)))) ρ m=.ok (.fz [.str "made",.str "broken"]) m:=by
 refine bQ (m0:=m) ?_ rfl hm rfl
 simp only [eS,av,aB,aV,aj]
 rw [if_pos (by simp [lim])]
 rfl
theorem xr {C:D.Cx} {ρ:D.Loc} {m:Mem} (hm:Cm m):evE C (.frz (.lst .nil)) ρ m=.ok (.fz []) m:=by
 refine bQ (m0:=m) ?_ rfl hm rfl
 simp only [eS,aB,aj]
 rw [if_pos (by simp [lim])]
 rfl
theorem piece {n p:Nat} {m:Mem} {zs:List Str} {nodes:Nat} (hp:Pot m p) (hm:Cm m) (hz:∀z∈zs,Wd z) (hl:zs.length<=100) (n2:2<=nodes) (n1:nodes<=100) (rl lm:List Str) :
  ∃(pc:Pc) (m':Mem),aE (D.runN pg (n+1+1+1) 25) [.ref p,fzS zs,.int nodes] m=.ok (pcW pc) m'/\PS p m m'/\iD zs rl lm nodes pc/\pc.1≠"coil"/\pc.1≠"lamp":=by
 obtain ⟨d,m1,h1,s1,z1⟩:=draw (n:=n+1) (many:=4) hp (by decide) (by decide)
 have c1:=s1.cm hm
 have p1:=s1.pot hp
 have hor:∀r,evT (Cn pg (n+1+1)) (.or (.cmp .Eq (.var 3) (.cst (.int 0))) (.cmp .Eq (.var 1) (.frz (.lst .nil)))) [some (.ref p),some (fzS zs),some (.int nodes),some (.int d),r] m1=.ok (decide (d=0)||decide (zs=[])) m1:=λ r=>by
  simp only [uw,bZ,ay,aV,gq0,gq1,gq2,gq3,aj,xr c1,ak,eqI,CQ hz]
  by_cases hd:d=0
  ·subst hd; rfl
  ·have:decide ((d:Int)=0)=false:=decide_eq_false (by omega)
   rw [this,decide_eq_false hd]
   rfl
 have go:∀{w m2},PS p m1 m2->aF (Cn pg (n+1+1)) (match b25 with | .cons _ r=>r | r=>r) [some (.ref p),some (fzS zs),some (.int nodes),some (.int d),none] m1=.ok (.rt w) m2->aE (D.runN pg (n+1+1+1) 25) [.ref p,fzS zs,.int nodes] m=.ok w m2/\PS p m m2:=λ {w m2} hs he=>by
  refine ⟨?_,s1.trans hs⟩
  rw [aO rfl]
  refine bx (d:=⟨3,5,b25⟩) rfl rfl ?_
  show aF _ b25 [some (.ref p),some (fzS zs),some (.int nodes),none,none] m=_
  rw [b25,af (ρ1:=[some (.ref p),some (fzS zs),some (.int nodes),some (.int d),none]) (m1:=m1) (aK (w:=.int d) (by simp only [EVs,gq0,gq1,gq2,gq3,h1]) rfl)]
  exact he
 by_cases h0:d=0\/zs=[]
 ·obtain ⟨ns,m2,e,s2,l2,nd,rg⟩:=unlike (n:=n) (m:=m1) (nodes:=nodes) (many:=2) (ρ:=[some (.ref p),some (fzS zs),some (.int nodes),some (.int d),none]) (es:=.cons (.var 0) (.cons (.var 2) (.cons (.cst (.int 2)) .nil))) p1 c1 n2 n1 (by simp only [av,aB,ay,aV,gq0,gq1,gq2,gq3,aj]; rfl)
  have hc:(decide (d=0)||decide (zs=[]))=true:=by simpa using h0
  refine ⟨("wire",[],ns),m2,(go s2 ?_).1,s1.trans s2,⟨.inl ⟨rfl,rfl,l2⟩,nd,rg⟩,(by decide +kernel:("wire":Str)≠"coil"),(by decide +kernel:("wire":Str)≠"lamp")⟩
  show aF _ (.cons (.ife _ _ _) _) _ _=_
  refine aW ?_
  rw [wZ (by rw [hor,hc])]
  refine aW (bg (w:=pcW ("wire",[],ns)) (m1:=m2) ?_)
  simp only [jv,lO,av,aB,aV,aj]
  rw [if_pos (by simp [lim])]
  simp only [aj]
  rw [e]
  simp only [aj]
  rw [xq (by simp [lim]; omega)]
  rfl
 ·have hc:(decide (d=0)||decide (zs=[]))=false:=by simpa using h0
  have hzl:0 < zs.length:=by
   rcases zs with _ | ⟨z,r⟩
   ·exact absurd (.inr rfl) h0
   ·simp
  obtain ⟨k,m2,h2,s2,z2⟩:=draw (n:=n+1) (many:=zs.length) p1 (by omega) (by omega)
  have c2:=s2.cm c1
  have p2:=s2.pot p1
  have hk:k < zs.length:=by omega
  have hlen:∀M,bf .len [fzS zs] M=.ok (.int zs.length) M:=λ M=>by
   have:=iz (m:=M) (w:=fzS zs) (xs:=zs.map .str) rfl
   rw [List.length_map] at this
   exact this
  have hix:∀M,aQ (fzS zs) (.int k) M=.ok (.str zs[k]) M:=λ M=>by
   have:=iA (m:=M) (w:=fzS zs) (xs:=zs.map .str) (i:=k) rfl (by simpa using hk)
   rw [List.getElem_map] at this
   exact this
  have hin:zs[k]∈zs:=List.getElem_mem hk
  have hn:evE (Cn pg (n+1+1)) (.idx (.var 1) (.call 22 (.cons (.var 0) (.cons (.blt .len (.cons (.var 1) .nil)) .nil)))) [some (.ref p),some (fzS zs),some (.int nodes),some (.int d),none] m1=.ok (.str zs[k]) m2:=by
   simp only [EVs,gq0,gq1,gq2,gq3,hlen,h2,hix]
  by_cases h3:d=3/\2 < nodes
  ·obtain ⟨ns,m3,e,s3,l3,nd,rg⟩:=unlike (n:=n) (m:=m2) (nodes:=nodes) (many:=3) (ρ:=[some (.ref p),some (fzS zs),some (.int nodes),some (.int d),some (.str zs[k])]) (es:=.cons (.var 0) (.cons (.var 2) (.cons (.cst (.int 3)) .nil))) p2 c2 (by omega) n1 (by simp only [av,aB,ay,aV,gq0,gq1,gq2,gq3,aj]; rfl)
   have hT:evT (Cn pg (n+1+1)) (.and (.cmp .Eq (.var 3) (.cst (.int 3))) (.cmp .Gt (.var 2) (.cst (.int 2)))) [some (.ref p),some (fzS zs),some (.int nodes),some (.int d),some (.str zs[k])] m2=.ok true m2:=by
    have h4:decide ((nodes:Int)>2)=true:=decide_eq_true (by omega)
    simp only [oY,bZ,ay,aV,gq0,gq1,gq2,gq3,aj,ak,h3.1,eqI,h4]
    rfl
   refine ⟨("swap",[zs[k]],ns),m3,(go (s2.trans s3) ?_).1,s1.trans (s2.trans s3),⟨.inr ⟨zs[k],3,rfl,.swap,l3,by rw [if_neg (by decide +kernel:¬("swap":Str)="coil"),if_neg (by decide +kernel:¬("swap":Str)="lamp")]; exact hin⟩,nd,rg⟩,(by decide +kernel:("swap":Str)≠"coil"),(by decide +kernel:("swap":Str)≠"lamp")⟩
   show aF _ (.cons (.ife _ _ _) (.cons (.asg _ _) (.cons (.ife _ _ _) _))) _ _=_
   rw [af (by rw [cZ (by rw [hor,hc]),ao]),af (ρ1:=[some (.ref p),some (fzS zs),some (.int nodes),some (.int d),some (.str zs[k])]) (aK hn rfl)]
   refine aW ?_
   rw [wZ hT]
   refine aW (bg (w:=pcW ("swap",[zs[k]],ns)) (m1:=m3) ?_)
   simp only [jv,lO,av,aB,aV,ay,gq0,gq1,gq2,gq3,aj]
   rw [if_pos (by simp [lim])]
   simp only [aj]
   rw [e]
   simp only [aj]
   rw [xq (by simp [lim]; omega)]
   rfl
  ·obtain ⟨ns,m3,e,s3,l3,nd,rg⟩:=unlike (n:=n) (m:=m2) (nodes:=nodes) (many:=2) (ρ:=[some (.ref p),some (fzS zs),some (.int nodes),some (.int d),some (.str zs[k])]) (es:=.cons (.var 0) (.cons (.var 2) (.cons (.cst (.int 2)) .nil))) p2 c2 n2 n1 (by simp only [av,aB,ay,aV,gq0,gq1,gq2,gq3,aj]; rfl)
   have hT:evT (Cn pg (n+1+1)) (.and (.cmp .Eq (.var 3) (.cst (.int 3))) (.cmp .Gt (.var 2) (.cst (.int 2)))) [some (.ref p),some (fzS zs),some (.int nodes),some (.int d),some (.str zs[k])] m2=.ok false m2:=by
    simp only [oY,bZ,ay,aV,gq0,gq1,gq2,gq3,aj,ak,eqI]
    by_cases h4:d=3
    ·have h5:decide ((nodes:Int)>2)=false:=decide_eq_false (by omega)
     rw [h5,decide_eq_true (by omega:(d:Int)=3)]
     rfl
    ·rw [decide_eq_false (by omega:¬(d:Int)=3)]
     rfl
   obtain ⟨w,hw,hww⟩:=at2 (d:=d) (m:=m2) (by omega)
   have hkd:Kd w 2:=by rcases hww with rfl | rfl<;>constructor
   have hwc:w≠"coil"/\w≠"lamp":=by rcases hww with rfl | rfl<;>decide +kernel
   have hmd:binop .Mod (.int d) (.int 2) m2=.ok (.int ((d:Int)%2)) m2:=rfl
   refine ⟨(w,[zs[k]],ns),m3,(go (s2.trans s3) ?_).1,s1.trans (s2.trans s3),⟨.inr ⟨zs[k],2,rfl,hkd,l3,by rw [if_neg hwc.1,if_neg hwc.2]; exact hin⟩,nd,rg⟩,hwc.1,hwc.2⟩
   show aF _ (.cons (.ife _ _ _) (.cons (.asg _ _) (.cons (.ife _ _ _) (.cons (.ret _) .nil)))) _ _=_
   rw [af (by rw [cZ (by rw [hor,hc]),ao]),af (ρ1:=[some (.ref p),some (fzS zs),some (.int nodes),some (.int d),some (.str zs[k])]) (aK hn rfl),af (by rw [cZ hT,ao]),aW (bg (w:=pcW (w,[zs[k]],ns)) (m1:=m3) ?_)]
   simp only [jv,lO,av,aB,aV,ay,dS,gq0,gq1,gq2,gq3,aj]
   rw [uO c2]
   simp only [aj,hmd,hw]
   rw [if_pos (by simp [lim])]
   simp only [aj]
   rw [e]
   simp only [aj]
   rw [xq (by simp [lim]; omega)]
   rfl
end My
end
section
namespace My
open PySem D
theorem qV {n p q:Nat} {m:Mem} {tk:List Str} {cs:List Nat} {o3 o5 o6:Option W} (hm:Cm m) (hq:m[q]?=some (.lst (tk.map .str))) (hw:∀z∈tk,Wd z) (hl:tk.length<=20) (h1:1<=cs.length) (h8:cs.length<=8) (ha:∀c∈cs,97<=c/\c<=122) :
  ∃z,evE (Cn pg n) (.idx (.frz (.comp (.gen (.var 7) [7] (.var 2) (.cons (.cmp .NotIn (.bin .Add (.slc (.var 4) .none (.some (.cst (.int 7)))) (.var 7)) (.var 1)) .nil) (.elt (.bin .Add (.slc (.var 4) .none (.some (.cst (.int 7)))) (.var 7)))))) (.cst (.int 0)))
    [some (.ref p),some (.ref q),some ab,o3,some (.str (ws cs)),o5,o6,none] m=.ok (.str z) m/\Wd z/\z∉tk:=by
 let cand:List Str:=(List.range 26).map λ d=>ws (cs.take 7++[97+d])
 have hcd:∀z∈cand,Wd z:=λ z hz=>by
  obtain ⟨d,hd,rfl⟩:=List.mem_map.mp hz
  have hd:=List.mem_range.mp hd
  refine yr (by simp) (by simp; omega) λ c hc=>?_
  rcases List.mem_append.mp hc with hc | hc
  ·exact ha c (List.mem_of_mem_take hc)
  ·rw [List.mem_singleton] at hc; omega
 have hnd:cand.Nodup:=by
  show ((List.range 26).map λ d=>ws (cs.take 7++[97+d])).Nodup
  rw [List.nodup_iff_pairwise_ne,List.pairwise_map]
  refine List.Pairwise.imp (λ {a b} hab e=>hab ?_) (List.nodup_iff_pairwise_ne.mp List.nodup_range)
  have:=congrArg (λ z:Str=>z.cps.toList) e
  simp [ws] at this
  exact this
 have hI:evI (Cn pg n) (.var 2) [some (.ref p),some (.ref q),some ab,o3,some (.str (ws cs)),o5,o6,none] m=.ok (.tup (signs ("abcdefghijklmnopqrstuvwxyz":Str))) m:=by
  rw [fD]; simp only [ay,gq0,gq1,gq2,gq3,aj]; simp [toI,nj,AV]
 have hlim:(ws cs).length<=lim:=by simp [qM,ws,lim]; omega
 have hb:∀d o,evE (Cn pg n) (.bin .Add (.slc (.var 4) .none (.some (.cst (.int 7)))) (.var 7)) [some (.ref p),some (.ref q),some ab,o3,some (.str (ws cs)),o5,o6,some (.str ⟨#[97+d]⟩)] o=.ok (.str (ws (cs.take 7++[97+d]))) o:=λ d o=>by
  have e3:=AS (cs:=cs.take 7) (c:=97+d) (m:=o) (by simp; omega)
  simp only [EVs,gq0,gq1,gq2,gq3,cG]
  rw [if_pos hlim]
  simp only [aj,AW,e3]
 have e2:evE (Cn pg n) (.frz (.comp (.gen (.var 7) [7] (.var 2) (.cons (.cmp .NotIn (.bin .Add (.slc (.var 4) .none (.some (.cst (.int 7)))) (.var 7)) (.var 1)) .nil) (.elt (.bin .Add (.slc (.var 4) .none (.some (.cst (.int 7)))) (.var 7)))))) [some (.ref p),some (.ref q),some ab,o3,some (.str (ws cs)),o5,o6,none] m=.ok (.fz ((cand.filter λ z=>!decide (z∈tk)).map .str)) m:=by
  have:=CP (C:=Cn pg n) (i:=7) (js:=[7]) (it:=.var 2) (ifs:=.cons (.cmp .NotIn (.bin .Add (.slc (.var 4) .none (.some (.cst (.int 7)))) (.var 7)) (.var 1)) .nil) (e:=.bin .Add (.slc (.var 4) .none (.some (.cst (.int 7)))) (.var 7)) (ρ:=[some (.ref p),some (.ref q),some ab,o3,some (.str (ws cs)),o5,o6,none]) (m:=m) (xs:=signs ("abcdefghijklmnopqrstuvwxyz":Str)) (s:=.tup (signs ("abcdefghijklmnopqrstuvwxyz":Str)))
   (p:=λ x=>match x with | .str z=>!decide ((⟨(cs.take 7).toArray++z.cps⟩:Str)∈tk) | _=>false) (g:=λ x=>match x with | .str z=>.str ⟨(cs.take 7).toArray++z.cps⟩ | _=>.non) hm hI (λ j=>rfl) rfl (λ x hx=>by
    rw [dX] at hx
    obtain ⟨d,hd,rfl⟩:=List.mem_map.mp hx
    have:=iB (m:=m) (hcd (ws (cs.take 7++[97+d])) (List.mem_map.mpr ⟨d,hd,rfl⟩)).small λ z hz=>(hw z hz).small
    simp only [clr,aN,bZ,gq0,gq1,gq2,gq3,hb,aj,ay,ak,ng,hq,this]
    rw [show ws (cs.take 7++[97+d])=⟨(cs.take 7).toArray++#[97+d]⟩ by simp [ws]]
    cases decide ((⟨(cs.take 7).toArray++#[97+d]⟩:Str)∈tk)<;>rfl) (λ x hx _=>by
    rw [dX] at hx
    obtain ⟨d,hd,rfl⟩:=List.mem_map.mp hx
    simp only [clr,gq0,gq1,gq2,gq3,hb]
    simp [ws]) (λ x hx _=>by
    rw [dX] at hx
    obtain ⟨d,hd,rfl⟩:=List.mem_map.mp hx
    rfl) (by rw [dX]; simp [lim])
  rw [this]
  congr 2
  rw [dX]
  simp only [cand,List.filter_map,List.map_map]
  have e1:((λ x:W=>match x with | .str z=>!decide ((⟨(cs.take 7).toArray++z.cps⟩:Str)∈tk) | _=>false)∘λ d=>W.str ⟨#[97+d]⟩)=((λ z=>!decide (z∈tk))∘λ d=>ws (cs.take 7++[97+d])):=by
   funext d
   simp [ws]
  rw [e1]
  refine List.map_congr_left λ d _=>?_
  simp [ws]
 have hne:cand.filter (λ z=>!decide (z∈tk))≠[]:=λ he=>by
  rw [List.filter_eq_nil_iff] at he
  have:=jw (k:=tk) hnd λ x hx=>by simpa using he x hx
  simp [cand] at this
  omega
 obtain ⟨z,r,hz⟩:=List.exists_cons_of_ne_nil hne
 have hzm:z∈cand.filter λ z=>!decide (z∈tk):=by rw [hz]; exact List.mem_cons_self
 obtain ⟨hz1,hz2⟩:=List.mem_filter.mp hzm
 refine ⟨z,?_,hcd z hz1,by simpa using hz2⟩
 rw [hz] at e2
 rw [dS,e2]
 simp only [aj,aV,aQ,bG,getL]
 simp [L2.atI,L2.ixN]
theorem CS (cs:List Nat):cK (cs.map λ c=>W.str ⟨#[c]⟩)=some (cs.map λ c=>⟨#[c]⟩):=by
 induction cs with
 | nil=>rfl
 | cons c r ih=>simp [cK,ih]
theorem CT {cs:List Nat} {m:Mem} (h:cs.length<=100):aM (.str "") "join" [.fz (cs.map λ c=>W.str ⟨#[c]⟩)] m=.ok (.str (ws cs)) m:=by
 have g2:((cs.map λ c=>(⟨#[c]⟩:Str)).map (·.length)).sum+(cs.map λ c=>(⟨#[c]⟩:Str)).length*("":Str).length<=16777216:=by
  have h0:("":Str).length=0:=rfl
  have:∀l:List Nat,((l.map λ c=>(⟨#[c]⟩:Str)).map (·.length)).sum=l.length:=λ l=>by
   induction l with
   | nil=>rfl
   | cons a r ih=>simp [qM] at ih ⊢; omega
  rw [this,h0]
  omega
 have g3:Txt.join "" (cs.map λ c=>(⟨#[c]⟩:Str))=ws cs:=by
  have:=L2.sE (cs.map λ c=>(⟨#[c]⟩:Str))
  have h2:((cs.map λ c=>(⟨#[c]⟩:Str)).map λ y=>y.cps.toList).flatten=cs:=by
   have:∀l:List Nat,((l.map λ c=>(⟨#[c]⟩:Str)).map λ y=>y.cps.toList).flatten=l:=λ l=>by
    induction l with
    | nil=>rfl
    | cons a r ih=>simp only [List.map_cons,List.flatten_cons,ih]; rfl
   exact this _
  rw [h2] at this
  show Txt.join ⟨#[]⟩ _=_
  generalize Txt.join ⟨#[]⟩ (cs.map λ c=>(⟨#[c]⟩:Str))=z at this
  obtain ⟨a⟩:=z
  simp only at this
  rw [ws,<-this]
 simp only [aM,kY,if_true,jO,getL,CS]
 rw [if_pos g2,g3]
noncomputable def kg:List Str:=["keys","relay","lamps","nodes","wire","made","broken","swap","coil","lamp"]
theorem AX:∀z∈kg,Wd z:=by
 have:(kg.all λ z=>decide (1<=z.cps.size)&&decide (z.cps.size<=8)&&z.cps.toList.all λ c=>decide (97<=c)&&decide (c<=122))=true:=by decide +kernel
 intro z hz
 have:=List.all_eq_true.mp this z hz
 simp only [Bool.and_eq_true,decide_eq_true_eq] at this
 refine ⟨this.1.1,this.1.2,λ c hc=>?_⟩
 have:=List.all_eq_true.mp this.2 c hc
 simpa using this
theorem xu {C:D.Cx} {ρ:D.Loc} {m:Mem} (hm:Cm m):evE C (.frz (.lst (.cons (.cst (.str "keys")) (.cons (.cst (.str "relay")) (.cons (.cst (.str "lamps")) (.cons (.cst (.str "nodes")) (.cons (.cst (.str "wire")) (.cons (.cst (.str "made")) (.cons (.cst (.str "broken")) (.cons (.cst (.str "swap")) (.cons (.cst (.str "coil")) (.cons (.cst (.str "lamp")) .nil)))))))))))) ρ m=.ok (.fz (kg.map .str)) m:=by
 refine bQ (m0:=m) ?_ rfl hm rfl
 simp only [eS,av,aB,aV,aj]
 rw [if_pos (by simp [lim])]
 rfl
theorem CU {z:Str} (h:Wd z):∃cs,z=ws cs/\1<=cs.length/\cs.length<=8/\∀c∈cs,97<=c/\c<=122:=
 ⟨z.cps.toList,by obtain ⟨a⟩:=z; simp [ws],by simpa using h.lo,by simpa using h.hi,h.az⟩
theorem xw {n p k:Nat} {m:Mem} {q d:W} (hp:Pot m p) (hm:Cm m) (hk:k<=100):∃(cs:List Nat) (m':Mem),evE (Cn pg (n+1)) (.frz (.comp (.gen (.var 6) [6] (.rng (.var 5)) .nil (.elt (.idx (.var 2) (.call 22 (.cons (.var 0) (.cons (.cst (.int 26)) .nil)))))))) [some (.ref p),some q,some ab,some d,none,some (.int k),none,none] m=.ok (.fz (cs.map λ c=>W.str ⟨#[c]⟩)) m'/\PS p m m'/\cs.length=k/\∀c∈cs,97<=c/\c<=122:=by
 obtain ⟨ws,m',e,s,hl,hr⟩:=pH (C:=Cn pg (n+1)) (i:=6) (js:=[6]) (it:=.rng (.var 5)) (e:=.idx (.var 2) (.call 22 (.cons (.var 0) (.cons (.cst (.int 26)) .nil)))) (ρ:=[some (.ref p),some q,some ab,some d,none,some (.int k),none,none]) (xs:=(List.range k).map λ t=>W.int (t:Nat)) (Rr:=λ _ w=>∃c:Nat,w=.str ⟨#[c]⟩/\97<=c/\c<=122) hp hm (ug (by simp only [EVs,gq0,gq1,gq2,gq3]) (by omega)) (λ M j=>gC k M j) (by simp [Src.len]) (by simp [lim]; omega) (λ x _ m1 s1=>by
   obtain ⟨d,m2,h1,s2,z1⟩:=draw (n:=n) (many:=26) (s1.pot hp) (by decide) (by decide)
   refine ⟨.str ⟨#[97+d]⟩,m2,?_,s2,rfl,97+d,rfl,by omega,by omega⟩
   simp only [clr,EVs,gq0,gq1,gq2,gq3,h1]
   exact D6 (by omega) m2)
 have hl:ws.length=k:=by simpa using hl
 have hall:∀w∈ws,∃c:Nat,w=.str ⟨#[c]⟩/\97<=c/\c<=122:=λ w hw=>by
  obtain ⟨j,hj,rfl⟩:=List.mem_iff_getElem.mp hw
  exact hr j (by simp; omega) hj
 have:∀l:List W,(∀w∈l,∃c:Nat,w=.str ⟨#[c]⟩/\97<=c/\c<=122)->∃cs:List Nat,l=(cs.map λ c=>W.str ⟨#[c]⟩)/\∀c∈cs,97<=c/\c<=122:=λ l=>by
  induction l with
  | nil=>intro _; exact ⟨[],rfl,by simp⟩
  | cons x r ih=>
   intro h
   obtain ⟨c,rfl,hc⟩:=h x List.mem_cons_self
   obtain ⟨cs,rfl,hcs⟩:=ih λ w hw=>h w (List.mem_cons_of_mem _ hw)
   exact ⟨c::cs,rfl,λ y hy=>by
    rcases List.mem_cons.mp hy with rfl | hy
    ·exact hc
    ·exact hcs y hy⟩
 obtain ⟨cs,rfl,hcs⟩:=this ws hall
 exact ⟨cs,m',e,s,by simpa using hl,hcs⟩
theorem word {n p q:Nat} {m:Mem} {tk:List Str} (hp:Pot m p) (hm:Cm m) (hpq:p≠q) (hq:m[q]?=some (.lst (tk.map .str))) (hw:∀z∈tk,Wd z) (hl:tk.length<=20) :
  ∃z m1,aE (D.runN pg (n+1+1) 23) [.ref p,.ref q] m=.ok (.str z) (m1.set q (.lst ((tk++[z]).map .str)))/\PS p m m1/\Wd z/\z∉tk:=by
 obtain ⟨d,m1,hd,s1,d1⟩:=draw (n:=n) (many:=8) hp (by decide) (by decide)
 have c1:=s1.cm hm
 have p1:=s1.pot hp
 obtain ⟨cs,o5,m2,hS,s2,h1,h8,haz⟩:∃cs o5 m2,evS (Cn pg (n+1)) (match b23 with | .cons _ (.cons _ (.cons s _))=>s | _=>.expr (.cst .non)) [some (.ref p),some (.ref q),some ab,some (.int d),none,none,none,none] m1=.ok (.nx [some (.ref p),some (.ref q),some ab,some (.int d),some (.str (ws cs)),o5,none,none]) m2/\PS p m1 m2/\1<=cs.length/\cs.length<=8/\∀c∈cs,97<=c/\c<=122:=by
  have hT:evT (Cn pg (n+1)) (.cmp .Eq (.var 3) (.cst (.int 7))) [some (.ref p),some (.ref q),some ab,some (.int d),none,none,none,none] m1=.ok (decide (d=7)) m1:=by
   simp only [bZ,ay,aV,gq0,gq1,gq2,gq3,aj,ak,eqI]
   congr 1
   exact decide_eq_decide.mpr (by omega)
  by_cases h7:d=7
  ·rw [decide_eq_true h7] at hT
   obtain ⟨k,m2,h2,s2,z2⟩:=draw (n:=n) (many:=10) p1 (by decide) (by decide)
   have hk:k < kg.length:=by show k < 10; omega
   obtain ⟨cs,e,h1,h8,haz⟩:=CU (AX kg[k] (List.getElem_mem hk))
   refine ⟨cs,none,m2,?_,s2,h1,h8,haz⟩
   show evS _ (.ife (.cmp .Eq (.var 3) (.cst (.int 7))) (.cons (.asg _ _) .nil) _) _ _=_
   rw [wZ hT,af (ρ1:=[some (.ref p),some (.ref q),some ab,some (.int d),some (.str (ws cs)),none,none,none]) (m1:=m2) (aK (w:=.str (ws cs)) ?_ rfl),ao]
   have hix:aQ (.fz (kg.map .str)) (.int k) m2=.ok (.str kg[k]) m2:=by
    have:=iA (m:=m2) (w:=.fz (kg.map .str)) (xs:=kg.map .str) (i:=k) rfl (by simpa using hk)
    rw [List.getElem_map] at this
    exact this
   rw [dS,xu c1]
   simp only [EVs,gq0,gq1,gq2,gq3,h2,hix,e]
  ·rw [decide_eq_false h7] at hT
   obtain ⟨k,m2,h2,s2,z2⟩:=draw (n:=n) (many:=8) p1 (by decide) (by decide)
   have hmk:1+d%2*k<=8:=by
    rcases (by omega:d%2=0\/d%2=1) with h | h<;>rw [h]<;>omega
   obtain ⟨cs,m3,e,s3,hlen,haz⟩:=xw (n:=n) (p:=p) (k:=1+d%2*k) (q:=.ref q) (d:=.int d) (s2.pot p1) (s2.cm c1) (by omega)
   refine ⟨cs,some (.int (1+d%2*k:Nat)),m3,?_,s2.trans s3,by omega,by omega,haz⟩
   show evS _ (.ife (.cmp .Eq (.var 3) (.cst (.int 7))) _ (.cons (.asg _ _) (.cons (.asg _ _) .nil))) _ _=_
   have hmod:∀M,binop .Mod (.int d) (.int 2) M=.ok (.int ((d:Int)%2)) M:=λ M=>rfl
   have hmul:binop .Mult (.int ((d:Int)%2)) (.int k) m2=.ok (.int ((d:Int)%2*k)) m2:=by
    have:eN ((d:Int)%2) k=true:=by simp [eN]; omega
    simp only [binop]
    rw [if_pos this]
   rw [cZ hT,af (ρ1:=[some (.ref p),some (.ref q),some ab,some (.int d),none,some (.int (1+d%2*k:Nat)),none,none]) (m1:=m2) (aK (w:=.int (1+d%2*k:Nat)) ?_ rfl),af (ρ1:=[some (.ref p),some (.ref q),some ab,some (.int d),some (.str (ws cs)),some (.int (1+d%2*k:Nat)),none,none]) (m1:=m3) (aK (w:=.str (ws cs)) ?_ rfl),ao]
   ·have hk:kdOf m2 (.str "")=kdM "join":=rfl
    rw [eX,aV]
    simp only [aj]
    rw [if_pos hk,av,e]
    simp only [aj,aB]
    exact CT (by omega)
   ·simp only [EVs,gq0,gq1,gq2,gq3,hmod,h2,hmul,qU]
    simp
 have s12:=s1.trans s2
 have hq2:m2[q]?=some (.lst (tk.map .str)):=(s12.ne hpq).trans hq
 have hwc:=yr (cs:=cs) h1 h8 haz
 have hT:evT (Cn pg (n+1)) (.cmp .In (.var 4) (.var 1)) [some (.ref p),some (.ref q),some ab,some (.int d),some (.str (ws cs)),o5,none,none] m2=.ok (decide (ws cs∈tk)) m2:=by
  have:=iB (m:=m2) hwc.small λ z hz=>(hw z hz).small
  simp only [EVs,oX,ETs,gq0,gq1,gq2,gq3,ak,ng,hq2,this]
 have fin:∀(z:Str),Wd z->z∉tk->evS (Cn pg (n+1)) (match b23 with | .cons _ (.cons _ (.cons _ (.cons s _)))=>s | _=>.expr (.cst .non)) [some (.ref p),some (.ref q),some ab,some (.int d),some (.str (ws cs)),o5,none,none] m2=.ok (.nx [some (.ref p),some (.ref q),some ab,some (.int d),some (.str z),o5,none,none]) m2->
   ∃z m1,aE (D.runN pg (n+1+1) 23) [.ref p,.ref q] m=.ok (.str z) (m1.set q (.lst ((tk++[z]).map .str)))/\PS p m m1/\Wd z/\z∉tk:=λ z hz hnz hS2=>by
  refine ⟨z,m2,?_,s12,hz,hnz⟩
  rw [aO rfl]
  refine bx (d:=⟨2,8,b23⟩) rfl rfl ?_
  show aF _ b23 [some (.ref p),some (.ref q),none,none,none,none,none,none] m=_
  have hap:aM (.ref q) "append" [.str z] m2=.ok .non (m2.set q (.lst ((tk++[z]).map .str))):=by
   have hlt:(tk.map W.str).length < lim:=by simp [lim]; omega
   simp only [aM,hq2,bY,fm]
   simp only [hlt,if_true,List.map_append,List.map_cons,List.map_nil]
  have hk:kdOf m2 (.ref q)=kdM "append":=by simp only [kdOf,hq2]; rfl
  rw [b23,af (ρ1:=[some (.ref p),some (.ref q),some ab,none,none,none,none,none]) (aK (w:=ab) (m1:=m) (by simp only [EVs]) rfl),af (ρ1:=[some (.ref p),some (.ref q),some ab,some (.int d),none,none,none,none]) (aK (w:=.int d) (m1:=m1) (by simp only [EVs,gq0,gq1,gq2,gq3,hd]) rfl)]
  refine (af hS).trans ((af hS2).trans ?_)
  rw [af (bA (w:=.non) (m1:=m2.set q (.lst ((tk++[z]).map .str))) (by simp only [EVs,gq0,gq1,gq2,gq3,hk,if_true,hap])),aW (bg (w:=.str z) (m1:=m2.set q (.lst ((tk++[z]).map .str))) (by simp only [EVs,gq0,gq1,gq2,gq3]))]
 by_cases hin:ws cs∈tk
 ·rw [decide_eq_true hin] at hT
  obtain ⟨z,he,hz,hnz⟩:=qV (n:=n+1) (p:=p) (o3:=some (.int d)) (o5:=o5) (o6:=none) (s12.cm hm) hq2 hw hl h1 h8 haz
  refine fin z hz hnz ?_
  show evS _ (.ife (.cmp .In (.var 4) (.var 1)) (.cons (.asg _ _) .nil) .nil) _ _=_
  rw [wZ hT,af (aK he rfl),ao]
  rfl
 ·rw [decide_eq_false hin] at hT
  refine fin (ws cs) hwc hin ?_
  show evS _ (.ife (.cmp .In (.var 4) (.var 1)) (.cons (.asg _ _) .nil) .nil) _ _=_
  rw [cZ hT,ao]
end My
end
section
namespace My
open PySem D
structure Wst (p q L:Nat) (Z M:Mem) (tk:List Str):Prop where
 fr:∀i,i≠p->i≠q->M[i]?=Z[i]?
 pot:Pot M p
 cm:Cm M
 len:M.length=L
 at_:M[q]?=some (.lst (tk.map .str))
 wd:∀z∈tk,Wd z
 nd:tk.Nodup
theorem Wst.ps {p q L:Nat} {Z M M2:Mem} {tk:List Str} (h:Wst p q L Z M tk) (hpq:p≠q) (s:PS p M M2):Wst p q L Z M2 tk:=
 ⟨λ i h1 h2=>(s.ne h1.symm).trans (h.fr i h1 h2),s.pot h.pot,s.cm h.cm,s.len.trans h.len,(s.ne hpq).trans h.at_,h.wd,h.nd⟩
theorem Wst.step {n p q L:Nat} {Z M:Mem} {tk:List Str} (h:Wst p q L Z M tk) (hpq:p≠q) (hl:tk.length<=20):∃z M2,aE (D.runN pg (n+1+1) 23) [.ref p,.ref q] M=.ok (.str z) M2/\Wst p q L Z M2 (tk++[z]):=by
 obtain ⟨z,m1,e,s,hz,hnz⟩:=word (n:=n) h.pot h.cm hpq h.at_ h.wd hl
 have hql:q < m1.length:=by rw [s.len]; exact (List.getElem?_eq_some_iff.mp h.at_).1
 refine ⟨z,_,e,λ i h1 h2=>?_,?_,(s.cm h.cm).set (aI _ (aU _)),by rw [List.length_set,s.len,h.len],List.getElem?_set_self hql,λ y hy=>?_,?_⟩
 ·rw [List.getElem?_set_ne h2.symm,s.ne h1.symm]; exact h.fr i h1 h2
 ·obtain ⟨A,B,hA⟩:=s.pot h.pot
  exact ⟨A,B,by rw [List.getElem?_set_ne hpq.symm]; exact hA⟩
 ·rcases List.mem_append.mp hy with hy | hy
  ·exact h.wd y hy
  ·rw [List.mem_singleton] at hy; subst hy; exact hz
 ·refine List.nodup_append.mpr ⟨h.nd,by simp,λ a ha b hb=>?_⟩
  rw [List.mem_singleton] at hb
  subst hb
  rintro rfl
  exact hnz ha
theorem words {n p q L:Nat} {Z M:Mem} {tk:List Str} {K:Nat} {o1 o3 o4 o5 o6 o7 o8:Option W} (h:Wst p q L Z M tk) (hpq:p≠q) (hl:tk.length+K<=20) (hK:0 < K) :
  ∃(zs:List Str) (M2:Mem),evE (Cn pg (n+1+1)) (.frz (.comp (.gen (.var 9) [9] (.rng (.call 22 (.cons (.var 0) (.cons (.cst (.int K)) .nil)))) .nil (.elt (.call 23 (.cons (.var 0) (.cons (.var 2) .nil))))))) [some (.ref p),o1,some (.ref q),o3,o4,o5,o6,o7,o8,none] M=.ok (fzS zs) M2/\Wst p q L Z M2 (tk++zs)/\zs.length < K:=by
 obtain ⟨d,m1,hd,s1,d1⟩:=draw (n:=n+1) (many:=K) h.pot (by omega) (by omega)
 have h1:=h.ps hpq s1
 obtain ⟨ws,M2,e,⟨zs,hz,hW⟩,hlen⟩:=uM (C:=Cn pg (n+1+1)) (i:=9) (js:=[9]) (it:=.rng (.call 22 (.cons (.var 0) (.cons (.cst (.int K)) .nil)))) (e:=.call 23 (.cons (.var 0) (.cons (.var 2) .nil))) (ρ:=[some (.ref p),o1,some (.ref q),o3,o4,o5,o6,o7,o8,none]) (m:=m1) (m0:=M) (xs:=(List.range d).map λ t=>W.int (t:Nat))
  (λ j M' acc=>∃zs:List Str,acc=zs.map .str/\Wst p q L Z M' (tk++zs)) (ug (by simp only [EVs,gq0,gq1,gq2,gq3,hd]) (by omega)) (λ M j _=>gC d M j) (by simp [Src.len]) (by simp [lim]; omega) ⟨[],rfl,by rw [List.append_nil]; exact h1⟩ (λ j hj M' acc ⟨zs,ha,hW⟩ hac=>by
   have hj:j < d:=by simpa using hj
   have hzl:zs.length=j:=by rw [<-hac,ha,List.length_map]
   obtain ⟨z,M2,e,hW2⟩:=hW.step (n:=n) hpq (by rw [List.length_append]; omega)
   exact ⟨.str z,M2,by simp only [clr,EVs,gq0,gq1,gq2,gq3,e],rfl,zs++[z],by simp [ha],by rw [<-List.append_assoc]; exact hW2⟩) (λ M' acc ⟨zs,_,hW⟩=>⟨by rw [hW.len,h.len],hW.cm⟩)
 subst hz
 exact ⟨zs,M2,e,hW,by simp at hlen; omega⟩
theorem pI (w:Str) (pc:Pc) (ps:List Pc) (d:Nat):(fnd w (ps.take d++[pc]++ps.drop d)).Perm ((if pc.1=w then pc.2.1 else [])++fnd w ps):=by
 have h1:(ps.take d++[pc]++ps.drop d).Perm (pc::ps):=by
  refine (List.Perm.append_right _ List.perm_append_comm).trans ?_
  rw [List.append_assoc,List.take_append_drop]
  exact List.Perm.refl _
 have h2:=(h1.filter λ p=>decide (p.1=w)).flatMap_right (·.2.1)
 refine h2.trans ?_
 unfold fnd
 by_cases h:pc.1=w
 ·rw [List.filter_cons,if_pos (decide_eq_true h),if_pos h]; exact List.Perm.refl _
 ·rw [List.filter_cons,if_neg (by simpa using h),if_neg h]; exact List.Perm.refl _
structure Pst (p q L:Nat) (Z M:Mem) (sw rl lm:List Str) (nodes:Nat) (ps:List Pc):Prop where
 fr:∀i,i≠p->i≠q->M[i]?=Z[i]?
 pot:Pot M p
 cm:Cm M
 len:M.length=L
 at_:M[q]?=some (.lst (ps.map pcW))
 ok:∀pc∈ps,iD sw rl lm nodes pc
theorem Pst.step {n p q L:Nat} {Z M:Mem} {sw rl lm:List Str} {nodes:Nat} {ps:List Pc} (h:Pst p q L Z M sw rl lm nodes ps) (hpq:p≠q) (hl:ps.length<=100) (n2:2<=nodes) (n1:nodes<=100) (w z:Str) (hw:(w="coil"/\z∈rl)\/(w="lamp"/\z∈lm)) {ρ:D.Loc} (h0:ρ[0]?=some (some (.ref p))) (h6:ρ[6]?=some (some (.int nodes))) (h7:ρ[7]?=some (some (.ref q))) (h8:ρ[8]?=some (some (.str z))) :
  ∃pc d M2,evS (Cn pg (n+1+1)) (.expr (.meth (.var 7) "insert" (.cons (.call 22 (.cons (.var 0) (.cons (.bin .Add (.blt .len (.cons (.var 7) .nil)) (.cst (.int 1))) .nil))) (.cons (.bin .Add (.tup (.cons (.cst (.str w)) (.cons (.var 8) .nil))) (.frz (.call 24 (.cons (.var 0) (.cons (.var 6) (.cons (.cst (.int 2)) .nil)))))) .nil)))) ρ M=.ok (.nx ρ) M2/\Pst p q L Z M2 sw rl lm nodes (ps.take d++[pc]++ps.drop d)/\pc.1=w/\pc.2.1=[z]:=by
 obtain ⟨d,m1,hd,s1,d1⟩:=draw (n:=n+1) (many:=((ps.map pcW).length:Int)+1) h.pot (by omega) (by simp; omega)
 have c1:=s1.cm h.cm
 have p1:=s1.pot h.pot
 obtain ⟨ns,m2,e,s2,l2,nd,rg⟩:=unlike (n:=n) (m:=m1) (nodes:=nodes) (many:=2) (ρ:=ρ) (es:=.cons (.var 0) (.cons (.var 6) (.cons (.cst (.int 2)) .nil))) p1 c1 n2 n1 (by simp only [av,aB,ay,aV,h0,h6,aj]; rfl)
 have s12:=s1.trans s2
 have hq2:m2[q]?=some (.lst (ps.map pcW)):=(s12.ne hpq).trans h.at_
 have hql:q < m2.length:=(List.getElem?_eq_some_iff.mp hq2).1
 have hk:kdOf M (.ref q)=kdM "insert":=by simp only [kdOf,h.at_]; rfl
 have hdl:d<=ps.length:=by rw [List.length_map] at d1; omega
 have D9:aM (.ref q) "insert" [.int d,pcW (w,[z],ns)] m2=.ok .non (m2.set q (.lst ((ps.take d++[(w,[z],ns)]++ps.drop d).map pcW))):=by
  have hop:fq q (ps.map pcW) [.int d,pcW (w,[z],ns)] m2=.ok .non (m2.set q (.lst ((ps.take d++[(w,[z],ns)]++ps.drop d).map pcW))):=by
   simp only [fq]
   rw [if_pos ⟨by omega,by rw [List.length_map]; omega,by rw [List.length_map]; simp only [lim]; omega⟩]
   simp
  simp only [aM,hq2,bY]
  rw [if_neg (by decide),if_neg (by decide),if_neg (by decide),if_neg (by decide),if_neg (by decide),if_pos trivial]
  exact hop
 have hkd:Kd w 2:=by rcases hw with ⟨rfl,_⟩ | ⟨rfl,_⟩<;>constructor
 obtain ⟨A,B,hA⟩:=s12.pot h.pot
 refine ⟨(w,[z],ns),d,m2.set q (.lst ((ps.take d++[(w,[z],ns)]++ps.drop d).map pcW)),bA (w:=.non) ?_,⟨λ i h1 h2=>by rw [List.getElem?_set_ne h2.symm,s12.ne h1.symm]; exact h.fr i h1 h2,⟨A,B,by rw [List.getElem?_set_ne hpq.symm]; exact hA⟩,(s12.cm h.cm).set (aI _ (bF _)),by rw [List.length_set,s12.len,h.len],List.getElem?_set_self hql,λ pc hpc=>?_⟩,rfl,rfl⟩
 ·rw [eX,ay]
  simp only [h7,aj]
  rw [if_pos hk]
  simp only [EVs,h0,h7,h8,bf,bG,getL,h.at_,qU,hd]
  rw [if_pos (by simp [lim])]
  simp only [aj]
  rw [e]
  simp only [aj]
  rw [xq (by simp [lim]; omega)]
  simp only [aj]
  exact D9
 ·rcases List.mem_append.mp hpc with hpc | hpc
  ·rcases List.mem_append.mp hpc with hpc | hpc
   ·exact h.ok pc (List.mem_of_mem_take hpc)
   ·rw [List.mem_singleton] at hpc
    subst hpc
    refine ⟨.inr ⟨z,2,rfl,hkd,l2,?_⟩,nd,rg⟩
    rcases hw with ⟨rfl,hz⟩ | ⟨rfl,hz⟩
    ·rw [if_pos rfl]; exact hz
    ·rw [if_neg (by decide +kernel:¬("lamp":Str)="coil"),if_pos rfl]; exact hz
  ·exact h.ok pc (List.mem_of_mem_drop hpc)
end My
end
section
namespace My
open PySem D
noncomputable def Sg (z:Str):Prop:=∀c∈z.cps.toList,c < 0x110000
theorem Sg.all {z:Str} (h:Sg z):z.cps.all (· < 0x110000)=true:=by
 rw [Array.all_eq_true]
 intro i hi
 have:=h z.cps[i] (by simp)
 simpa using this
theorem Sg.of {z:Str} (h:z.cps.all (· < 0x110000)=true):Sg z:=λ c hc=>by
 rw [Array.all_eq_true] at h
 obtain ⟨i,hi,rfl⟩:=List.mem_iff_getElem.mp hc
 have:=h i (by simpa using hi)
 simpa using this
theorem Sg.app {a b:Str} (ha:Sg a) (hb:Sg b):Sg (a++b):=λ c hc=>by
 have:c∈(a.cps++b.cps).toList:=hc
 rw [Array.toList_append] at this
 rcases List.mem_append.mp this with h | h
 ·exact ha c h
 ·exact hb c h
theorem AY:∀{ts:List Str} {k:Nat} {a:Str},Sg a->(∀t∈ts,Sg t)->Sg (textFrom k a ts):=by
 intro ts
 induction ts with
 | nil=>intro k a ha _; rw [textFrom.eq_1]; exact ha
 | cons t r ih=>
  intro k a ha h
  rw [textFrom.eq_2]
  refine ih ((ha.app ?_).app (h t List.mem_cons_self)) λ x hx=>h x (List.mem_cons_of_mem _ hx)
  split
  ·exact .of (by decide +kernel)
  ·exact .of (by decide +kernel)
theorem AZ {s:Str} (hs:Sg s):∀{ts:List Str},(∀t∈ts,Sg t)->Sg (s.join ts):=by
 intro ts
 induction ts with
 | nil=>intro _; rw [Str.join.eq_1]; exact .of (by decide +kernel)
 | cons t r ih=>
  intro h
  cases r with
  | nil=>rw [Str.join.eq_2]; exact h t List.mem_cons_self
  | cons u r=>
   rw [Str.join.eq_3 _ _ _ (by simp)]
   exact ((h t List.mem_cons_self).app hs).app (ih λ x hx=>h x (List.mem_cons_of_mem _ hx))
structure Shw (c d:Nat) (x:PyData):Prop where
 lay:x.canLay0=true
 dp:x.depth<=d
 wt:x.weight<=c
 is:x.intsShort 13=true
 sh:x.showable=true
 nd:x.hasDict=false
 sg:Sg x.shown
theorem Shw.mono {c d c' d':Nat} {x:PyData} (h:Shw c d x) (hc:c<=c') (hd:d<=d'):Shw c' d' x:=⟨h.lay,by have:=h.dp; omega,by have:=h.wt; omega,h.is,h.sh,h.nd,h.sg⟩
theorem yt {c d:Nat}:∀{xs:List PyData},(∀x∈xs,Shw c d x)->PyData.canLayAll0 xs=true/\PyData.depthAll xs<=d/\PyData.weightAll xs<=xs.length*(c+1)/\PyData.intsShortAll 13 xs=true/\PyData.showableAll xs=true/\PyData.hasDictAll xs=false/\∀t∈PyData.shownAll xs,Sg t:=by
 intro xs
 induction xs with
 | nil=>
  intro _
  exact ⟨rfl,Nat.zero_le _,by simp [PyData.weightAll],rfl,rfl,rfl,by simp [PyData.shownAll]⟩
 | cons x r ih=>
  intro h
  obtain ⟨h1,h2,h3,h4,h5,h6,h7⟩:=ih λ y hy=>h y (List.mem_cons_of_mem _ hy)
  have hx:=h x List.mem_cons_self
  refine ⟨?_,?_,?_,?_,?_,?_,?_⟩
  ·rw [PyData.canLayAll0,hx.lay,h1]; rfl
  ·rw [PyData.depthAll]; exact Nat.max_le.mpr ⟨hx.dp,h2⟩
  ·rw [PyData.weightAll,List.length_cons,Nat.succ_mul]; have:=hx.wt; omega
  ·rw [PyData.intsShortAll,hx.is,h4]; rfl
  ·rw [PyData.showableAll,hx.sh,h5]; rfl
  ·rw [PyData.hasDictAll,hx.nd,h6]; rfl
  ·intro t ht
   rw [PyData.shownAll] at ht
   rcases List.mem_cons.mp ht with rfl | ht
   ·exact hx.sg
   ·exact h7 t ht
theorem Shw.list {c d n:Nat} {xs:List PyData} (h:∀x∈xs,Shw c d x) (hn:xs.length<=n):Shw (n*(c+1)) (d+1) (.list xs):=by
 obtain ⟨h1,h2,h3,h4,h5,h6,h7⟩:=yt h
 refine ⟨by rw [PyData.canLay0]; exact h1,by rw [PyData.depth]; omega,?_,by rw [PyData.intsShort]; exact h4,by rw [PyData.showable]; exact h5,by rw [PyData.hasDict]; exact h6,?_⟩
 ·rw [PyData.weight]; exact Nat.le_trans h3 (Nat.mul_le_mul_right _ hn)
 ·rw [PyData.shown,listText]
  exact (AY (.of (by decide +kernel)) h7).app (.of (by decide +kernel))
theorem Shw.tuple {c d n:Nat} {xs:List PyData} (h:∀x∈xs,Shw c d x) (hn:xs.length<=n):Shw (n*(c+1)) (d+1) (.tuple xs):=by
 obtain ⟨h1,h2,h3,h4,h5,h6,h7⟩:=yt h
 refine ⟨by rw [PyData.canLay0]; exact h1,by rw [PyData.depth]; omega,?_,by rw [PyData.intsShort]; exact h4,by rw [PyData.showable]; exact h5,by rw [PyData.hasDict]; exact h6,?_⟩
 ·rw [PyData.weight]; exact Nat.le_trans h3 (Nat.mul_le_mul_right _ hn)
 ·rw [PyData.shown,tupleText]
  refine ((Sg.of (by decide +kernel)).app (AZ (.of (by decide +kernel)) h7)).app ?_
  split
  ·exact .of (by decide +kernel)
  ·exact .of (by decide +kernel)
theorem uP {i:Int} (h0:0<=i) (h1:i<=640):Shw 20 0 (.int i):=by
 have hn:i.natAbs<=640:=by omega
 refine ⟨rfl,Nat.zero_le _,?_,?_,?_,rfl,?_⟩
 ·rw [PyData.weight]
  split
  ·omega
  ·have:i.natAbs.log2 < 12:=(Nat.log2_lt (by rename_i h; intro e; apply h; simp; omega)).mpr (by omega)
   omega
 ·rw [PyData.intsShort]
  exact decide_eq_true (PyData.shown_int_le (by omega))
 ·rw [PyData.showable]
  by_cases h:i.natAbs=0
  ·rw [h]; decide +kernel
  ·exact decide_eq_true ((Nat.log2_lt h).mpr (Nat.lt_of_lt_of_le (by omega:i.natAbs < 2^12) (Nat.pow_le_pow_right (by decide) (by decide))))
 ·have:((List.range 641).all λ k=>(PyData.int (k:Nat)).shown.cps.all (· < 0x110000))=true:=by decide +kernel
  have:=List.all_eq_true.mp this i.natAbs (List.mem_range.mpr (by omega))
  rw [show ((i.natAbs:Nat):Int)=i by omega] at this
  exact .of this
theorem uQ {z:Str} (h:Wd z):Shw 20 0 (.str z):=by
 refine ⟨?_,Nat.zero_le _,?_,rfl,rfl,rfl,?_⟩
 ·rw [PyData.canLay0]; exact h.ok
 ·rw [PyData.weight]; have:=h.hi; omega
 ·rw [PyData.shown,reprText]
  have hq:reprQuote z < 0x110000:=by unfold reprQuote; split<;>decide
  have hc:∀c∈z.cps.toList,∀e∈Builtin.Str.reprChar (reprQuote z) c,e < 0x110000:=λ c hc=>by
   have hc:=h.az c hc
   have hq2:reprQuote z=34\/reprQuote z=39:=by unfold reprQuote; split<;>simp
   have ha:([34,39].all λ q=>(List.range 123).all λ c=>(Builtin.Str.reprChar q c).all (· < 0x110000))=true:=by decide +kernel
   intro e he
   have:=List.all_eq_true.mp (List.all_eq_true.mp (List.all_eq_true.mp ha (reprQuote z) (by rcases hq2 with h | h<;>rw [h]<;>simp)) c (List.mem_range.mpr (by omega))) e he
   simpa using this
  intro c hcm
  simp only [Array.toList_push] at hcm
  rcases List.mem_append.mp hcm with hcm | hcm
  ·have g:∀(l:List Nat) (a:Array Nat),(∀x∈a.toList,x < 0x110000)->(∀c∈l,∀e∈Builtin.Str.reprChar (reprQuote z) c,e < 0x110000)->∀x∈(l.foldl (λ out c=>out++(Builtin.Str.reprChar (reprQuote z) c).toArray) a).toList,x < 0x110000:=by
    intro l
    induction l with
    | nil=>intro a ha _; exact ha
    | cons y r ih=>
     intro a ha hl
     refine ih _ (λ x hx=>?_) λ c hc=>hl c (List.mem_cons_of_mem _ hc)
     rw [Array.toList_append] at hx
     rcases List.mem_append.mp hx with hx | hx
     ·exact ha x hx
     ·exact hl y List.mem_cons_self x (by simpa using hx)
   rw [<-Array.foldl_toList] at hcm
   exact g _ _ (by simpa using hq) hc c hcm
  ·rw [List.mem_singleton] at hcm
   omega
theorem Shw.shD {c d:Nat} {xs:List PyData} (h:Shw c d (.list xs)) (hc:c<=2^20) (hd:d<=60):shD (.list xs)=true:=by
 have h1:=h.dp
 have h2:=h.wt
 unfold D.shD
 rw [PyData.layable0,h.lay,h.is,h.sh,h.nd,decide_eq_true (by omega:(PyData.list xs).depth<=64),decide_eq_true (by omega:(PyData.list xs).depth<=60),decide_eq_true (by omega:(PyData.list xs).weight<=2^20)]
 rfl
end My
end
section
namespace My
open PySem D
theorem jx {l:List Str} {z:Str} (h:l.Nodup) (hz:z∈l):l.count z=1:=by
 induction l with
 | nil=>cases hz
 | cons x r ih=>
  rw [List.nodup_cons] at h
  rcases List.mem_cons.mp hz with rfl | hz
  ·rw [List.count_cons_self,List.count_eq_zero.mpr h.1]
  ·rw [List.count_cons_of_ne (λ e=>h.1 (by rw [e]; exact hz)),ih h.2 hz]
theorem pJ {w:Str} {ps:List Pc} (h:∀pc∈ps,pc.1≠w):fnd w ps=[]:=by
 unfold fnd
 rw [List.filter_eq_nil_iff.mpr λ pc hpc=>by simpa using h pc hpc]
 rfl
abbrev nlW (ks rl lm:List Str) (nodes:Nat) (r:W) (ts:List (List Int)):List W:=[fzS ks,fzS rl,fzS lm,.int nodes,r,.fz (ts.map tupI)]
section
variable {n p q L:Nat} {Z M:Mem} {sw rl lm:List Str} {nodes:Nat} {ps:List Pc} {ks:List Str} {o2 o9:Option W}
abbrev ntL (p:Nat) (o2:Option W) (ks rl lm:List Str) (nodes q:Nat) (o8 o9:Option W):D.Loc:=[some (.ref p),some (.int 18),o2,some (fzS ks),some (fzS rl),some (fzS lm),some (.int nodes),some (.ref q),o8,o9]
theorem l9 (h:Pst p q L Z M sw rl lm nodes ps) (hpq:p≠q) (hl:ps.length<=50) (n2:2<=nodes) (n1:nodes<=100) {w w':Str} {zs:List Str} (hww:w≠w') (hw:(w="coil"/\zs=rl)\/(w="lamp"/\zs=lm)) (hzl:zs.length<=10) {it:E} {b:Ss} {o8:Option W}
  (hb:b=.cons (.expr (.meth (.var 7) "insert" (.cons (.call 22 (.cons (.var 0) (.cons (.bin .Add (.blt .len (.cons (.var 7) .nil)) (.cst (.int 1))) .nil))) (.cons (.bin .Add (.tup (.cons (.cst (.str w)) (.cons (.var 8) .nil))) (.frz (.call 24 (.cons (.var 0) (.cons (.var 6) (.cons (.cst (.int 2)) .nil)))))) .nil)))) .nil)
  (hI:evI (Cn pg (n+1+1)) it (ntL p o2 ks rl lm nodes q o8 o9) M=.ok (.tup (zs.map .str)) M) (hf:fnd w ps=[]) :
  ∃ps2 M2 o8',evS (Cn pg (n+1+1)) (.for_ (.var 8) it b) (ntL p o2 ks rl lm nodes q o8 o9) M=.ok (.nx (ntL p o2 ks rl lm nodes q o8' o9)) M2/\Pst p q L Z M2 sw rl lm nodes ps2/\ps2.length<=ps.length+10/\(fnd w ps2).Perm zs/\(fnd w' ps2).Perm (fnd w' ps):=by
 obtain ⟨ρ',M2,hf,o8',ps2,rfl,hP,hl2,hw2,hw2'⟩:=bP (C:=Cn pg (n+1+1)) (t:=.var 8) (b:=b) hI (n:=zs.length) (by simp [Src.len])
  (λ i ρ M'=>∃o8' ps2,ρ=ntL p o2 ks rl lm nodes q o8' o9/\Pst p q L Z M' sw rl lm nodes ps2/\ps2.length<=ps.length+i/\(fnd w ps2).Perm (zs.take i)/\(fnd w' ps2).Perm (fnd w' ps)) ⟨o8,ps,rfl,h,Nat.le_refl _,by rw [hf]; exact List.Perm.refl _,List.Perm.refl _⟩ (λ i ρ M' hi=>by
   rintro ⟨o8',ps2,rfl,hP,hl2,hw2,hw2'⟩
   have hin:(w="coil"/\zs[i]∈rl)\/(w="lamp"/\zs[i]∈lm):=by
    rcases hw with ⟨e,e2⟩ | ⟨e,e2⟩
    ·subst e2; exact .inl ⟨e,List.getElem_mem hi⟩
    ·subst e2; exact .inr ⟨e,List.getElem_mem hi⟩
   obtain ⟨pc,d,M2,e,hP2,h1,h2⟩:=hP.step (n:=n) hpq (by omega) n2 n1 w zs[i] hin (ρ:=ntL p o2 ks rl lm nodes q (some (.str zs[i])) o9) rfl rfl rfl rfl
   refine ⟨.str zs[i],ntL p o2 ks rl lm nodes q (some (.str zs[i])) o9,ntL p o2 ks rl lm nodes q (some (.str zs[i])) o9,M2,?_,rfl,.inl ?_,_,_,rfl,hP2,?_,?_,?_⟩
   ·rw [aJ (by simpa using hi),List.getElem_map]
   ·rw [hb,af e,ao]
   ·simp only [List.length_append,List.length_take,List.length_drop,List.length_singleton]; omega
   ·refine (pI w pc ps2 d).trans ?_
    rw [if_pos h1,h2,List.take_add_one,List.getElem?_eq_getElem hi]
    exact (List.perm_append_comm).trans (List.Perm.append_right _ hw2)
   ·refine (pI w' pc ps2 d).trans ?_
    rw [if_neg (by rw [h1]; exact hww)]
    exact hw2') (fun ρ M' _=>aG (by simp))
 rw [List.take_length] at hw2
 exact ⟨ps2,M2,o8',hf,hP,by omega,hw2,hw2'⟩
theorem tms {m:Mem} {o8:Option W} (hp:Pot m p) (hm:Cm m) (hl:rl.length<=100):∃(ts:List (List Int)) (m':Mem),evE (Cn pg (n+1+1)) (.frz (.comp (.gen (.var 8) [8] (.var 4) .nil (.elt (.call 26 (.cons (.var 0) .nil)))))) (ntL p o2 ks rl lm nodes q o8 o9) m=.ok (.fz (ts.map tupI)) m'/\PS p m m'/\ts.length=rl.length/\∀t∈ts,fG t=true:=by
 obtain ⟨ws,m',e,s,hl,hr⟩:=pH (C:=Cn pg (n+1+1)) (i:=8) (js:=[8]) (it:=.var 4) (s:=.tup (rl.map .str)) (e:=.call 26 (.cons (.var 0) .nil)) (ρ:=ntL p o2 ks rl lm nodes q o8 o9) (xs:=rl.map .str) (Rr:=λ _ w=>∃t,w=tupI t/\fG t=true) hp hm (by rw [fD]; simp only [ay,gq0,gq1,gq2,gq3,aj]; rfl) (λ M j=>rfl) rfl (by simp [lim]; omega) (λ x _ m1 s1=>by
   obtain ⟨t,m2,h1,s2,ht⟩:=times (n:=n) (s1.pot hp)
   refine ⟨tupI t,m2,?_,s2,by simp [aC,dB],t,rfl,ht⟩
   simp only [clr,EVs,gq0,gq1,gq2,gq3,h1])
 have hl:ws.length=rl.length:=by simpa using hl
 have hall:∀w∈ws,∃t,w=tupI t/\fG t=true:=λ w hw=>by
  obtain ⟨j,hj,rfl⟩:=List.mem_iff_getElem.mp hw
  exact hr j (by simp; omega) hj
 have:∀l:List W,(∀w∈l,∃t,w=tupI t/\fG t=true)->∃ts:List (List Int),l=ts.map tupI/\∀t∈ts,fG t=true:=λ l=>by
  induction l with
  | nil=>intro _; exact ⟨[],rfl,by simp⟩
  | cons x r ih=>
   intro h
   obtain ⟨c,rfl,hc⟩:=h x List.mem_cons_self
   obtain ⟨cs,rfl,hcs⟩:=ih λ w hw=>h w (List.mem_cons_of_mem _ hw)
   exact ⟨c::cs,rfl,λ y hy=>by
    rcases List.mem_cons.mp hy with rfl | hy
    ·exact hc
    ·exact hcs y hy⟩
 obtain ⟨ts,rfl,hts⟩:=this ws hall
 exact ⟨ts,m',e,s,by simpa using hl,hts⟩
end
theorem net {n p:Nat} {m:Mem} (hp:Pot m p) (hm:Cm m):∃(ks rl lm:List Str) (nodes:Nat) (ps:List Pc) (ts:List (List Int)) (m':Mem),aE (D.runN pg (n+1+1+1+1) 27) [.ref p,.int 18] m=.ok (.ref (m.length+2)) (m'++[.lst ((ks++rl++lm).map .str),.lst (ps.map pcW),.lst (nlW ks rl lm nodes (.ref (m.length+1)) ts)])/\PS p m m'/\bC ks rl lm nodes ps ts:=by
 have hpl:=hp.lt
 have hpq:p≠m.length:=by omega
 have hpr:p≠m.length+1:=by omega
 have w0:Wst p m.length (m.length+1) (m++[.lst []]) (m++[.lst []]) []:=⟨λ _ _ _=>rfl,hp.app,hm.push rfl,by simp,by simp,by simp,by simp⟩
 obtain ⟨ks,M1,e1,w1,k1⟩:=words (n:=n+1) (K:=3) (o1:=some (.int 18)) (o3:=none) (o4:=none) (o5:=none) (o6:=none) (o7:=none) (o8:=none) w0 hpq (by simp) (by decide)
 rw [List.nil_append] at w1
 obtain ⟨rl,M2,e2,w2,k2⟩:=words (n:=n+1) (K:=5) (o1:=some (.int 18)) (o3:=some (fzS ks)) (o4:=none) (o5:=none) (o6:=none) (o7:=none) (o8:=none) w1 hpq (by omega) (by decide)
 obtain ⟨lm,M3,e3,w3,k3⟩:=words (n:=n+1) (K:=3) (o1:=some (.int 18)) (o3:=some (fzS ks)) (o4:=some (fzS rl)) (o5:=none) (o6:=none) (o7:=none) (o8:=none) w2 hpq (by rw [List.length_append]; omega) (by decide)
 obtain ⟨d,M4,h4,s4,z4⟩:=draw (n:=n+1+1) (many:=11) w3.pot (by decide) (by decide)
 have w4:=w3.ps hpq s4
 obtain ⟨k,M5,h5,s5,z5⟩:=draw (n:=n+1+1) (many:=19) w4.pot (by decide) (by decide)
 have w5:=w4.ps hpq s5
 have hwz:∀z∈ks++rl,Wd z:=λ z hz=>w3.wd z (List.mem_append_left _ hz)
 obtain ⟨acc,M6,e6,⟨ps,ha,s6,hps⟩,hac,hpu⟩:=uN (C:=Cn pg (n+1+1+1)) (i:=9) (js:=[9]) (it:=.rng (.call 22 (.cons (.var 0) (.cons (.bin .Add (.var 1) (.cst (.int 1))) .nil)))) (e:=.call 25 (.cons (.var 0) (.cons (.frz (.bin .Add (.var 3) (.var 4))) (.cons (.var 6) .nil)))) (ρ:=[some (.ref p),some (.int 18),some (.ref m.length),some (fzS ks),some (fzS rl),some (fzS lm),some (.int (2+d:Nat)),none,none,none]) (m:=M5) (m0:=M4) (xs:=(List.range k).map λ t=>W.int (t:Nat))
  (λ j M' acc=>∃ps:List Pc,acc=ps.map pcW/\PS p M5 M'/\∀pc∈ps,iD (ks++rl) rl lm (2+d) pc/\pc.1≠"coil"/\pc.1≠"lamp") (ug (by simp only [EVs,gq0,gq1,gq2,gq3,qU]; exact h5) (by omega)) (λ M j _=>gC k M j) (by simp [Src.len]) (by simp [lim]; omega) ⟨[],rfl,w5.pot.refl,by simp⟩ (λ j hj M' acc ⟨ps,ha,s,hps⟩ hac=>by
   obtain ⟨pc,M2,e,s2,ok,n1,n2⟩:=piece (n:=n) (zs:=ks++rl) (nodes:=2+d) (s.pot w5.pot) (s.cm w5.cm) hwz (by rw [List.length_append]; omega) (by omega) (by omega) rl lm
   have CV:=xm (C:=Cn pg (n+1+1+1)) (a:=.var 3) (b:=.var 4) (ρ:=[some (.ref p),some (.int 18),some (.ref m.length),some (fzS ks),some (fzS rl),some (fzS lm),some (.int (2+d:Nat)),none,none,some ((List.range k).map λ t=>W.int (t:Nat))[j]]) (m:=M') (x:=fzS ks) (y:=fzS rl) (xs:=ks.map .str) (ys:=rl.map .str) (s.cm w5.cm) (by simp only [EVs,gq0,gq1,gq2,gq3]) (by simp only [EVs,gq0,gq1,gq2,gq3]) rfl rfl (by simp [lim]; omega) (by rw [<-List.map_append]; exact aU _)
   rw [<-List.map_append] at CV
   refine ⟨pcW pc,M2,?_,uJ pc,ps++[pc],by simp [ha],s.trans s2,λ x hx=>?_⟩
   ·simp only [clr,bW,av,aB,ay,gq0,gq1,gq2,gq3,aj]
    rw [CV]
    simp only [aj]
    exact e
   ·rcases List.mem_append.mp hx with hx | hx
    ·exact hps x hx
    ·rw [List.mem_singleton] at hx; subst hx; exact ⟨ok,n1,n2⟩)
 subst ha
 have l6:M6.length=m.length+1:=s6.len.trans w5.len
 rw [l6] at e6
 have hk:ps.length<=18:=by rw [List.length_map,List.length_map,List.length_range] at hac; omega
 have P0:Pst p (m.length+1) (m.length+2) (M6++[.lst (ps.map pcW)]) (M6++[.lst (ps.map pcW)]) (ks++rl) rl lm (2+d) ps:=⟨λ _ _ _=>rfl,(s6.pot w5.pot).app,(s6.cm w5.cm).push (aI _ (bF _)),by simp [l6],by rw [<-l6]; simp,λ pc hpc=>(hps pc hpc).1⟩
 have ntI:∀(e:E) (zs:List Str) (o8:Option W) (M:Mem),evE (Cn pg (n+1+1+1)) e (ntL p (some (.ref m.length)) ks rl lm (2+d) (m.length+1) o8 none) M=.ok (fzS zs) M->(∃i,e=.var i)->evI (Cn pg (n+1+1+1)) e (ntL p (some (.ref m.length)) ks rl lm (2+d) (m.length+1) o8 none) M=.ok (.tup (zs.map .str)) M:=λ e zs o8 M h ⟨i,hi⟩=>by
  subst hi
  rw [fD,h]; rfl
 obtain ⟨ps7,M7,o7,e7,P7,l7,f7,g7⟩:=l9 (n:=n+1) (ks:=ks) (o2:=some (.ref m.length)) (o9:=none) (o8:=none) (w:="coil") (w':="lamp") (zs:=rl) (it:=.var 4) (b:=ym) P0 hpr (by omega) (by omega) (by omega) (by decide +kernel) (.inl ⟨rfl,rfl⟩) (by omega) rfl (ntI _ _ _ _ (by simp only [ay,gq0,gq1,gq2,gq3]) ⟨4,rfl⟩) (pJ λ pc hpc=>(hps pc hpc).2.1)
 rw [pJ λ pc hpc=>(hps pc hpc).2.2] at g7
 obtain ⟨ps8,M8,o8,e8,P8,l8,f8,g8⟩:=l9 (n:=n+1) (ks:=ks) (o2:=some (.ref m.length)) (o9:=none) (o8:=o7) (w:="lamp") (w':="coil") (zs:=lm) (it:=.var 5) (b:=yo) P7 hpr (by omega) (by omega) (by omega) (by decide +kernel) (.inr ⟨rfl,rfl⟩) (by omega) rfl (ntI _ _ _ _ (by simp only [ay,gq0,gq1,gq2,gq3]) ⟨5,rfl⟩) (List.perm_nil.mp g7)
 obtain ⟨ts,M9,e9,s9,tl,tok⟩:=tms (n:=n+1) (ks:=ks) (rl:=rl) (lm:=lm) (nodes:=2+d) (q:=m.length+1) (o2:=some (.ref m.length)) (o9:=none) (o8:=o8) P8.pot P8.cm (by omega)
 obtain ⟨A,B,hA⟩:=s9.pot P8.pot
 have lM9:M9.length=m.length+2:=s9.len.trans P8.len
 have low:∀i,i < m.length+1->i≠p->M9[i]?=M3[i]?:=λ i hi h=>by
  rw [s9.ne h.symm,P8.fr i h (by omega),List.getElem?_append_left (by omega),s6.ne h.symm,s5.ne h.symm,s4.ne h.symm]
 have hm9:M9=m.set p (pot A B)++[.lst ((ks++rl++lm).map .str),.lst (ps8.map pcW)]:=by
  apply List.ext_getElem?
  intro i
  by_cases hi:i < m.length
  ·rw [List.getElem?_append_left (by rw [List.length_set]; exact hi)]
   by_cases hip:i=p
   ·subst hip
    rw [List.getElem?_set_self hi]; exact hA
   ·rw [List.getElem?_set_ne (λ z=>hip z.symm),low i (by omega) hip,w3.fr i hip (by omega),List.getElem?_append_left hi]
  ·rw [List.getElem?_append_right (by rw [List.length_set]; omega),List.length_set]
   rcases (by omega:i=m.length\/i=m.length+1\/m.length+2<=i) with rfl | rfl | h
   ·rw [low _ (by omega) (by omega),w3.at_,Nat.sub_self]; rfl
   ·rw [s9.ne hpr,P8.at_,show m.length+1 - m.length=1 by omega]; rfl
   ·rw [List.getElem?_eq_none (by omega),List.getElem?_eq_none (by simp; omega)]
 have CW:rl.Nodup/\lm.Nodup:=by
  have:=List.nodup_append.mp w3.nd
  exact ⟨(List.nodup_append.mp this.1).2.1,this.2.1⟩
 refine ⟨ks,rl,lm,2+d,ps8,ts,m.set p (pot A B),?_,⟨A,B,rfl⟩,⟨w3.wd,w3.nd,by omega,by omega,by omega,by omega,by omega,by omega,P8.ok,λ z hz=>?_,λ z hz=>?_,tl,tok⟩⟩
 ·rw [aO rfl]
  refine bx (d:=⟨2,10,b27⟩) rfl rfl ?_
  show aF _ b27 [some (.ref p),some (.int 18),none,none,none,none,none,none,none,none] m=_
  rw [b27,af (ρ1:=[some (.ref p),some (.int 18),some (.ref m.length),none,none,none,none,none,none,none]) (m1:=m++[.lst []]) (aK (w:=.ref m.length) (by simp only [eS,aB,aj]; rw [if_pos (by simp [lim])]; rfl) rfl)]
  refine (af (ρ1:=[some (.ref p),some (.int 18),some (.ref m.length),some (fzS ks),none,none,none,none,none,none]) (aK e1 rfl)).trans ?_
  refine (af (ρ1:=[some (.ref p),some (.int 18),some (.ref m.length),some (fzS ks),some (fzS rl),none,none,none,none,none]) (aK e2 rfl)).trans ?_
  refine (af (ρ1:=[some (.ref p),some (.int 18),some (.ref m.length),some (fzS ks),some (fzS rl),some (fzS lm),none,none,none,none]) (aK e3 rfl)).trans ?_
  refine (af (ρ1:=[some (.ref p),some (.int 18),some (.ref m.length),some (fzS ks),some (fzS rl),some (fzS lm),some (.int (2+d:Nat)),none,none,none]) (m1:=M4) (aK (w:=.int (2+d:Nat)) (by simp only [EVs,gq0,gq1,gq2,gq3,h4,qU]; simp) rfl)).trans ?_
  refine (af (ρ1:=ntL p (some (.ref m.length)) ks rl lm (2+d) (m.length+1) none none) (aK e6 rfl)).trans ?_
  refine (af e7).trans ?_
  refine (af e8).trans ?_
  refine aW (bg ?_)
  simp only [eS,av,aB,ay,gq0,gq1,gq2,gq3,aj]
  rw [e9]
  simp only [aj]
  rw [if_pos (by simp [lim])]
  rw [hm9]
  simp [new]
 ·rw [(g8.trans f7).count_eq,jx CW.1 hz]
 ·rw [f8.count_eq,jx CW.2 hz]
end My
end
section
namespace My
open PySem D
theorem xy (k:Nat) {w:W}:aC w=true->shW k w=w:=
 @W.rec (λ w=>aC w=true->shW k w=w) (λ ws=>ah ws=true->gw k ws=ws) (λ _=>rfl) (λ _ _=>rfl) (λ _ _=>rfl) (λ _ _=>rfl)
  (λ xs ih h=>by rw [shW,ih (by simpa only [aC] using h)]) (λ xs ih h=>by rw [shW,ih (by simpa only [aC] using h)]) (λ c ks vs ih h=>by rw [shW,ih (by simpa only [aC] using h)]) (λ n h=>by cases h) (λ _=>rfl) (λ x r ih1 ih2 h=>by
   simp only [ah,Bool.and_eq_true] at h
   rw [gw,ih1 h.1,ih2 h.2]) w
theorem fH (k:Nat):∀{ws:List W},ah ws=true->gw k ws=ws:=by
 intro ws
 induction ws with
 | nil=>intro _; rfl
 | cons x r ih=>
  intro h
  simp only [ah,Bool.and_eq_true] at h
  rw [gw,xy k h.1,ih h.2]
abbrev fJ (b nodes:Nat):List W:=[.ref b,.ref (b+1),.ref (b+2),.int nodes,.ref (b+3),.ref (b+4)]
abbrev cg (b:Nat) (ks rl lm:List Str) (nodes:Nat) (ps:List Pc) (ts:List (List Int)):Mem:=[.lst (ks.map .str),.lst (rl.map .str),.lst (lm.map .str),.lst (ps.map pcW),.lst (ts.map tupI),.lst (fJ b nodes)]
section
variable {n:Nat} {m:Mem} {ks rl lm:List Str} {nodes:Nat} {ps:List Pc} {ts:List (List Int)}
theorem uR (k:Nat):(cg 0 ks rl lm nodes ps ts).map (shO k)=cg k ks rl lm nodes ps ts:=by
 simp only [List.map_cons,List.map_nil,shO,fH k (aU _),fH k (bF _),fH k (cR _),gw,shW,Nat.add_zero,Nat.zero_add]
abbrev thW (ks rl lm:List Str) (nodes:Nat) (ps:List Pc) (ts:List (List Int)):W:=.fz (nlW ks rl lm nodes (.fz (ps.map pcW)) ts)
theorem pK:aC (thW ks rl lm nodes ps ts)=true:=by simp [aC,ah,aU,bF,cR]
theorem gE:aC (bz ks rl lm nodes ps ts)=true:=by simp [aC,ah,aU,bF,cR]
theorem c9 {C:D.Cx} {e:E} {ρ:D.Loc} {w:W} {xs:List W} (he:evE C e ρ m=.ok w m) (h:getL m w=some xs):evE C (.blt .list (.cons e .nil)) ρ m=.ok (.ref m.length) (m++[.lst xs]):=by
 rw [dU,av,he]
 simp only [aj,aB,bf,j6 h,new]
theorem copy:aE (D.runN pg (n+1) 28) [thW ks rl lm nodes ps ts] m=.ok (.ref (m.length+5)) (m++cg m.length ks rl lm nodes ps ts):=by
 rw [eB (w:=.ref 5) (m1:=cg 0 ks rl lm nodes ps ts) (by simp only [ah,pK]; rfl) ?_ rfl,uR]
 ·rfl
 refine bx (d:=⟨1,7,b28⟩) rfl rfl ?_
 show aF _ b28 [some (thW ks rl lm nodes ps ts),none,none,none,none,none,none] []=_
 rw [b28,af (ρ1:=[some (thW ks rl lm nodes ps ts),some (fzS ks),some (fzS rl),some (fzS lm),some (.int nodes),some (.fz (ps.map pcW)),some (.fz (ts.map tupI))]) (m1:=[]) (by simp only [evS,EVs,gq0,gq1,gq2,gq3]; rfl),aW (bg ?_)]
 simp only [eS,av]
 rw [c9 (w:=fzS ks) (xs:=ks.map .str) (by simp only [EVs,gq0,gq1,gq2,gq3]) rfl]
 simp only [aj]
 rw [c9 (w:=fzS rl) (xs:=rl.map .str) (by simp only [EVs,gq0,gq1,gq2,gq3]) rfl]
 simp only [aj]
 rw [c9 (w:=fzS lm) (xs:=lm.map .str) (by simp only [EVs,gq0,gq1,gq2,gq3]) rfl]
 simp only [aj,ay,gq0,gq1,gq2,gq3]
 rw [c9 (w:=.fz (ps.map pcW)) (xs:=ps.map pcW) (by simp only [EVs,gq0,gq1,gq2,gq3]) rfl]
 simp only [aj]
 rw [c9 (w:=.fz (ts.map tupI)) (xs:=ts.map tupI) (by simp only [EVs,gq0,gq1,gq2,gq3]) rfl]
 simp only [aj,aB]
 rw [if_pos (by simp [lim])]
 rfl
theorem fK {b:Ss} {f:Nat} {x:Str} {xs:List W} (hd:pg.fns[f]?=some ⟨1,1,b⟩) (hb:b=.cons (.ret (.blt .list (.cons (.fld (.var 0) x) .nil))) .nil) (hx:jn pg.cs (bz ks rl lm nodes ps ts) x []=.ok (.fz xs) []) (hp:ah xs=true):aE (D.runN pg (n+1) f) [bz ks rl lm nodes ps ts] m=.ok (.ref m.length) (m++[.lst xs]):=by
 rw [eB (w:=.ref 0) (m1:=[.lst xs]) (by simp only [ah,gE]; rfl) ?_ rfl]
 ·simp only [shW,Nat.add_zero,List.map_cons,List.map_nil,shO,fH _ hp]
 refine bx (d:=⟨1,1,b⟩) hd rfl ?_
 show aF _ b [some (bz ks rl lm nodes ps ts)] []=_
 rw [hb,aW (bg (c9 (w:=.fz xs) (xs:=xs) ?_ rfl))]
 ·rfl
 ·rw [nR,ay]
  simp only [gq0,gq1,gq2,gq3,aj,hx]
theorem told:aE (D.runN pg (n+1+1) 30) [bz ks rl lm nodes ps ts] m=.ok (.ref (m.length+5)) (m++cg m.length ks rl lm nodes ps ts):=by
 rw [eB (w:=.ref 5) (m1:=cg 0 ks rl lm nodes ps ts) (by simp only [ah,gE]; rfl) ?_ rfl,uR]
 ·rfl
 refine bx (d:=⟨1,1,b30⟩) rfl rfl ?_
 show aF _ b30 [some (bz ks rl lm nodes ps ts)] []=_
 have q:∀{M:Mem} {f:Str} {k:Nat} {r:D.R W},g9 pg.cs (bz ks rl lm nodes ps ts) f M=some k->aE (D.runN pg (n+1) k) [bz ks rl lm nodes ps ts] M=r->evE (Cn pg (n+1)) (.mth (.var 0) f .nil) [some (bz ks rl lm nodes ps ts)] M=r:=λ h1 h2=>by
  rw [ux,ay]
  simp only [gq0,gq1,gq2,gq3,aj,h1,aB,h2]
 rw [b30,aW (bg ?_)]
 simp only [eS,av]
 rw [q (k:=1) rfl (fK (n:=n) (xs:=ks.map .str) rfl rfl rfl (aU _))]
 simp only [aj]
 rw [q (k:=2) rfl (fK (n:=n) (xs:=rl.map .str) rfl rfl rfl (aU _))]
 simp only [aj]
 rw [q (k:=3) rfl (fK (n:=n) (xs:=lm.map .str) rfl rfl rfl (aU _))]
 simp only [aj]
 rw [q (k:=4) (r:=.ok (.int nodes) _) rfl (bq (m1:=[]) (by simp only [ah,gE]; rfl) (bx (d:=⟨1,1,b4⟩) rfl rfl (by
  show aF _ b4 [some (bz ks rl lm nodes ps ts)] []=_
  rw [b4,aW (bg (w:=.int nodes) (m1:=[]) (by rw [nR,ay]; rfl))])) rfl)]
 simp only [aj]
 rw [q (k:=5) rfl (fK (n:=n) (xs:=ps.map pcW) rfl rfl rfl (bF _))]
 simp only [aj]
 rw [q (k:=6) rfl (fK (n:=n) (xs:=ts.map tupI) rfl rfl rfl (cR _))]
 simp only [aj,aB]
 rw [if_pos (by simp [lim])]
 rfl
end
end My
end
section
namespace My
open PySem D
abbrev pcD (p:Pc):PyData:=.tuple (.str p.1::(p.2.1.map .str++p.2.2.map .int))
abbrev tmD (t:List Int):PyData:=.tuple (t.map .int)
abbrev iX (ks rl lm:List Str) (nodes:Nat) (ps:List Pc) (ts:List (List Int)):PyData:=.list [.list (ks.map .str),.list (rl.map .str),.list (lm.map .str),.int nodes,.list (ps.map pcD),.list (ts.map tmD)]
theorem Wd.of {z:Str} (h:(decide (1<=z.cps.size)&&decide (z.cps.size<=8)&&z.cps.toList.all λ c=>decide (97<=c)&&decide (c<=122))=true):Wd z:=by
 simp only [Bool.and_eq_true,decide_eq_true_eq] at h
 refine ⟨h.1.1,h.1.2,λ c hc=>?_⟩
 have:=List.all_eq_true.mp h.2 c hc
 simpa using this
theorem CY {w:Str} {k:Nat} (h:Kd w k):Wd w:=by cases h<;>exact .of (by decide +kernel)
theorem iD.wd {sw rl lm:List Str} {nodes:Nat} {p:Pc} (h:iD sw rl lm nodes p) (h1:∀z∈sw,Wd z) (h2:∀z∈rl,Wd z) (h3:∀z∈lm,Wd z):Wd p.1/\(p.2.1=[]\/∃z,p.2.1=[z]/\Wd z):=by
 rcases h.kind with ⟨e1,e2,_⟩ | ⟨z,k,e,hk,_,hz⟩
 ·exact ⟨by rw [e1]; exact .of (by decide +kernel),.inl e2⟩
 ·refine ⟨CY hk,.inr ⟨z,e,?_⟩⟩
  split at hz
  ·exact h2 z hz
  ·split at hz
   ·exact h3 z hz
   ·exact h1 z hz
section
variable {n:Nat} {m:Mem} {ks rl lm:List Str} {nodes:Nat} {ps:List Pc} {ts:List (List Int)}
theorem bC.words (h:bC ks rl lm nodes ps ts):(∀z∈ks,Wd z)/\(∀z∈rl,Wd z)/\∀z∈lm,Wd z:=
 ⟨λ z hz=>h.wd z (List.mem_append_left _ (List.mem_append_left _ hz)),λ z hz=>h.wd z (List.mem_append_left _ (List.mem_append_right _ hz)),λ z hz=>h.wd z (List.mem_append_right _ hz)⟩
theorem bC.CZ (h:bC ks rl lm nodes ps ts):∀p∈ps,Wd p.1/\(p.2.1=[]\/∃z,p.2.1=[z]/\Wd z):=λ p hp=>
 (h.pc p hp).wd (λ z hz=>h.wd z (List.mem_append_left _ hz)) h.words.2.1 h.words.2.2
theorem iF {k:Nat} {w:W} {zs:List Str} (hg:getL m w=some (zs.map .str)) (h:∀z∈zs,Wd z):toD (k+1+1) m w=some (.list (zs.map .str)):=by
 rw [fF hg,eE λ z hz=>(h z hz).ok]; rfl
theorem A1 {k:Nat} {p:Pc} (h:Wd p.1/\(p.2.1=[]\/∃z,p.2.1=[z]/\Wd z)):toD (k+1+1) m (pcW p)=some (pcD p):=by
 obtain ⟨w,zs,ns⟩:=p
 obtain ⟨h1,h2⟩:=h
 dsimp only at h1 h2
 rw [pB]
 rcases h2 with rfl | ⟨z,rfl,hz⟩
 ·simp only [List.map_nil,List.nil_append,bT,fE h1.ok,eF]; rfl
 ·simp only [List.map_cons,List.map_nil,List.cons_append,List.nil_append,bT,fE h1.ok,fE hz.ok,eF]; rfl
theorem xA {k:Nat} {w:W} (hg:getL m w=some (ps.map pcW)) (h:∀p∈ps,Wd p.1/\(p.2.1=[]\/∃z,p.2.1=[z]/\Wd z)):toD (k+1+1+1) m w=some (.list (ps.map pcD)):=by
 rw [fF hg,iC (h:=pcD) λ p hp=>A1 (h p hp)]; rfl
theorem xB {k:Nat} {w:W} (hg:getL m w=some (ts.map tupI)):toD (k+1+1+1) m w=some (.list (ts.map tmD)):=by
 rw [fF hg,iC (h:=tmD) λ t _=>by rw [pB,eF]; rfl]; rfl
theorem pL {k:Nat} {w a b c d e:W} (o:bC ks rl lm nodes ps ts) (hw:getL m w=some [a,b,c,.int nodes,d,e]) (ha:getL m a=some (ks.map .str)) (hb:getL m b=some (rl.map .str)) (hc:getL m c=some (lm.map .str)) (hd:getL m d=some (ps.map pcW)) (he:getL m e=some (ts.map tupI)) :
  toD (k+1+1+1+1) m w=some (iX ks rl lm nodes ps ts):=by
 obtain ⟨w1,w2,w3⟩:=o.words
 rw [fF hw]
 have hi:toD (k+1+1+1) m (.int nodes)=some (.int nodes):=rfl
 simp only [bT,iF ha w1,iF hb w2,iF hc w3,hi,xA hd o.CZ,xB he]
 rfl
theorem nX {k:Nat} (o:bC ks rl lm nodes ps ts):toD (k+1+1+1+1) m (thW ks rl lm nodes ps ts)=some (iX ks rl lm nodes ps ts):=pL o rfl rfl rfl rfl rfl rfl
theorem iG {b:Nat} {l r:Mem} (hb:l.length=b) (M:Mem) (hM:M=l++(cg b ks rl lm nodes ps ts++r)):M[b]?=some (.lst (ks.map .str))/\M[b+1]?=some (.lst (rl.map .str))/\M[b+2]?=some (.lst (lm.map .str))/\M[b+3]?=some (.lst (ps.map pcW))/\M[b+4]?=some (.lst (ts.map tupI))/\M[b+5]?=some (.lst (fJ b nodes)):=by
 subst hM hb
 refine ⟨?_,?_,?_,?_,?_,?_⟩<;>rw [List.getElem?_append_right (by omega)]<;>simp
theorem kh {k b:Nat} {l r:Mem} (o:bC ks rl lm nodes ps ts) (hb:l.length=b) (hM:m=l++(cg b ks rl lm nodes ps ts++r)):toD (k+1+1+1+1) m (.ref (b+5))=some (iX ks rl lm nodes ps ts):=by
 obtain ⟨h0,h1,h2,h3,h4,h5⟩:=iG hb m hM
 have gL:∀{i:Nat} {xs:List W},m[i]?=some (.lst xs)->getL m (.ref i)=some xs:=λ q=>by simp only [getL,q]
 exact pL o (gL h5) (gL h0) (gL h1) (gL h2) (gL h3) (gL h4)
theorem Shw.net (o:bC ks rl lm nodes ps ts):Shw 508806 3 (iX ks rl lm nodes ps ts):=by
 obtain ⟨w1,w2,w3⟩:=o.words
 have hk:=o.k2
 have hr:=o.r4
 have hl:=o.l2
 have hn:=o.n6
 have hs:∀zs:List Str,(∀z∈zs,Wd z)->zs.length<=8->Shw 84800 2 (.list (zs.map .str)):=λ zs h hl=>by
  refine (Shw.list (c:=20) (d:=0) (n:=8) (λ x hx=>?_) (by simpa using hl)).mono (by decide) (by decide)
  obtain ⟨z,hz,rfl⟩:=List.mem_map.mp hx
  exact uQ (h z hz)
 have hps:Shw 84800 2 (.list (ps.map pcD)):=by
  refine (Shw.list (c:=105) (d:=1) (n:=800) (λ x hx=>?_) (by simpa using o.p8)).mono (by decide) (by decide)
  obtain ⟨p,hp,rfl⟩:=List.mem_map.mp hx
  have hpo:=o.pc p hp
  have hpl:=hpo.len
  obtain ⟨hw,hz⟩:=o.CZ p hp
  refine Shw.tuple (c:=20) (d:=0) (n:=5) (λ x hx=>?_) ?_
  ·rcases List.mem_cons.mp hx with rfl | hx
   ·exact uQ hw
   ·rcases List.mem_append.mp hx with hx | hx
    ·obtain ⟨z,hzm,rfl⟩:=List.mem_map.mp hx
     rcases hz with e | ⟨y,e,hy⟩
     ·rw [e] at hzm; cases hzm
     ·rw [e,List.mem_singleton] at hzm; subst hzm; exact uQ hy
    ·obtain ⟨i,hi,rfl⟩:=List.mem_map.mp hx
     have:=hpo.rg i hi
     exact uP this.1 (by omega)
  ·simp only [List.length_cons,List.length_append,List.length_map]
   rcases hz with e | ⟨y,e,_⟩<;>rw [e]<;>simp<;>omega
 have hts:Shw 84800 2 (.list (ts.map tmD)):=by
  refine (Shw.list (c:=84) (d:=1) (n:=4) (λ x hx=>?_) (by rw [List.length_map,o.tl]; exact hr)).mono (by decide) (by decide)
  obtain ⟨t,ht,rfl⟩:=List.mem_map.mp hx
  have h:=o.tm t ht
  obtain ⟨x0,x1,x2,x3,rfl⟩:∃x0 x1 x2 x3,t=[x0,x1,x2,x3]:=by
   unfold fG at h
   split at h
   ·exact ⟨_,_,_,_,rfl⟩
   ·cases h
  simp only [fG,Bool.and_eq_true,decide_eq_true_eq] at h
  refine Shw.tuple (c:=20) (d:=0) (n:=4) (λ x hx=>?_) (by simp)
  obtain ⟨i,hi,rfl⟩:=List.mem_map.mp hx
  simp only [List.mem_cons,List.not_mem_nil,or_false] at hi
  rcases hi with rfl | rfl | rfl | rfl<;>exact uP (by omega) (by omega)
 refine Shw.list (c:=84800) (d:=2) (n:=6) (λ x hx=>?_) (by simp)
 simp only [List.mem_cons,List.not_mem_nil,or_false] at hx
 rcases hx with rfl | rfl | rfl | rfl | rfl | rfl
 ·exact hs ks w1 (by omega)
 ·exact hs rl w2 (by omega)
 ·exact hs lm w3 (by omega)
 ·exact (uP (by omega) (by omega)).mono (by decide) (by decide)
 ·exact hps
 ·exact hts
theorem pM {x:W} {c d:Nat} {xs:List PyData} (h:toD 60 m x=some (.list xs)) (hs:Shw c d (.list xs)) (hc:c<=2^20) (hd:d<=60):bf .repr [x] m=.ok (.str (PyData.list xs).shown) m:=by
 simp only [bf,h,hs.shD hc hd,if_true]
theorem xC {z:Str} (h:Sg z):ak .NotEq (.str z) (.str z) m=.ok false m:=by
 simp only [ak,eqS h.all h.all]
 simp
 rfl
theorem pN {C:D.Cx} {ρ:D.Loc} {i j:Nat} {x y:W} {c d:Nat} {xs:List PyData} (hi:ρ[i]?=some (some x)) (hj:ρ[j]?=some (some y)) (h:toD 60 m x=some (.list xs)) (h':toD 60 m y=some (.list xs)) (hs:Shw c d (.list xs)) (hc:c<=2^20) (hd:d<=60):evT C (.cmp .NotEq (.blt .repr (.cons (.var i) .nil)) (.blt .repr (.cons (.var j) .nil))) ρ m=.ok false m:=by
 simp only [bZ,dU,av,aB,ay,hi,hj,aj,pM h hs hc hd,pM h' hs hc hd,xC hs.sg]
end
end My
end
section
namespace My
open PySem D
abbrev A2 (b:Nat):List W:=(List.range 5).map λ j=>W.ref (b+j)
section
variable {C:D.Cx} {M:Mem} {b i:Nat}
theorem ki {ρ:D.Loc} {q nodes:Nat} (hi:ρ[i]?=some (some (.ref q))) (hq:M[q]?=some (.lst (fJ b nodes))) (hm:Cm M) (hb:b+4 < M.length):evE C (.frz (.bin .Add (.slc (.var i) .none (.some (.cst (.int 3)))) (.slc (.var i) (.some (.cst (.int 4))) .none))) ρ M=.ok (.fz (A2 b)) M:=by
 have c1:fk (fJ b nodes) none (some 3)=[.ref b,.ref (b+1),.ref (b+2)]:=rfl
 have c2:fk (fJ b nodes) (some 4) none=[.ref (b+3),.ref (b+4)]:=rfl
 have s1:cG (.ref q) none (some 3) M=.ok (.ref M.length) (M++[.lst [.ref b,.ref (b+1),.ref (b+2)]]):=by simp only [cG,getL,hq,c1,new]
 have hq1:(M++[O.lst [.ref b,.ref (b+1),.ref (b+2)]])[q]?=some (.lst (fJ b nodes)):=by rw [List.getElem?_append_left (List.getElem?_eq_some_iff.mp hq).1]; exact hq
 have s2:cG (.ref q) (some 4) none (M++[O.lst [.ref b,.ref (b+1),.ref (b+2)]])=.ok (.ref (M.length+1)) (M++[.lst [.ref b,.ref (b+1),.ref (b+2)],.lst [.ref (b+3),.ref (b+4)]]):=by simp [cG,getL,hq1,c2,new]
 have s3:binop .Add (.ref M.length) (.ref (M.length+1)) (M++[O.lst [.ref b,.ref (b+1),.ref (b+2)],.lst [.ref (b+3),.ref (b+4)]])=.ok (.ref (M.length+2)) (M++[.lst [.ref b,.ref (b+1),.ref (b+2)],.lst [.ref (b+3),.ref (b+4)],.lst [.ref b,.ref (b+1),.ref (b+2),.ref (b+3),.ref (b+4)]]):=by
  rw [yp (xs:=[.ref b,.ref (b+1),.ref (b+2)]) (ys:=[.ref (b+3),.ref (b+4)]) (by simp [getL]) (by simp [getL]) (by simp [lim])]
  simp
 refine iw (m0:=M) (l:=[.lst [.ref b,.ref (b+1),.ref (b+2)],.lst [.ref (b+3),.ref (b+4)],.lst [.ref b,.ref (b+1),.ref (b+2),.ref (b+3),.ref (b+4)]]) (w:=.ref (M.length+2)) ?_ rfl hm ?_
 ·simp only [jv,ur,ay,hi,nP,nQ,aV,aj,s1,s2,s3]
 ·have g:∀k,k < M.length->∀l n,frG l M.length (n+1) k=some (.ref k):=λ k hk l n=>by simp only [frG]; rw [if_pos hk]
  have e:(M++[O.lst [.ref b,.ref (b+1),.ref (b+2)],.lst [.ref (b+3),.ref (b+4)],.lst [.ref b,.ref (b+1),.ref (b+2),.ref (b+3),.ref (b+4)]])[M.length+2]?=some (.lst [.ref b,.ref (b+1),.ref (b+2),.ref (b+3),.ref (b+4)]):=by simp
  show frG _ M.length (7+1) (M.length+2)=_
  rw [frG,if_neg (by omega),e]
  simp only [cz,frW,g b (by omega),g (b+1) (by omega),g (b+2) (by omega),g (b+3) (by omega),g (b+4) (by omega)]
  rfl
variable {f:Option W->D.Loc} {it:E} {o:Option W}
theorem iH (hI:evI C it (f o) M=.ok (.tup (A2 b)) M) (hf:∀o w,aD (.var i) w (f o)=some (f (some w))) (hg:∀w,(f (some w))[i]?=some (some w)) (hm:Cm M) (hF:∀j,j < 5->∃xs,M[b+j]?=some (.lst xs)) :
  ∃M' o',evS C (.for_ (.var i) it (.cons (.expr (.meth (.var i) "clear" .nil)) .nil)) (f o) M=.ok (.nx (f o')) M'/\M'.length=M.length/\Cm M'/\∀k,k < b\/b+5<=k->M'[k]?=M[k]?:=by
 obtain ⟨ρ',M',h,o',rfl,hl,hc,hfr,_⟩:=bP (C:=C) (t:=.var i) (b:=.cons (.expr (.meth (.var i) "clear" .nil)) .nil) hI (n:=5) rfl
  (λ j ρ M'=>∃o',ρ=f o'/\M'.length=M.length/\Cm M'/\(∀k,k < b\/b+5<=k->M'[k]?=M[k]?)/\∀j,j < 5->∃xs,M'[b+j]?=some (.lst xs)) ⟨o,rfl,rfl,hm,λ _ _=>rfl,hF⟩ (λ j ρ M1 hj=>by
   rintro ⟨o',rfl,hl,hc,hfr,hF⟩
   obtain ⟨xs,hx⟩:=hF j hj
   have hk:kdOf M1 (.ref (b+j))=kdM "clear":=by simp only [kdOf,hx]; rfl
   have hop:aM (.ref (b+j)) "clear" [] M1=.ok .non (M1.set (b+j) (.lst [])):=by
    simp only [aM,hx,bY]
    rw [if_neg (by decide),if_pos trivial]
    rfl
   have hlt:b+j < M1.length:=(List.getElem?_eq_some_iff.mp hx).1
   refine ⟨.ref (b+j),f (some (.ref (b+j))),f (some (.ref (b+j))),M1.set (b+j) (.lst []),?_,hf _ _,.inl ?_,_,rfl,by rw [List.length_set,hl],hc.set rfl,λ k hk=>?_,λ k hk=>?_⟩
   ·rw [aJ (by simpa using hj)]; simp
   ·rw [af (bA (w:=.non) (m1:=M1.set (b+j) (.lst [])) (by simp only [eX,ay,hg,aj,hk,if_true,aB,hop])),ao]
   ·rw [List.getElem?_set_ne (by omega)]; exact hfr k hk
   ·by_cases hjk:j=k
    ·subst hjk; exact ⟨[],List.getElem?_set_self hlt⟩
    ·rw [List.getElem?_set_ne (by omega)]; exact hF k hk) (fun ρ M' _=>aG (by simp))
 exact ⟨M',o',h,hl,hc,hfr⟩
theorem uS (hI:evI C it (f o) M=.ok (.tup (A2 b)) M) (hf:∀o w,aD (.var i) w (f o)=some (f (some w))) (hg:∀w,(f (some w))[i]?=some (some w)) (hF:∀j,j < 5->∃xs,M[b+j]?=some (.lst xs)/\xs.length<=1000) :
  ∃M' o',evS C (.for_ (.var i) it (.cons (.expr (.meth (.var i) "reverse" .nil)) (.cons (.expr (.meth (.var i) "append" (.cons (.cst (.str "a")) .nil))) .nil))) (f o) M=.ok (.nx (f o')) M':=by
 obtain ⟨ρ',M',h,o',rfl,_⟩:=bP (C:=C) (t:=.var i) (b:=.cons (.expr (.meth (.var i) "reverse" .nil)) (.cons (.expr (.meth (.var i) "append" (.cons (.cst (.str "a")) .nil))) .nil)) hI (n:=5) rfl
  (λ t ρ M'=>∃o',ρ=f o'/\∀j,j < 5->∃xs,M'[b+j]?=some (.lst xs)/\xs.length<=1000+t) ⟨o,rfl,hF⟩ (λ j ρ M1 hj=>by
   rintro ⟨o',rfl,hF⟩
   obtain ⟨xs,hx,hl⟩:=hF j hj
   have hlt:b+j < M1.length:=(List.getElem?_eq_some_iff.mp hx).1
   have hk:kdOf M1 (.ref (b+j))=kdM "reverse":=by simp only [kdOf,hx]; rfl
   have hop:aM (.ref (b+j)) "reverse" [] M1=.ok .non (M1.set (b+j) (.lst xs.reverse)):=by
    simp only [aM,hx,bY]
    rw [if_neg (by decide),if_neg (by decide),if_pos trivial]
    rfl
   have hx2:(M1.set (b+j) (.lst xs.reverse))[b+j]?=some (.lst xs.reverse):=List.getElem?_set_self hlt
   have hk2:kdOf (M1.set (b+j) (.lst xs.reverse)) (.ref (b+j))=kdM "append":=by simp only [kdOf,hx2]; rfl
   have Ea:aM (.ref (b+j)) "append" [.str "a"] (M1.set (b+j) (.lst xs.reverse))=.ok .non (M1.set (b+j) (.lst (xs.reverse++[.str "a"]))):=by
    simp only [aM,hx2,bY]
    rw [if_pos trivial]
    simp only [fm]
    rw [if_pos (by rw [List.length_reverse]; simp only [lim]; omega),List.set_set]
   refine ⟨.ref (b+j),f (some (.ref (b+j))),f (some (.ref (b+j))),M1.set (b+j) (.lst (xs.reverse++[.str "a"])),?_,hf _ _,.inl ?_,_,rfl,λ k hk=>?_⟩
   ·rw [aJ (by simpa using hj)]; simp
   ·rw [af (bA (w:=.non) (m1:=M1.set (b+j) (.lst xs.reverse)) (by simp only [eX,ay,hg,aj,hk,if_true,aB,hop])),af (bA (w:=.non) (m1:=M1.set (b+j) (.lst (xs.reverse++[.str "a"]))) (by simp only [eX,ay,hg,aj,hk2,if_true,av,aV,aB,Ea])),ao]
   ·by_cases hjk:j=k
    ·subst hjk; exact ⟨_,List.getElem?_set_self hlt,by simp; omega⟩
    ·obtain ⟨ys,hy,hyl⟩:=hF k hk
     exact ⟨ys,by rw [List.getElem?_set_ne (by omega)]; exact hy,by omega⟩) (fun ρ M' _=>aG (by simp))
 exact ⟨M',o',h⟩
end
section
variable {n:Nat} {m:Mem} {ks rl lm:List Str} {nodes:Nat} {ps:List Pc} {ts:List (List Int)}
theorem kj {b:Nat} {l:Mem} (h:Cm l) (hb:l.length=b):Cm (l++cg b ks rl lm nodes ps ts):=by
 refine h.app λ o ho=>?_
 simp only [List.mem_cons,List.not_mem_nil,or_false] at ho
 rcases ho with rfl | rfl | rfl | rfl | rfl | rfl
 ·exact aI _ (aU _)
 ·exact aI _ (aU _)
 ·exact aI _ (aU _)
 ·exact aI _ (bF _)
 ·exact aI _ (cR _)
 ·simp [dm,bJ,dM]; omega
theorem right (o:bC ks rl lm nodes ps ts):aE (D.runN pg (n+1+1+1) 31) [bz ks rl lm nodes ps ts,thW ks rl lm nodes ps ts] m=.ok (.bl true) m:=by
 have hk:=o.k2
 have hr:=o.r4
 have hl:=o.l2
 have h8:=o.p8
 have htl:=o.tl
 have a1:=iG (l:=[]) (r:=[]) (ks:=ks) (rl:=rl) (lm:=lm) (nodes:=nodes) (ps:=ps) (ts:=ts) rfl (cg 0 ks rl lm nodes ps ts) (by simp)
 have c1:Cm (cg 0 ks rl lm nodes ps ts):=kj (l:=[]) Cm.nil rfl
 have t1:=kh (k:=56) (l:=[]) (r:=[]) (m:=cg 0 ks rl lm nodes ps ts) o rfl (by simp)
 have hT:=pN (C:=Cn pg (n+1+1)) (ρ:=[some (bz ks rl lm nodes ps ts),some (thW ks rl lm nodes ps ts),some (.ref 5),none]) (i:=2) (j:=1) rfl rfl t1 (nX (k:=56) o) (Shw.net o) (by decide) (by decide)
 have e1:=ki (C:=Cn pg (n+1+1)) (i:=2) (ρ:=[some (bz ks rl lm nodes ps ts),some (thW ks rl lm nodes ps ts),some (.ref 5),none]) (M:=cg 0 ks rl lm nodes ps ts) (b:=0) (q:=5) (nodes:=nodes) rfl rfl c1 (by simp)
 obtain ⟨M2,o3,l1,C0,c2,_⟩:=iH (C:=Cn pg (n+1+1)) (i:=3) (b:=0) (f:=λ o=>[some (bz ks rl lm nodes ps ts),some (thW ks rl lm nodes ps ts),some (.ref 5),o]) (it:=.frz (.bin .Add (.slc (.var 2) .none (.some (.cst (.int 3)))) (.slc (.var 2) (.some (.cst (.int 4))) .none))) (o:=none) (M:=cg 0 ks rl lm nodes ps ts) (by rw [pe,e1]; rfl) (λ _ _=>rfl) (λ _=>rfl) c1 (λ j hj=>by
  rcases (by omega:j=0\/j=1\/j=2\/j=3\/j=4) with rfl | rfl | rfl | rfl | rfl<;>exact ⟨_,rfl⟩)
 have C0:M2.length=6:=C0
 have t2:=told (n:=n) (m:=M2) (ks:=ks) (rl:=rl) (lm:=lm) (nodes:=nodes) (ps:=ps) (ts:=ts)
 have c3:Cm (M2++cg M2.length ks rl lm nodes ps ts):=kj c2 rfl
 obtain ⟨b0,b1,b2,b3,b4,b5⟩:=iG (l:=M2) (r:=[]) (ks:=ks) (rl:=rl) (lm:=lm) (nodes:=nodes) (ps:=ps) (ts:=ts) rfl (M2++cg M2.length ks rl lm nodes ps ts) (by simp)
 have e2:=ki (C:=Cn pg (n+1+1)) (i:=2) (ρ:=[some (bz ks rl lm nodes ps ts),some (thW ks rl lm nodes ps ts),some (.ref (M2.length+5)),o3]) rfl b5 c3 (by simp)
 obtain ⟨M4,o4,l2⟩:=uS (C:=Cn pg (n+1+1)) (i:=3) (b:=M2.length) (f:=λ o=>[some (bz ks rl lm nodes ps ts),some (thW ks rl lm nodes ps ts),some (.ref (M2.length+5)),o]) (it:=.frz (.bin .Add (.slc (.var 2) .none (.some (.cst (.int 3)))) (.slc (.var 2) (.some (.cst (.int 4))) .none))) (o:=o3) (M:=M2++cg M2.length ks rl lm nodes ps ts) (by rw [pe,e2]; rfl) (λ _ _=>rfl) (λ _=>rfl) (λ j hj=>by
  rcases (by omega:j=0\/j=1\/j=2\/j=3\/j=4) with rfl | rfl | rfl | rfl | rfl
  ·exact ⟨_,b0,by rw [List.length_map]; omega⟩
  ·exact ⟨_,b1,by rw [List.length_map]; omega⟩
  ·exact ⟨_,b2,by rw [List.length_map]; omega⟩
  ·exact ⟨_,b3,by rw [List.length_map]; omega⟩
  ·exact ⟨_,b4,by rw [List.length_map]; omega⟩)
 refine bq (m1:=M4) (by simp only [ah,gE,pK]; rfl) (bx (d:=⟨2,4,b31⟩) rfl rfl ?_) rfl
 show aF _ b31 [some (bz ks rl lm nodes ps ts),some (thW ks rl lm nodes ps ts),none,none] []=_
 have t0:=told (n:=n) (m:=[]) (ks:=ks) (rl:=rl) (lm:=lm) (nodes:=nodes) (ps:=ps) (ts:=ts)
 rw [b31,af (ρ1:=[some (bz ks rl lm nodes ps ts),some (thW ks rl lm nodes ps ts),some (.ref 5),none]) (m1:=cg 0 ks rl lm nodes ps ts) (aK (w:=.ref 5) (by simp only [bW,av,aB,ay,gq0,gq1,gq2,gq3,aj,t0]; rfl) rfl),af (by rw [cZ hT,ao])]
 refine (af l1).trans ?_
 rw [af (ρ1:=[some (bz ks rl lm nodes ps ts),some (thW ks rl lm nodes ps ts),some (.ref (M2.length+5)),o3]) (m1:=M2++cg M2.length ks rl lm nodes ps ts) (aK (w:=.ref (M2.length+5)) (by simp only [bW,av,aB,ay,gq0,gq1,gq2,gq3,aj,t2]) rfl)]
 refine (af l2).trans ?_
 rw [aW (bg (w:=.bl true) (m1:=M4) (by simp only [EVs]))]
end
end My
end
section
namespace My
open PySem D
theorem yu {C:D.Cx} {i:Nat} {js:List Nat} {it e:E} {ρ:D.Loc} {m m1 m2:Mem} {s:Src} {x y w1 w2:W} (hI:evI C it ρ m=.ok s m) (hl:s.len m=2) (g0:s.get m 0=.it x) (g1:s.get m1 1=.it y) (g2:s.get m2 2=.fin)
  (h1:evE C e ((clr js ρ).set i (some x)) m=.ok w1 m1) (h2:evE C e ((clr js ρ).set i (some y)) m1=.ok w2 m2):evE C (.comp (.gen (.var i) js it .nil (.elt e))) ρ m=.ok (.ref m2.length) (m2++[.lst [w1,w2]]):=by
 refine cL (m1:=m) (ws:=[w1,w2]) (ρ':=(clr js ρ).set i (some y)) hI ?_
 rw [hl,iu (x:=x) (ρ1:=(clr js ρ).set i (some x)) (m1:=m) (j0:=[w1]) (ρ2:=(clr js ρ).set i (some x)) (m2:=m1) g0 rfl (by simp only [aN]) (by simp only [evG,h1,R.bind]; rw [if_pos (by simp [lim])]; rfl)]
 rw [iu (x:=y) (ρ1:=(clr js ρ).set i (some y)) (m1:=m1) (j0:=[w1,w2]) (ρ2:=(clr js ρ).set i (some y)) (m2:=m2) g1 (by simp only [aD,List.set_set]) (by simp only [aN]) (by simp only [evG,h2,R.bind]; rw [if_pos (by simp [lim])]; rfl)]
 exact jr g2
section
variable {n:Nat} {m:Mem} {ks rl lm:List Str} {nodes:Nat} {ps:List Pc} {ts:List (List Int)} {ks' rl' lm':List Str} {nodes':Nat} {ps':List Pc} {ts':List (List Int)}
abbrev ntM (b:Nat) (ks rl lm:List Str) (nodes:Nat) (ps:List Pc) (ts:List (List Int)):Mem:=[.lst ((ks++rl++lm).map .str),.lst (ps.map pcW),.lst (nlW ks rl lm nodes (.ref (b+1)) ts)]
theorem C1 {b:Nat} (h:Cm m) (hb:m.length=b):Cm (m++ntM b ks rl lm nodes ps ts):=by
 refine h.app λ o ho=>?_
 simp only [List.mem_cons,List.not_mem_nil,or_false] at ho
 rcases ho with rfl | rfl | rfl
 ·exact aI _ (aU _)
 ·exact aI _ (bF _)
 ·have h1:=λ k (zs:List Str)=>aI k (aU zs)
  have h2:=λ k=>aI k (cR ts)
  simp only [dm,bJ,dM,h1,h2]
  simp
  omega
theorem yv {M:Mem} {k j b:Nat} (h2:M[b+2]?=some (.lst (nlW ks rl lm nodes (.ref (b+1)) ts))) (h1:M[b+1]?=some (.lst (ps.map pcW))) (hk:k<=b):frG M k (j+1+1) (b+2)=some (thW ks rl lm nodes ps ts):=by
 have e1:frG M k (j+1) (b+1)=some (.fz (ps.map pcW)):=by
  rw [frG,if_neg (by omega),h1]
  simp only [bh _ (bF ps)]
  rfl
 rw [frG,if_neg (by omega),h2]
 simp only [cz,frW,bh _ (aU _),bh _ (cR _),e1,Option.map_some]
theorem both {p:Nat} {ρ:D.Loc} (hp:Pot m p) (hm:Cm m) (h2:ρ[2]?=some (some (.ref p))):∃(ks rl lm:List Str) (nodes:Nat) (ps:List Pc) (ts:List (List Int)) (ks' rl' lm':List Str) (nodes':Nat) (ps':List Pc) (ts':List (List Int)) (m':Mem),
  evE (Cn pg (n+1+1+1+1)) (.frz (.lst (.cons (.call 27 (.cons (.var 2) (.cons (.cst (.int 18)) .nil))) (.cons (.call 27 (.cons (.var 2) (.cons (.cst (.int 18)) .nil))) .nil)))) ρ m=.ok (.fz [thW ks rl lm nodes ps ts,thW ks' rl' lm' nodes' ps' ts']) m'/\PS p m m'/\bC ks rl lm nodes ps ts/\bC ks' rl' lm' nodes' ps' ts':=by
 obtain ⟨ks,rl,lm,nodes,ps,ts,m1,e1,s1,o1⟩:=net (n:=n) hp hm
 have p1:Pot (m1++ntM m.length ks rl lm nodes ps ts) p:=(s1.pot hp).app
 have c1:Cm (m1++ntM m.length ks rl lm nodes ps ts):=C1 (s1.cm hm) s1.len
 obtain ⟨ks',rl',lm',nodes',ps',ts',m2,e2,s2,o2⟩:=net (n:=n) p1 c1
 have hl1:(m1++ntM m.length ks rl lm nodes ps ts).length=m.length+3:=by simp [s1.len]
 rw [hl1] at e2
 obtain ⟨A,B,hA⟩:=s2
 have hm2:m2=m1.set p (pot A B)++ntM m.length ks rl lm nodes ps ts:=by rw [hA,List.set_append_left _ _ (by rw [s1.len]; exact hp.lt)]
 have s3:PS p m (m1.set p (pot A B)):=s1.trans ⟨A,B,rfl⟩
 have l3:=s3.len
 refine ⟨ks,rl,lm,nodes,ps,ts,ks',rl',lm',nodes',ps',ts',m1.set p (pot A B),?_,s3,o1,o2⟩
 refine iw (m0:=m1.set p (pot A B)) (l:=ntM m.length ks rl lm nodes ps ts++ntM (m.length+3) ks' rl' lm' nodes' ps' ts'++[.lst [.ref (m.length+2),.ref (m.length+3+2)]]) (w:=.ref (m.length+6)) ?_ l3 (s3.cm hm) ?_
 ·simp only [eS,av,aB,bW,ay,h2,aV,aj]
  rw [e1]
  simp only [aj]
  rw [e2]
  simp only [aj]
  rw [if_pos (by simp [lim]),hm2]
  simp [new,s1.len]
 ·generalize hM:m1.set p (pot A B)++(ntM m.length ks rl lm nodes ps ts++ntM (m.length+3) ks' rl' lm' nodes' ps' ts'++[.lst [.ref (m.length+2),.ref (m.length+3+2)]])=M
  have at_:∀j,M[m.length+j]?=(ntM m.length ks rl lm nodes ps ts++ntM (m.length+3) ks' rl' lm' nodes' ps' ts'++[.lst [.ref (m.length+2),.ref (m.length+3+2)]])[j]?:=λ j=>by
   rw [<-hM,List.getElem?_append_right (by omega),l3,Nat.add_sub_cancel_left]
  have x1:=yv (M:=M) (k:=(m1.set p (pot A B)).length) (j:=5) (b:=m.length) (ks:=ks) (rl:=rl) (lm:=lm) (nodes:=nodes) (ps:=ps) (ts:=ts) (at_ 2) (at_ 1) (by omega)
  have x2:=yv (M:=M) (k:=(m1.set p (pot A B)).length) (j:=5) (b:=m.length+3) (ks:=ks') (rl:=rl') (lm:=lm') (nodes:=nodes') (ps:=ps') (ts:=ts') (at_ 5) (at_ 4) (by omega)
  show frG M _ (7+1) (m.length+6)=_
  rw [frG,if_neg (by omega),at_ 6]
  show Option.map W.fz (cz _ [.ref (m.length+2),.ref (m.length+3+2)])=_
  simp only [cz,frW,x1,x2,Option.map_some]
abbrev hdM (b:Nat) (ks rl lm:List Str) (nodes:Nat) (ps:List Pc) (ts:List (List Int)) (ks' rl' lm':List Str) (nodes':Nat) (ps':List Pc) (ts':List (List Int)):Mem:=cg b ks rl lm nodes ps ts++(cg (b+6) ks' rl' lm' nodes' ps' ts'++[.lst [.ref (b+5),.ref (b+6+5)]])
theorem handed {ρ:D.Loc} (h3:ρ[3]?=some (some (.fz [thW ks rl lm nodes ps ts,thW ks' rl' lm' nodes' ps' ts']))) (hl:ρ.length=9):evE (Cn pg (n+1)) (.comp (.gen (.var 4) [4] (.var 3) .nil (.elt (.call 28 (.cons (.var 4) .nil))))) ρ m=.ok (.ref (m.length+12)) (m++hdM m.length ks rl lm nodes ps ts ks' rl' lm' nodes' ps' ts'):=by
 have hv:∀(w:W) (M:Mem),evE (Cn pg (n+1)) (.call 28 (.cons (.var 4) .nil)) ((clr [4] ρ).set 4 (some w)) M=aE (D.runN pg (n+1) 28) [w] M:=λ w M=>by
  have:((clr [4] ρ).set 4 (some w))[4]?=some (some w):=by simp [clr,hl]
  rw [bW,av,ay,this]
  simp only [aj,aB]
 have:=yu (C:=Cn pg (n+1)) (i:=4) (js:=[4]) (it:=.var 3) (e:=.call 28 (.cons (.var 4) .nil)) (ρ:=ρ) (m:=m) (s:=.tup [thW ks rl lm nodes ps ts,thW ks' rl' lm' nodes' ps' ts']) (by rw [fD,ay,h3]; rfl) rfl rfl rfl rfl ((hv _ _).trans copy) ((hv _ _).trans copy)
 rw [this]
 simp [Nat.add_assoc]
theorem uT {M:Mem} {k j b:Nat} (h:M[b]?=some (.ins "Net" (cj ks rl lm nodes ps ts))) (hk:k<=b):frG M k (j+1) b=some (bz ks rl lm nodes ps ts):=by
 rw [frG,if_neg (by omega),h]
 simp only [List.map_cons,List.map_nil,cz,frW,bh _ (aU _),bh _ (cR _),bh _ (bF _),Option.map_some]
theorem C2 (b:Nat) (hb:m.length=b) {M:Mem} (hM:M=m++hdM b ks rl lm nodes ps ts ks' rl' lm' nodes' ps' ts'):Hd M b (b+1) (b+2) (b+3) (b+4) ks rl lm ps ts/\M[b+5]?=some (.lst (fJ b nodes))/\Hd M (b+6) (b+6+1) (b+6+2) (b+6+3) (b+6+4) ks' rl' lm' ps' ts'/\M[b+6+5]?=some (.lst (fJ (b+6) nodes'))/\M[b+12]?=some (.lst [.ref (b+5),.ref (b+6+5)]):=by
 obtain ⟨h0,h1,h2,h3,h4,h5⟩:=iG (l:=m) (b:=b) hb M hM
 obtain ⟨g0,g1,g2,g3,g4,g5⟩:=iG (l:=m++cg b ks rl lm nodes ps ts) (b:=b+6) (r:=[.lst [.ref (b+5),.ref (b+6+5)]]) (by simp [hb]) M (by rw [hM,List.append_assoc])
 refine ⟨⟨h0,h1,h2,h3,h4⟩,h5,⟨g0,g1,g2,g3,g4⟩,g5,?_⟩
 rw [hM,List.getElem?_append_right (by omega),hb,Nat.add_sub_cancel_left]
 rfl
theorem C3 (h:Cm m):Cm (m++hdM m.length ks rl lm nodes ps ts ks' rl' lm' nodes' ps' ts'):=by
 have h1:Cm (m++cg m.length ks rl lm nodes ps ts):=kj h rfl
 have h2:Cm (m++cg m.length ks rl lm nodes ps ts++cg (m.length+6) ks' rl' lm' nodes' ps' ts'):=kj h1 (by simp)
 have h3:=h2.push (o:=.lst [.ref (m.length+5),.ref (m.length+6+5)]) (by simp [dm,bJ,dM])
 rw [List.append_assoc,List.append_assoc] at h3
 exact h3
theorem Eb {b:Nat} {ρ:D.Loc} (hm:Cm m) (h:Hd m b (b+1) (b+2) (b+3) (b+4) ks rl lm ps ts) (h5:m[b+5]?=some (.lst (fJ b nodes))) (g:Hd m (b+6) (b+6+1) (b+6+2) (b+6+3) (b+6+4) ks' rl' lm' ps' ts') (g5:m[b+6+5]?=some (.lst (fJ (b+6) nodes'))) (hq:m[b+12]?=some (.lst [.ref (b+5),.ref (b+6+5)])) (o1:bC ks rl lm nodes ps ts) (o2:bC ks' rl' lm' nodes' ps' ts') (hv5:ρ[5]?=some (some (.ref (b+12)))) (hl:ρ.length=9) :
  evE (Cn pg (n+1+1+1+1+1+1+1)) (.frz (.comp (.gen (.var 4) [4] (.var 5) .nil (.elt (.call 29 (.cons (.var 4) .nil)))))) ρ m=.ok (.fz [bz ks rl lm nodes ps ts,bz ks' rl' lm' nodes' ps' ts']) m:=by
 obtain ⟨l1,e1,c1⟩:=made (n:=n) hm h5 h o1
 have g5':(m++O.ins "Net" (cj ks rl lm nodes ps ts)::l1)[b+6+5]?=some (.lst (fJ (b+6) nodes')):=by rw [List.getElem?_append_left (List.getElem?_eq_some_iff.mp g5).1]; exact g5
 have hq':∀l:Mem,(m++l)[b+12]?=some (.lst [.ref (b+5),.ref (b+6+5)]):=λ l=>by rw [List.getElem?_append_left (List.getElem?_eq_some_iff.mp hq).1]; exact hq
 obtain ⟨l2,e2,c2⟩:=made (n:=n) c1 g5' g.app o2
 have hv:∀(w:W) (M:Mem),evE (Cn pg (n+1+1+1+1+1+1+1)) (.call 29 (.cons (.var 4) .nil)) ((clr [4] ρ).set 4 (some w)) M=aE (D.runN pg (n+1+1+1+1+1+1+1) 29) [w] M:=λ w M=>by
  have:((clr [4] ρ).set 4 (some w))[4]?=some (some w):=by simp [clr,hl]
  rw [bW,av,ay,this]
  simp only [aj,aB]
 have hc:=yu (C:=Cn pg (n+1+1+1+1+1+1+1)) (i:=4) (js:=[4]) (it:=.var 5) (e:=.call 29 (.cons (.var 4) .nil)) (ρ:=ρ) (m:=m) (s:=.lst (b+12)) (x:=.ref (b+5)) (y:=.ref (b+6+5)) (by rw [fD,ay,hv5]; simp only [aj,toI,nj,srcOf,getL,hq]) (by simp [Src.len,getL,hq]) (by rw [bB hq]; rfl) (by rw [bB (hq' _)]; rfl) (by rw [List.append_assoc,bB (hq' _)]; rfl) ((hv _ _).trans e1) ((hv _ _).trans e2)
 refine iw (m0:=m) (w:=.ref ((m++O.ins "Net" (cj ks rl lm nodes ps ts)::l1)++O.ins "Net" (cj ks' rl' lm' nodes' ps' ts')::l2).length) (l:=O.ins "Net" (cj ks rl lm nodes ps ts)::l1++(O.ins "Net" (cj ks' rl' lm' nodes' ps' ts')::l2++[O.lst [.ref m.length,.ref (m++O.ins "Net" (cj ks rl lm nodes ps ts)::l1).length]])) (by rw [hc]; simp only [List.append_assoc]) rfl hm ?_
 generalize hM:m++(O.ins "Net" (cj ks rl lm nodes ps ts)::l1++(O.ins "Net" (cj ks' rl' lm' nodes' ps' ts')::l2++[O.lst [.ref m.length,.ref (m++O.ins "Net" (cj ks rl lm nodes ps ts)::l1).length]]))=M
 have a1:M[m.length]?=some (.ins "Net" (cj ks rl lm nodes ps ts)):=by rw [<-hM]; simp
 have a2:M[(m++O.ins "Net" (cj ks rl lm nodes ps ts)::l1).length]?=some (.ins "Net" (cj ks' rl' lm' nodes' ps' ts')):=by
  rw [<-hM,<-List.append_assoc,List.getElem?_append_right (Nat.le_refl _),Nat.sub_self]; rfl
 have a3:M[((m++O.ins "Net" (cj ks rl lm nodes ps ts)::l1)++O.ins "Net" (cj ks' rl' lm' nodes' ps' ts')::l2).length]?=some (.lst [.ref m.length,.ref (m++O.ins "Net" (cj ks rl lm nodes ps ts)::l1).length]):=by
  rw [<-hM,<-List.append_assoc,<-List.append_assoc,List.getElem?_append_right (Nat.le_refl _),Nat.sub_self]; rfl
 show frG M m.length (7+1) _=_
 rw [frG,if_neg (by simp),a3]
 simp only [cz,frW,uT (j:=6) a1 (Nat.le_refl _),uT (k:=m.length) (j:=6) a2 (by simp),Option.map_some]
end
end My
end
section
namespace My
open PySem D
abbrev lo9 (ns:List Int) (i:Nat) (a2 a3 a4 a5 a6 a7 a8:Option W):D.Loc:=[some (.fz (ns.map .int)),some (.int i),a2,a3,a4,a5,a6,a7,a8]
section
variable {n:Nat} {m:Mem} {ks rl lm:List Str} {nodes:Nat} {ps:List Pc} {ts:List (List Int)} {ks' rl' lm':List Str} {nodes':Nat} {ps':List Pc} {ts':List (List Int)} {ns:List Int} {i:Nat} {a2 a3 a4 a5 a6 a7 a8:Option W}
theorem Hd.lst {b:Nat} (h:Hd m b (b+1) (b+2) (b+3) (b+4) ks rl lm ps ts):∀j,j < 5->∃xs,m[b+j]?=some (.lst xs):=λ j hj=>by
 rcases (by omega:j=0\/j=1\/j=2\/j=3\/j=4) with rfl | rfl | rfl | rfl | rfl
 ·exact ⟨_,h.k⟩
 ·exact ⟨_,h.r⟩
 ·exact ⟨_,h.l⟩
 ·exact ⟨_,h.p⟩
 ·exact ⟨_,h.t⟩
theorem clears {b:Nat} (hm:Cm m) (h:∀j,j < 5->∃xs,m[b+j]?=some (.lst xs)) (h5:m[b+5]?=some (.lst (fJ b nodes))) (g:∀j,j < 5->∃xs,m[b+6+j]?=some (.lst xs)) (g5:m[b+6+5]?=some (.lst (fJ (b+6) nodes'))) (hq:m[b+12]?=some (.lst [.ref (b+5),.ref (b+6+5)])) :
  ∃c4 c7 M',evS (Cn pg n) (.for_ (.var 4) (.var 5) lV) (lo9 ns i a2 a3 a4 (some (.ref (b+12))) a6 a7 a8) m=.ok (.nx (lo9 ns i a2 a3 c4 (some (.ref (b+12))) a6 c7 a8)) M'/\Cm M':=by
 have hbl:b+12 < m.length:=(List.getElem?_eq_some_iff.mp hq).1
 have one:∀{M:Mem} {b' k:Nat} {c7:Option W},Cm M->b'+5 < M.length->(∀j,j < 5->∃xs,M[b'+j]?=some (.lst xs))->M[b'+5]?=some (.lst (fJ b' k))->∃M' o',aF (Cn pg n) lV (lo9 ns i a2 a3 (some (.ref (b'+5))) (some (.ref (b+12))) a6 c7 a8) M=.ok (.nx (lo9 ns i a2 a3 (some (.ref (b'+5))) (some (.ref (b+12))) a6 o' a8)) M'/\M'.length=M.length/\Cm M'/\∀k,k < b'\/b'+5<=k->M'[k]?=M[k]?:=λ {M b' k c7} hm hl h h5=>by
  have e1:=ki (C:=Cn pg n) (i:=4) (ρ:=lo9 ns i a2 a3 (some (.ref (b'+5))) (some (.ref (b+12))) a6 c7 a8) rfl h5 hm (by omega)
  obtain ⟨M',o',l1,h1,h2,h3⟩:=iH (C:=Cn pg n) (i:=7) (b:=b') (f:=λ o=>lo9 ns i a2 a3 (some (.ref (b'+5))) (some (.ref (b+12))) a6 o a8) (it:=.frz (.bin .Add (.slc (.var 4) .none (.some (.cst (.int 3)))) (.slc (.var 4) (.some (.cst (.int 4))) .none))) (o:=c7) (M:=M) (by rw [pe,e1]; rfl) (λ _ _=>rfl) (λ _=>rfl) hm h
  refine ⟨M',o',?_,h1,h2,h3⟩
  rw [lV]
  exact (af l1).trans ao
 obtain ⟨ρ',M',hf,c4,c7,rfl,_,hc,_⟩:=bP (C:=Cn pg n) (t:=.var 4) (it:=.var 5) (b:=lV) (ρ:=lo9 ns i a2 a3 a4 (some (.ref (b+12))) a6 a7 a8) (m:=m) (s:=.lst (b+12)) (n:=2) (by rw [fD,ay]; simp only [gq0,gq1,gq2,gq3,aj,toI,nj,srcOf,getL,hq]) (by simp [Src.len,getL,hq])
  (λ t ρ M=>∃c4 c7,ρ=lo9 ns i a2 a3 c4 (some (.ref (b+12))) a6 c7 a8/\M.length=m.length/\Cm M/\(∀k,b+5<=k/\t=1->M[k]?=m[k]?)/\(t=0->M=m)/\M[b+12]?=some (.lst [.ref (b+5),.ref (b+6+5)])) ⟨a4,a7,rfl,rfl,hm,λ k h=>by omega,λ _=>rfl,hq⟩ (λ t ρ M ht=>by
   rintro ⟨c4,c7,rfl,hl,hc,hfr,h0,hq1⟩
   rcases (by omega:t=0\/t=1) with rfl | rfl
   ·obtain rfl:=h0 rfl
    obtain ⟨M',o',e,q1,q2,q3⟩:=one (c7:=c7) (b':=b) hc (by omega) h h5
    exact ⟨.ref (b+5),_,_,_,by rw [bB hq]; rfl,rfl,.inl e,_,_,rfl,q1,q2,λ k hk=>q3 k (.inr hk.1),λ h=>by omega,(q3 _ (.inr (by omega))).trans hq1⟩
   ·obtain ⟨M',o',e,q1,q2,q3⟩:=one (c7:=c7) (b':=b+6) (k:=nodes') hc (by omega) (λ j hj=>by rw [hfr _ (by omega)]; exact g j hj) (by rw [hfr _ (by omega)]; exact g5)
    exact ⟨.ref (b+6+5),_,_,_,by rw [bB hq1]; rfl,rfl,.inl e,_,_,rfl,q1.trans hl,q2,λ k hk=>by omega,λ h=>by omega,(q3 _ (.inr (by omega))).trans hq1⟩)
  (fun ρ M=>by
   rintro ⟨c4,c7,rfl,hl,hc,hfr,h0,hq1⟩
   rw [bB hq1]
   rfl)
 exact ⟨c4,c7,M',hf,hc⟩
theorem turns (hm:Cm m) (o1:bC ks rl lm nodes ps ts) (o2:bC ks' rl' lm' nodes' ps' ts'):∃c8,evS (Cn pg (n+1+1+1)) (.for_ (.var 8) (.frz (.lst (.cons (.cst (.int 0)) (.cons (.cst (.int 1)) (.cons (.cst (.int 1)) (.cons (.cst (.int 0)) .nil)))))) lW) (lo9 ns i a2 (some (.fz [thW ks rl lm nodes ps ts,thW ks' rl' lm' nodes' ps' ts'])) a4 a5 (some (.fz [bz ks rl lm nodes ps ts,bz ks' rl' lm' nodes' ps' ts'])) a7 a8) m=.ok (.nx (lo9 ns i a2 (some (.fz [thW ks rl lm nodes ps ts,thW ks' rl' lm' nodes' ps' ts'])) a4 a5 (some (.fz [bz ks rl lm nodes ps ts,bz ks' rl' lm' nodes' ps' ts'])) a7 c8)) m:=by
 have hz:evE (Cn pg (n+1+1+1)) (.frz (.lst (.cons (.cst (.int 0)) (.cons (.cst (.int 1)) (.cons (.cst (.int 1)) (.cons (.cst (.int 0)) .nil)))))) (lo9 ns i a2 (some (.fz [thW ks rl lm nodes ps ts,thW ks' rl' lm' nodes' ps' ts'])) a4 a5 (some (.fz [bz ks rl lm nodes ps ts,bz ks' rl' lm' nodes' ps' ts'])) a7 a8) m=.ok (.fz [.int 0,.int 1,.int 1,.int 0]) m:=by
  refine bQ (m0:=m) ?_ rfl hm rfl
  simp only [eS,av,aB,aV,aj]
  rw [if_pos (by simp [lim])]
  rfl
 have one:∀(t:Int) {ks rl lm:List Str} {nodes:Nat} {ps:List Pc} {ts:List (List Int)} {ρ:D.Loc} {x y:W},bC ks rl lm nodes ps ts->ρ[8]?=some (some (.int t))->ρ[6]?=some (some x)->ρ[3]?=some (some y)->aQ x (.int t) m=.ok (bz ks rl lm nodes ps ts) m->aQ y (.int t) m=.ok (thW ks rl lm nodes ps ts) m->aF (Cn pg (n+1+1+1)) lW ρ m=.ok (.nx ρ) m:=λ t {ks rl lm nodes ps ts ρ x y} o h8 h6 h3 hx hy=>by
  have t1:evT (Cn pg (n+1+1+1)) (.call 31 (.cons (.idx (.var 6) (.var 8)) (.cons (.idx (.var 3) (.var 8)) .nil))) ρ m=.ok true m:=gB (j4 _ _) (by simp only [bW,av,aB,dS,ay,h8,h6,h3,aj,hx,hy,right (n:=n) (m:=m) o])
  have t2:evT (Cn pg (n+1+1+1)) (.not (.call 31 (.cons (.idx (.var 6) (.var 8)) (.cons (.idx (.var 3) (.var 8)) .nil)))) ρ m=.ok false m:=by rw [iy,t1]; rfl
  rw [lW,af (by rw [cZ t2,ao]),ao]
 obtain ⟨ρ',M',hf,c8,rfl,rfl⟩:=bP (C:=Cn pg (n+1+1+1)) (t:=.var 8) (b:=lW) (m:=m) (m1:=m) (s:=.tup [.int 0,.int 1,.int 1,.int 0]) (n:=4) (by rw [pe,hz]; rfl) rfl
  (λ t ρ M=>∃c8,ρ=lo9 ns i a2 (some (.fz [thW ks rl lm nodes ps ts,thW ks' rl' lm' nodes' ps' ts'])) a4 a5 (some (.fz [bz ks rl lm nodes ps ts,bz ks' rl' lm' nodes' ps' ts'])) a7 c8/\M=m) ⟨a8,rfl,rfl⟩ (λ t ρ M ht=>by
   rintro ⟨c8,rfl,rfl⟩
   rcases (by omega:t=0\/t=1\/t=2\/t=3) with rfl | rfl | rfl | rfl
   ·exact ⟨.int 0,_,_,_,rfl,rfl,.inl (one 0 o1 rfl rfl rfl rfl rfl),_,rfl,rfl⟩
   ·exact ⟨.int 1,_,_,_,rfl,rfl,.inl (one 1 o2 rfl rfl rfl rfl rfl),_,rfl,rfl⟩
   ·exact ⟨.int 1,_,_,_,rfl,rfl,.inl (one 1 o2 rfl rfl rfl rfl rfl),_,rfl,rfl⟩
   ·exact ⟨.int 0,_,_,_,rfl,rfl,.inl (one 0 o1 rfl rfl rfl rfl rfl),_,rfl,rfl⟩)
  (fun ρ M _=>rfl)
 exact ⟨c8,hf⟩
theorem A3 (hi:i < 100) (hm:Cm m):∃b2 b3 b4 b5 b6 b7 b8 M',aF (Cn pg (n+1+1+1+1+1+1+1)) pF (lo9 ns i a2 a3 a4 a5 a6 a7 a8) m=.ok (.nx (lo9 ns i b2 b3 b4 b5 b6 b7 b8)) M'/\Cm M':=by
 obtain ⟨A,B,e1⟩:=D5 (n:=n+1+1+1+1+1+1) (m:=m) (ns:=ns) hi
 have p1:Pot (m++[pot A B]) m.length:=⟨A,B,by simp⟩
 have c1:Cm (m++[pot A B]):=hm.push rfl
 obtain ⟨ks,rl,lm,nodes,ps,ts,ks',rl',lm',nodes',ps',ts',m2,e2,s2,o1,o2⟩:=both (n:=n+1+1+1) (ρ:=lo9 ns i (some (.ref m.length)) a3 a4 a5 a6 a7 a8) p1 c1 rfl
 have c2:=s2.cm c1
 have e3:=handed (n:=n+1+1+1+1+1+1) (m:=m2) (ρ:=lo9 ns i (some (.ref m.length)) (some (.fz [thW ks rl lm nodes ps ts,thW ks' rl' lm' nodes' ps' ts'])) a4 a5 a6 a7 a8) rfl rfl
 have c3:Cm (m2++hdM m2.length ks rl lm nodes ps ts ks' rl' lm' nodes' ps' ts'):=C3 c2
 obtain ⟨h,h5,g,g5,hq⟩:=C2 (m:=m2) m2.length rfl (M:=m2++hdM m2.length ks rl lm nodes ps ts ks' rl' lm' nodes' ps' ts') rfl
 have t1:toD 60 (m2++hdM m2.length ks rl lm nodes ps ts ks' rl' lm' nodes' ps' ts') (.ref (m2.length+12))=some (.list [iX ks rl lm nodes ps ts,iX ks' rl' lm' nodes' ps' ts']):=by
  have x1:=kh (k:=55) (m:=m2++hdM m2.length ks rl lm nodes ps ts ks' rl' lm' nodes' ps' ts') (l:=m2) o1 rfl rfl
  have x2:=kh (k:=55) (m:=m2++hdM m2.length ks rl lm nodes ps ts ks' rl' lm' nodes' ps' ts') (l:=m2++cg m2.length ks rl lm nodes ps ts) (b:=m2.length+6) (r:=[.lst [.ref (m2.length+5),.ref (m2.length+6+5)]]) o2 (by simp) (by rw [List.append_assoc])
  rw [pC hq]
  simp only [bT,x1,x2]
  rfl
 have t2:toD 60 (m2++hdM m2.length ks rl lm nodes ps ts ks' rl' lm' nodes' ps' ts') (.fz [thW ks rl lm nodes ps ts,thW ks' rl' lm' nodes' ps' ts'])=some (.list [iX ks rl lm nodes ps ts,iX ks' rl' lm' nodes' ps' ts']):=by
  rw [nT]
  simp only [bT,nX (k:=55) o1,nX (k:=55) o2]
  rfl
 have hsh:Shw 1017614 4 (.list [iX ks rl lm nodes ps ts,iX ks' rl' lm' nodes' ps' ts']):=Shw.list (c:=508806) (d:=3) (n:=2) (λ x hx=>by
  simp only [List.mem_cons,List.not_mem_nil,or_false] at hx
  rcases hx with rfl | rfl
  ·exact Shw.net o1
  ·exact Shw.net o2) (by simp)
 generalize m2++hdM m2.length ks rl lm nodes ps ts ks' rl' lm' nodes' ps' ts'=M3 at e3 c3 h h5 g g5 hq t1 t2
 have e4:=Eb (n:=n) (ρ:=lo9 ns i (some (.ref m.length)) (some (.fz [thW ks rl lm nodes ps ts,thW ks' rl' lm' nodes' ps' ts'])) a4 (some (.ref (m2.length+12))) a6 a7 a8) c3 h h5 g g5 hq o1 o2 rfl rfl
 have hT:=pN (C:=Cn pg (n+1+1+1+1+1+1+1)) (ρ:=lo9 ns i (some (.ref m.length)) (some (.fz [thW ks rl lm nodes ps ts,thW ks' rl' lm' nodes' ps' ts'])) a4 (some (.ref (m2.length+12))) (some (.fz [bz ks rl lm nodes ps ts,bz ks' rl' lm' nodes' ps' ts'])) a7 a8) (i:=5) (j:=3) rfl rfl t1 t2 hsh (by decide) (by decide)
 obtain ⟨c4,c7,M4,e5,c5⟩:=clears (n:=n+1+1+1+1+1+1+1) (ns:=ns) (i:=i) (a2:=some (.ref m.length)) (a3:=some (.fz [thW ks rl lm nodes ps ts,thW ks' rl' lm' nodes' ps' ts'])) (a4:=a4) (a6:=some (.fz [bz ks rl lm nodes ps ts,bz ks' rl' lm' nodes' ps' ts'])) (a7:=a7) (a8:=a8) c3 h.lst h5 g.lst g5 hq
 obtain ⟨c8,e6⟩:=turns (n:=n+1+1+1+1) (ns:=ns) (i:=i) (a2:=some (.ref m.length)) (a4:=c4) (a5:=some (.ref (m2.length+12))) (a7:=c7) (a8:=a8) c5 o1 o2
 refine ⟨some (.ref m.length),some (.fz [thW ks rl lm nodes ps ts,thW ks' rl' lm' nodes' ps' ts']),c4,some (.ref (m2.length+12)),some (.fz [bz ks rl lm nodes ps ts,bz ks' rl' lm' nodes' ps' ts']),c7,c8,M4,?_,c5⟩
 rw [pF,af (ρ1:=lo9 ns i (some (.ref m.length)) a3 a4 a5 a6 a7 a8) (m1:=m++[pot A B]) (aK (w:=.ref m.length) (by simp only [EVs,gq0,gq1,gq2,gq3,e1]) rfl)]
 refine (af (aK e2 rfl)).trans ?_
 refine (af (aK e3 rfl)).trans ?_
 refine (af (aK e4 rfl)).trans ?_
 refine (af (show evS _ (.ife _ _ .nil) _ _=_ from (cZ hT).trans ao)).trans ?_
 refine (af e5).trans ?_
 exact (af e6).trans ao
end
theorem xD {n:Nat} {ns:List Int} (hn:ns.length<=63):∃m',D.runN pg (n+1+1+1+1+1+1+1+1) 32 [.fz (ns.map .int)] []=.ok (.bl true) m':=by
 obtain ⟨q,hq,hq4⟩:∃q:Nat,(if (if (8:Int) < ns.length then (8:Int) else ns.length)>1 then (if (8:Int) < ns.length then (8:Int) else ns.length) else 1)=q/\q<=8:=by
  refine ⟨(if (if (8:Int) < ns.length then (8:Int) else ns.length)>1 then (if (8:Int) < ns.length then (8:Int) else ns.length) else 1).toNat,?_,?_⟩
  ·split<;>split at *<;>omega
  ·split<;>split at *<;>omega
 have hln:∀M,bf .len [.fz (ns.map .int)] M=.ok (.int ns.length) M:=λ M=>by
  have:=iz (m:=M) (w:=.fz (ns.map .int)) (xs:=ns.map .int) rfl
  rw [List.length_map] at this
  exact this
 have hI:evI (Cn pg (n+1+1+1+1+1+1+1)) (.rng (.blt .max (.cons (.cst (.int 1)) (.cons (.blt .min (.cons (.blt .len (.cons (.var 0) .nil)) (.cons (.cst (.int 8)) .nil))) .nil)))) [some (.fz (ns.map .int)),none,none,none,none,none,none,none,none] []=.ok (.rng 0 q) []:=ug (by simp only [EVs,gq0,gq1,gq2,gq3,hln]; simp only [bf,aj,hq]) (by omega)
 obtain ⟨ρ',m',hf,a1,a2,a3,a4,a5,a6,a7,a8,rfl,hc⟩:=bP (C:=Cn pg (n+1+1+1+1+1+1+1)) (t:=.var 1) (b:=pF) hI (n:=q) rfl
  (λ i ρ M=>∃a1 a2 a3 a4 a5 a6 a7 a8,ρ=[some (.fz (ns.map .int)),a1,a2,a3,a4,a5,a6,a7,a8]/\Cm M) ⟨none,none,none,none,none,none,none,none,rfl,Cm.nil⟩ (λ i ρ M hi=>by
   rintro ⟨a1,a2,a3,a4,a5,a6,a7,a8,rfl,hc⟩
   obtain ⟨b2,b3,b4,b5,b6,b7,b8,M',e,hc'⟩:=A3 (n:=n) (m:=M) (ns:=ns) (i:=i) (by omega) hc (a2:=a2) (a3:=a3) (a4:=a4) (a5:=a5) (a6:=a6) (a7:=a7) (a8:=a8)
   exact ⟨.int (0+i),lo9 ns i a2 a3 a4 a5 a6 a7 a8,_,_,eW hi,by simp [aD],.inl e,_,_,_,_,_,_,_,_,rfl,hc'⟩)
  (fun ρ M _=>dR (by omega))
 refine ⟨m',bx (d:=⟨1,9,b32⟩) rfl rfl ?_⟩
 show aF _ b32 [some (.fz (ns.map .int)),none,none,none,none,none,none,none,none] []=_
 rw [b32,af hf,aW (bg (w:=.bl true) (m1:=m') (by simp only [EVs]))]
theorem qW:∀ns:List Int,ns.length<=63->∃m',D.runN pg 40 32 [.fz (ns.map .int)] []=.ok (.bl true) m':=λ ns hn=>xD (n:=32) hn
end My
end
section
open PySem PySem.W PyProof.Rows My
theorem PySem.Challenge.cw_relayholds_k11_whole_nets_told_holds : PySem.Challenge.rw_relayholds_k11_whole_nets_told.Holds := by
 refine PySem.W.holds_law My.hsd λ said=>?_
 refine PySem.W.holds_open (q:=My.qv) (loose:=["MANY_ENDS"]) (Xt:=λ s=>PySem.W.xlAt My.qv [] s&&PySem.W.recOk (PySem.W.RowW.records (PySem.W.OpenRow.toRowW (PySem.W.OpenLaw.row PySem.Challenge.rw_relayholds_k11_whole_nets_told))) s) (XP:=PySem.W.XL My.qv []) (Yf:=(PySem.W.kHook kk ka (λ _=>by kernel_rfl)).obs) (Ya:=(PySem.W.kHook kk ka (λ _=>by kernel_rfl)).val) (YP:=(PySem.W.kHook kk ka (λ _=>by kernel_rfl)).says) (N:=3804) My.hdl (PySem.W.kHook kk ka (λ _=>by kernel_rfl)).of (PySem.W.kHook kk ka (λ _=>by kernel_rfl)).keeps (λ s e=>PySem.W.xl_of s (Bool.and_eq_true_iff.mp e).1) PySem.W.XL.keeps (by rfl) (by rfl) (by rfl) (λ s e=>PySem.W.recFacts_of (Bool.and_eq_true_iff.mp e).2) (by rfl) (by first | assumption | decide +kernel) (by decide +kernel) ⟨rfl,rfl,rfl,rfl,rfl,by decide +kernel⟩ ?hw ?hc
 (case hw=>w_witness2)
 k_fill
 refine D.ue (l:=PySem.Challenge.rw_relayholds_k11_whole_nets_told) (p:=My.pg) (i:=32) (x:="_law_script") rfl rfl (λ w h Y=>PySem.W.kIn_of Y) ?F My.qW
 case F=>
  intro w mg fa h KX G hmg
  exact D.CL (t:=My.tf 41) KX G hmg My.stat rfl rfl (by kernel_rfl) (by kernel_rfl) (by kernel_rfl) (by kernel_rfl)
end
end
