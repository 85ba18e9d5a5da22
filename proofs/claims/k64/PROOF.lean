import PyProof.Rows.All
import Wide.All
import OpenK.AllK
import Wide.FinOn
import Lean
import PyProof.EqAt
import PyProof.EqKinds
import PyProof.TupleCall
import PySem.Challenge.RW_relayholds_k64_steps_of_races
set_option genSizeOfSpec false
set_option genSizeOf false
set_option Elab.async false
set_option linter.all false
set_option maxRecDepth 1000000
set_option maxHeartbeats 4000000
noncomputable section
namespace My
open PySem
def top (i:Nat):Stmt:=PySem.Challenge.pw_relayholds_k64_steps_of_races.main.body.getD i (.Pass ⟨0,0,0,0⟩)
abbrev VS (x:Str) (t:Tok):Value:=.str x t
abbrev VI (x:Int) (t:Tok):Value:=.int x t
abbrev VR (x:Addr):Value:=.ref x
abbrev VN:Value:=.none
abbrev VT (x:String):Value:=.type x
abbrev VB (x:String):Value:=.builtin x
abbrev KE (P:Params) (x:Str) (t:Tok) (v:Value):DictEntry:=⟨PyData.keyHash P x,.str x t,v⟩
abbrev hI (i j:Nat):Stmt:=match top i with
 | .ClassDef _ _ _ b _ _ _ _ _ _ _=>b.getD j (top i)
 | s=>s
abbrev hFD (st:Stmt) (q:Str) (g:Addr) (clo:List (Str×Addr)) (de kw doc md:Value) (an:Option Addr) (code ct:Value) (bl:Addr):Data:=match st with
 | .FunctionDef nm ar body _ _ _ sc _ _ _=>.func ⟨nm,q,ar,.stmts body,sc,g,clo,de,kw,doc,md,an,code,ct,bl⟩
 | _=>.plain
abbrev pV0:Value:=VS "law_relayholds_k64_steps_of_races" 490
abbrev pV1:Value:=VS "relayholds.tables" 311
abbrev pV2:Value:=VS "relayholds.races" 445
def kk:Params->PySem.W.Frag:=λ P=>[(2,⟨VN,none,(.dict #[] 0),#[]⟩),
 (3,⟨(VT "dict"),none,(.dict #[KE P "__name__" 165 pV0,KE P "__doc__" 166 VN,KE P "__package__" 167 VN,KE P "__loader__" 168 (VB "__main__.__loader__#opaque"),KE P "__spec__" 169 VN,KE P "__annotations__" 170 (VR 6),KE P "__builtins__" 171 (VR 4),KE P "__file__" 173 (VS "/claim/cut.py" 172),KE P "__cached__" 174 VN,KE P "_wall" 193 (VR 21),KE P "RelayError" 213 (VR 31),KE P "NoTable" 238 (VR 51),KE P "NoNames" 254 (VR 63),KE P "picks" 262 (VR 70),KE P "MOST_PLACES" 266 (VI 4 265),KE P "span" 272 (VR 75),KE P "check_names" 280 (VR 82),KE P "are_names" 286 (VR 87),KE P "MOST_SIGNS" 290 (VI 8 289),KE P "MOST_KEYS" 292 (VI 2 291),KE P "MOST_LAMPS" 294 (VI 2 293),KE P "first_wrong_word" 304 (VR 94),KE P "is_word" 310 (VR 99),KE P "LEAST_STATES" 314 (VI 2 313),KE P "MOST_STATES" 316 (VI 4 315),KE P "Table" 392 (VR 156),KE P "count_letters" 399 (VR 167),KE P "goings_on" 405 (VR 172),KE P "unlike_goings" 411 (VR 177),KE P "check_table" 423 (VR 184),KE P "check_many" 432 (VR 191),KE P "check_each" 438 (VR 196),KE P "check_settled" 444 (VR 201),KE P "races" 459 (VR 208),KE P "least_between" 465 (VR 213),KE P "steps" 478 (VR 220),KE P "steps_between" 489 (VR 227),KE P "_law_cell_at" 499 (VR 234),KE P "_law_pot" 508 (VR 241),KE P "_law_digit" 517 (VR 248),KE P "_law_word" 523 (VR 253),KE P "_law_goal" 529 (VR 258),KE P "_law_rows" 535 (VR 263),KE P "_law_table" 541 (VR 268),KE P "_law_all" 547 (VR 273),KE P "_law_tags" 553 (VR 278),KE P "_law_is_between" 563 (VR 285),KE P "_law_unlike" 569 (VR 290),KE P "_law_is_tag" 575 (VR 295),KE P "_law_is_road" 581 (VR 300),KE P "_law_right" 598 (VR 307),KE P "law" 613 (VR 314)] 52),#[]⟩),
 (69,⟨(VT "code"),none,(.fields #[(VS "picks" 257),(VS "picks" 258),(VS "/claim/cut.py" 259),(VI 14 0),(VI 1 0),(VI 0 0),(VI 0 0),(VI 3 0),(VR 66),(.bool true),(VI 181 0),(VR 67),VN,VN,VN,(VR 68),(VI 260 0),(VI 14 0),(VS "/claim/cut.py" 261)]),#[]⟩),
 (70,⟨(VT "function"),none,(hFD (top 6) "picks" 3 [] VN VN VN (VS "relayholds.picks" 255) none (VR 69) VN 0),#[]⟩),
 (74,⟨(VT "code"),none,(.fields #[(VS "span" 267),(VS "span" 268),(VS "/claim/cut.py" 269),(VI 21 0),(VI 2 0),(VI 0 0),(VI 0 0),(VI 3 0),(VR 71),(.bool true),(VI 181 0),(VR 72),VN,VN,VN,(VR 73),(VI 270 0),(VI 21 0),(VS "/claim/cut.py" 271)]),#[]⟩),
 (75,⟨(VT "function"),none,(hFD (top 9) "span" 3 [] VN VN VN (VS "relayholds.names" 263) none (VR 74) VN 0),#[]⟩),
 (81,⟨(VT "code"),none,(.fields #[(VS "check_names" 273),(VS "check_names" 274),(VS "/claim/cut.py" 275),(VI 23 0),(VI 2 0),(VI 0 0),(VI 0 0),(VI 3 0),(VR 76),(.bool true),(VI 181 0),(VR 77),VN,(VR 78),(VR 79),(VR 80),(VI 278 0),(VI 23 0),(VS "/claim/cut.py" 279)]),#[]⟩),
 (82,⟨(VT "function"),none,(hFD (top 10) "check_names" 3 [] VN VN VN (VS "relayholds.names" 263) none (VR 81) VN 0),#[]⟩),
 (86,⟨(VT "code"),none,(.fields #[(VS "are_names" 281),(VS "are_names" 282),(VS "/claim/cut.py" 283),(VI 26 0),(VI 1 0),(VI 0 0),(VI 0 0),(VI 3 0),(VR 83),(.bool true),(VI 181 0),(VR 84),VN,VN,VN,(VR 85),(VI 284 0),(VI 26 0),(VS "/claim/cut.py" 285)]),#[]⟩),
 (87,⟨(VT "function"),none,(hFD (top 11) "are_names" 3 [] VN VN VN (VS "relayholds.names" 263) none (VR 86) VN 0),#[]⟩),
 (93,⟨(VT "code"),none,(.fields #[(VS "first_wrong_word" 295),(VS "first_wrong_word" 296),(VS "/claim/cut.py" 297),(VI 35 0),(VI 1 0),(VI 0 0),(VI 0 0),(VI 3 0),(VR 88),(.bool true),(VI 181 0),(VR 89),VN,(VR 90),(VR 91),(VR 92),(VI 302 0),(VI 35 0),(VS "/claim/cut.py" 303)]),#[]⟩),
 (94,⟨(VT "function"),none,(hFD (top 16) "first_wrong_word" 3 [] VN VN VN (VS "relayholds.nets" 287) none (VR 93) VN 0),#[]⟩),
 (98,⟨(VT "code"),none,(.fields #[(VS "is_word" 305),(VS "is_word" 306),(VS "/claim/cut.py" 307),(VI 42 0),(VI 1 0),(VI 0 0),(VI 0 0),(VI 3 0),(VR 95),(.bool true),(VI 181 0),(VR 96),VN,VN,VN,(VR 97),(VI 308 0),(VI 42 0),(VS "/claim/cut.py" 309)]),#[]⟩),
 (99,⟨(VT "function"),none,(hFD (top 17) "is_word" 3 [] VN VN VN (VS "relayholds.nets" 287) none (VR 98) VN 0),#[]⟩),
 (110,⟨(VT "code"),none,(.fields #[(VS "__init__" 329),(VS "Table.__init__" 330),(VS "/claim/cut.py" 331),(VI 49 0),(VI 6 0),(VI 0 0),(VI 0 0),(VI 3 0),(VR 107),(.bool true),(VI 181 0),(VR 108),VN,VN,VN,(VR 109),(VI 332 0),(VI 49 0),(VS "/claim/cut.py" 333)]),#[]⟩),
 (111,⟨(VT "function"),none,(hFD (hI 21 0) "Table.__init__" 3 [] VN VN VN pV1 none (VR 110) VN 0),#[]⟩),
 (124,⟨(VT "code"),none,(.fields #[(VS "states" 342),(VS "Table.states" 343),(VS "/claim/cut.py" 344),(VI 60 0),(VI 1 0),(VI 0 0),(VI 0 0),(VI 3 0),(VR 119),(.bool true),(VI 181 0),(VR 120),VN,(VR 121),(VR 122),(VR 123),(VI 346 0),(VI 60 0),(VS "/claim/cut.py" 347)]),#[]⟩),
 (125,⟨(VT "function"),none,(hFD (hI 21 2) "Table.states" 3 [] VN VN VN pV1 none (VR 124) VN 0),#[]⟩),
 (131,⟨(VT "code"),none,(.fields #[(VS "lamps" 349),(VS "Table.lamps" 350),(VS "/claim/cut.py" 351),(VI 63 0),(VI 1 0),(VI 0 0),(VI 0 0),(VI 3 0),(VR 126),(.bool true),(VI 181 0),(VR 127),VN,(VR 128),(VR 129),(VR 130),(VI 353 0),(VI 63 0),(VS "/claim/cut.py" 354)]),#[]⟩),
 (132,⟨(VT "function"),none,(hFD (hI 21 3) "Table.lamps" 3 [] VN VN VN pV1 none (VR 131) VN 0),#[]⟩),
 (138,⟨(VT "code"),none,(.fields #[(VS "letters" 356),(VS "Table.letters" 357),(VS "/claim/cut.py" 358),(VI 66 0),(VI 1 0),(VI 0 0),(VI 0 0),(VI 3 0),(VR 133),(.bool true),(VI 181 0),(VR 134),VN,(VR 135),(VR 136),(VR 137),(VI 360 0),(VI 66 0),(VS "/claim/cut.py" 361)]),#[]⟩),
 (139,⟨(VT "function"),none,(hFD (hI 21 4) "Table.letters" 3 [] VN VN VN pV1 none (VR 138) VN 0),#[]⟩),
 (145,⟨(VT "code"),none,(.fields #[(VS "goes" 363),(VS "Table.goes" 364),(VS "/claim/cut.py" 365),(VI 69 0),(VI 3 0),(VI 0 0),(VI 0 0),(VI 3 0),(VR 140),(.bool true),(VI 181 0),(VR 141),VN,(VR 142),(VR 143),(VR 144),(VI 369 0),(VI 69 0),(VS "/claim/cut.py" 370)]),#[]⟩),
 (146,⟨(VT "function"),none,(hFD (hI 21 5) "Table.goes" 3 [] VN VN VN pV1 none (VR 145) VN 0),#[]⟩),
 (152,⟨(VT "code"),none,(.fields #[(VS "lights" 372),(VS "Table.lights" 373),(VS "/claim/cut.py" 374),(VI 72 0),(VI 2 0),(VI 0 0),(VI 0 0),(VI 3 0),(VR 147),(.bool true),(VI 181 0),(VR 148),VN,(VR 149),(VR 150),(VR 151),(VI 377 0),(VI 72 0),(VS "/claim/cut.py" 378)]),#[]⟩),
 (153,⟨(VT "function"),none,(hFD (hI 21 6) "Table.lights" 3 [] VN VN VN pV1 none (VR 152) VN 0),#[]⟩),
 (155,⟨(VT "dict"),none,(.dict #[KE P "__module__" 324 pV1,KE P "__firstlineno__" 328 (VI 47 327),KE P "__init__" 334 (VR 111),KE P "key_words" 341 (VR 118),KE P "states" 348 (VR 125),KE P "lamps" 355 (VR 132),KE P "letters" 362 (VR 139),KE P "goes" 371 (VR 146),KE P "lights" 379 (VR 153),KE P "__static_attributes__" 385 (VR 154),KE P "__dict__" 387 (VR 157),KE P "__weakref__" 389 (VR 158),KE P "__doc__" 390 VN] 4),#[]⟩),
 (156,⟨(VT "type"),none,(.cls {name:="Table",bases:=[.type "object"],mro:=[.ref 156,.type "object"],ns:=155,qualname:="Table"}),#[none,none,(some (VS "Table" 317)),(some (VS "Table" 325)),(some (VB "object.__new__")),(some (.bool true))]⟩),
 (166,⟨(VT "code"),none,(.fields #[(VS "count_letters" 393),(VS "count_letters" 394),(VS "/claim/cut.py" 395),(VI 74 0),(VI 1 0),(VI 0 0),(VI 0 0),(VI 3 0),(VR 161),(.bool true),(VI 181 0),(VR 162),VN,(VR 163),(VR 164),(VR 165),(VI 397 0),(VI 74 0),(VS "/claim/cut.py" 398)]),#[]⟩),
 (167,⟨(VT "function"),none,(hFD (top 22) "count_letters" 3 [] VN VN VN pV1 none (VR 166) VN 0),#[]⟩),
 (171,⟨(VT "code"),none,(.fields #[(VS "goings_on" 400),(VS "goings_on" 401),(VS "/claim/cut.py" 402),(VI 76 0),(VI 2 0),(VI 0 0),(VI 0 0),(VI 3 0),(VR 168),(.bool true),(VI 181 0),(VR 169),VN,VN,VN,(VR 170),(VI 403 0),(VI 76 0),(VS "/claim/cut.py" 404)]),#[]⟩),
 (172,⟨(VT "function"),none,(hFD (top 23) "goings_on" 3 [] VN VN VN pV1 none (VR 171) VN 0),#[]⟩),
 (176,⟨(VT "code"),none,(.fields #[(VS "unlike_goings" 406),(VS "unlike_goings" 407),(VS "/claim/cut.py" 408),(VI 78 0),(VI 2 0),(VI 0 0),(VI 0 0),(VI 3 0),(VR 173),(.bool true),(VI 181 0),(VR 174),VN,VN,VN,(VR 175),(VI 409 0),(VI 78 0),(VS "/claim/cut.py" 410)]),#[]⟩),
 (177,⟨(VT "function"),none,(hFD (top 24) "unlike_goings" 3 [] VN VN VN pV1 none (VR 176) VN 0),#[]⟩),
 (183,⟨(VT "code"),none,(.fields #[(VS "check_table" 412),(VS "check_table" 413),(VS "/claim/cut.py" 414),(VI 81 0),(VI 5 0),(VI 0 0),(VI 0 0),(VI 3 0),(VR 178),(.bool true),(VI 181 0),(VR 179),VN,(VR 180),(VR 181),(VR 182),(VI 421 0),(VI 81 0),(VS "/claim/cut.py" 422)]),#[]⟩),
 (184,⟨(VT "function"),none,(hFD (top 25) "check_table" 3 [] VN VN VN pV1 none (VR 183) VN 0),#[]⟩),
 (190,⟨(VT "code"),none,(.fields #[(VS "check_many" 424),(VS "check_many" 425),(VS "/claim/cut.py" 426),(VI 89 0),(VI 3 0),(VI 0 0),(VI 0 0),(VI 3 0),(VR 185),(.bool true),(VI 181 0),(VR 186),VN,(VR 187),(VR 188),(VR 189),(VI 430 0),(VI 89 0),(VS "/claim/cut.py" 431)]),#[]⟩),
 (191,⟨(VT "function"),none,(hFD (top 26) "check_many" 3 [] VN VN VN pV1 none (VR 190) VN 0),#[]⟩),
 (195,⟨(VT "code"),none,(.fields #[(VS "check_each" 433),(VS "check_each" 434),(VS "/claim/cut.py" 435),(VI 96 0),(VI 5 0),(VI 0 0),(VI 0 0),(VI 3 0),(VR 192),(.bool true),(VI 181 0),(VR 193),VN,VN,VN,(VR 194),(VI 436 0),(VI 96 0),(VS "/claim/cut.py" 437)]),#[]⟩),
 (196,⟨(VT "function"),none,(hFD (top 27) "check_each" 3 [] VN VN VN pV1 none (VR 195) VN 0),#[]⟩),
 (200,⟨(VT "code"),none,(.fields #[(VS "check_settled" 439),(VS "check_settled" 440),(VS "/claim/cut.py" 441),(VI 102 0),(VI 1 0),(VI 0 0),(VI 0 0),(VI 3 0),(VR 197),(.bool true),(VI 181 0),(VR 198),VN,VN,VN,(VR 199),(VI 442 0),(VI 102 0),(VS "/claim/cut.py" 443)]),#[]⟩),
 (201,⟨(VT "function"),none,(hFD (top 28) "check_settled" 3 [] VN VN VN pV1 none (VR 200) VN 0),#[]⟩),
 (207,⟨(VT "code"),none,(.fields #[(VS "races" 447),(VS "races" 448),(VS "/claim/cut.py" 449),(VI 107 0),(VI 2 0),(VI 0 0),(VI 0 0),(VI 3 0),(VR 202),(.bool true),(VI 181 0),(VR 203),VN,(VR 204),(VR 205),(VR 206),(VI 457 0),(VI 107 0),(VS "/claim/cut.py" 458)]),#[]⟩),
 (208,⟨(VT "function"),none,(hFD (top 30) "races" 3 [] VN VN VN pV2 none (VR 207) VN 0),#[]⟩),
 (212,⟨(VT "code"),none,(.fields #[(VS "least_between" 460),(VS "least_between" 461),(VS "/claim/cut.py" 462),(VI 116 0),(VI 3 0),(VI 0 0),(VI 0 0),(VI 3 0),(VR 209),(.bool true),(VI 181 0),(VR 210),VN,VN,VN,(VR 211),(VI 463 0),(VI 116 0),(VS "/claim/cut.py" 464)]),#[]⟩),
 (213,⟨(VT "function"),none,(hFD (top 31) "least_between" 3 [] VN VN VN pV2 none (VR 212) VN 0),#[]⟩),
 (219,⟨(VT "code"),none,(.fields #[(VS "steps" 466),(VS "steps" 467),(VS "/claim/cut.py" 468),(VI 121 0),(VI 3 0),(VI 0 0),(VI 0 0),(VI 3 0),(VR 214),(.bool true),(VI 181 0),(VR 215),VN,(VR 216),(VR 217),(VR 218),(VI 476 0),(VI 121 0),(VS "/claim/cut.py" 477)]),#[]⟩),
 (220,⟨(VT "function"),none,(hFD (top 32) "steps" 3 [] VN VN VN pV2 none (VR 219) VN 0),#[]⟩),
 (226,⟨(VT "code"),none,(.fields #[(VS "steps_between" 479),(VS "steps_between" 480),(VS "/claim/cut.py" 481),(VI 125 0),(VI 2 0),(VI 0 0),(VI 0 0),(VI 3 0),(VR 221),(.bool true),(VI 181 0),(VR 222),VN,(VR 223),(VR 224),(VR 225),(VI 487 0),(VI 125 0),(VS "/claim/cut.py" 488)]),#[]⟩),
 (227,⟨(VT "function"),none,(hFD (top 33) "steps_between" 3 [] VN VN VN pV2 none (VR 226) VN 0),#[]⟩),
 (233,⟨(VT "code"),none,(.fields #[(VS "_law_cell_at" 492),(VS "_law_cell_at" 493),(VS "/claim/cut.py" 494),(VI 132 0),(VI 2 0),(VI 0 0),(VI 0 0),(VI 3 0),(VR 228),(.bool true),(VI 181 0),(VR 229),VN,(VR 230),(VR 231),(VR 232),(VI 497 0),(VI 132 0),(VS "/claim/cut.py" 498)]),#[]⟩),
 (234,⟨(VT "function"),none,(hFD (top 35) "_law_cell_at" 3 [] VN VN VN pV0 none (VR 233) VN 0),#[]⟩),
 (240,⟨(VT "code"),none,(.fields #[(VS "_law_pot" 500),(VS "_law_pot" 501),(VS "/claim/cut.py" 502),(VI 136 0),(VI 2 0),(VI 0 0),(VI 0 0),(VI 3 0),(VR 235),(.bool true),(VI 181 0),(VR 236),VN,(VR 237),(VR 238),(VR 239),(VI 506 0),(VI 136 0),(VS "/claim/cut.py" 507)]),#[]⟩),
 (241,⟨(VT "function"),none,(hFD (top 36) "_law_pot" 3 [] VN VN VN pV0 none (VR 240) VN 0),#[]⟩),
 (247,⟨(VT "code"),none,(.fields #[(VS "_law_digit" 509),(VS "_law_digit" 510),(VS "/claim/cut.py" 511),(VI 139 0),(VI 2 0),(VI 0 0),(VI 0 0),(VI 3 0),(VR 242),(.bool true),(VI 181 0),(VR 243),VN,(VR 244),(VR 245),(VR 246),(VI 515 0),(VI 139 0),(VS "/claim/cut.py" 516)]),#[]⟩),
 (248,⟨(VT "function"),none,(hFD (top 37) "_law_digit" 3 [] VN VN VN pV0 none (VR 247) VN 0),#[]⟩),
 (252,⟨(VT "code"),none,(.fields #[(VS "_law_word" 518),(VS "_law_word" 519),(VS "/claim/cut.py" 520),(VI 145 0),(VI 2 0),(VI 0 0),(VI 0 0),(VI 3 0),(VR 249),(.bool true),(VI 181 0),(VR 250),VN,VN,VN,(VR 251),(VI 521 0),(VI 145 0),(VS "/claim/cut.py" 522)]),#[]⟩),
 (253,⟨(VT "function"),none,(hFD (top 38) "_law_word" 3 [] VN VN VN pV0 none (VR 252) VN 0),#[]⟩),
 (257,⟨(VT "code"),none,(.fields #[(VS "_law_goal" 524),(VS "_law_goal" 525),(VS "/claim/cut.py" 526),(VI 154 0),(VI 4 0),(VI 0 0),(VI 0 0),(VI 3 0),(VR 254),(.bool true),(VI 181 0),(VR 255),VN,VN,VN,(VR 256),(VI 527 0),(VI 154 0),(VS "/claim/cut.py" 528)]),#[]⟩),
 (258,⟨(VT "function"),none,(hFD (top 39) "_law_goal" 3 [] VN VN VN pV0 none (VR 257) VN 0),#[]⟩),
 (262,⟨(VT "code"),none,(.fields #[(VS "_law_rows" 530),(VS "_law_rows" 531),(VS "/claim/cut.py" 532),(VI 159 0),(VI 3 0),(VI 0 0),(VI 0 0),(VI 3 0),(VR 259),(.bool true),(VI 181 0),(VR 260),VN,VN,VN,(VR 261),(VI 533 0),(VI 159 0),(VS "/claim/cut.py" 534)]),#[]⟩),
 (263,⟨(VT "function"),none,(hFD (top 40) "_law_rows" 3 [] VN VN VN pV0 none (VR 262) VN 0),#[]⟩),
 (267,⟨(VT "code"),none,(.fields #[(VS "_law_table" 536),(VS "_law_table" 537),(VS "/claim/cut.py" 538),(VI 162 0),(VI 1 0),(VI 0 0),(VI 0 0),(VI 3 0),(VR 264),(.bool true),(VI 181 0),(VR 265),VN,VN,VN,(VR 266),(VI 539 0),(VI 162 0),(VS "/claim/cut.py" 540)]),#[]⟩),
 (268,⟨(VT "function"),none,(hFD (top 41) "_law_table" 3 [] VN VN VN pV0 none (VR 267) VN 0),#[]⟩),
 (272,⟨(VT "code"),none,(.fields #[(VS "_law_all" 542),(VS "_law_all" 543),(VS "/claim/cut.py" 544),(VI 170 0),(VI 1 0),(VI 0 0),(VI 0 0),(VI 3 0),(VR 269),(.bool true),(VI 181 0),(VR 270),VN,VN,VN,(VR 271),(VI 545 0),(VI 170 0),(VS "/claim/cut.py" 546)]),#[]⟩),
 (273,⟨(VT "function"),none,(hFD (top 42) "_law_all" 3 [] VN VN VN pV0 none (VR 272) VN 0),#[]⟩),
 (277,⟨(VT "code"),none,(.fields #[(VS "_law_tags" 548),(VS "_law_tags" 549),(VS "/claim/cut.py" 550),(VI 175 0),(VI 2 0),(VI 0 0),(VI 0 0),(VI 3 0),(VR 274),(.bool true),(VI 181 0),(VR 275),VN,VN,VN,(VR 276),(VI 551 0),(VI 175 0),(VS "/claim/cut.py" 552)]),#[]⟩),
 (278,⟨(VT "function"),none,(hFD (top 43) "_law_tags" 3 [] VN VN VN pV0 none (VR 277) VN 0),#[]⟩),
 (284,⟨(VT "code"),none,(.fields #[(VS "_law_is_between" 554),(VS "_law_is_between" 555),(VS "/claim/cut.py" 556),(VI 179 0),(VI 3 0),(VI 0 0),(VI 0 0),(VI 3 0),(VR 279),(.bool true),(VI 181 0),(VR 280),VN,(VR 281),(VR 282),(VR 283),(VI 561 0),(VI 179 0),(VS "/claim/cut.py" 562)]),#[]⟩),
 (285,⟨(VT "function"),none,(hFD (top 44) "_law_is_between" 3 [] VN VN VN pV0 none (VR 284) VN 0),#[]⟩),
 (289,⟨(VT "code"),none,(.fields #[(VS "_law_unlike" 564),(VS "_law_unlike" 565),(VS "/claim/cut.py" 566),(VI 184 0),(VI 2 0),(VI 0 0),(VI 0 0),(VI 3 0),(VR 286),(.bool true),(VI 181 0),(VR 287),VN,VN,VN,(VR 288),(VI 567 0),(VI 184 0),(VS "/claim/cut.py" 568)]),#[]⟩),
 (290,⟨(VT "function"),none,(hFD (top 45) "_law_unlike" 3 [] VN VN VN pV0 none (VR 289) VN 0),#[]⟩),
 (294,⟨(VT "code"),none,(.fields #[(VS "_law_is_tag" 570),(VS "_law_is_tag" 571),(VS "/claim/cut.py" 572),(VI 186 0),(VI 1 0),(VI 0 0),(VI 0 0),(VI 3 0),(VR 291),(.bool true),(VI 181 0),(VR 292),VN,VN,VN,(VR 293),(VI 573 0),(VI 186 0),(VS "/claim/cut.py" 574)]),#[]⟩),
 (295,⟨(VT "function"),none,(hFD (top 46) "_law_is_tag" 3 [] VN VN VN pV0 none (VR 294) VN 0),#[]⟩),
 (299,⟨(VT "code"),none,(.fields #[(VS "_law_is_road" 576),(VS "_law_is_road" 577),(VS "/claim/cut.py" 578),(VI 188 0),(VI 4 0),(VI 0 0),(VI 0 0),(VI 3 0),(VR 296),(.bool true),(VI 181 0),(VR 297),VN,VN,VN,(VR 298),(VI 579 0),(VI 188 0),(VS "/claim/cut.py" 580)]),#[]⟩),
 (300,⟨(VT "function"),none,(hFD (top 47) "_law_is_road" 3 [] VN VN VN pV0 none (VR 299) VN 0),#[]⟩),
 (306,⟨(VT "code"),none,(.fields #[(VS "_law_right" 582),(VS "_law_right" 583),(VS "/claim/cut.py" 584),(VI 197 0),(VI 4 0),(VI 0 0),(VI 0 0),(VI 3 0),(VR 301),(.bool true),(VI 181 0),(VR 302),VN,(VR 303),(VR 304),(VR 305),(VI 596 0),(VI 197 0),(VS "/claim/cut.py" 597)]),#[]⟩),
 (307,⟨(VT "function"),none,(hFD (top 48) "_law_right" 3 [] VN VN VN pV0 none (VR 306) VN 0),#[]⟩),
 (313,⟨(VT "code"),none,(.fields #[(VS "law" 599),(VS "law" 600),(VS "/claim/cut.py" 601),(VI 213 0),(VI 1 0),(VI 0 0),(VI 0 0),(VI 3 0),(VR 308),(.bool true),(VI 181 0),(VR 309),VN,(VR 310),(VR 311),(VR 312),(VI 611 0),(VI 213 0),(VS "/claim/cut.py" 612)]),#[]⟩),
 (314,⟨(VT "function"),none,(hFD (top 49) "law" 3 [] VN VN VN pV0 none (VR 313) VN 0),#[]⟩)]
def ka:List Addr:=[2,3,69,70,74,75,81,82,86,87,93,94,98,99,110,111,124,125,131,132,138,139,145,146,152,153,155,156,166,167,171,172,176,177,183,184,190,191,195,196,200,201,207,208,212,213,219,220,226,227,233,234,240,241,247,248,252,253,257,258,262,263,267,268,272,273,277,278,284,285,289,290,294,295,299,300,306,307,313,314]
def qv:Program:=PySem.W.view PySem.Challenge.pw_relayholds_k64_steps_of_races [0,2,3,4,6,8,9,10,11,13,14,15,16,17,19,20,21,22,23,24,25,26,27,28,30,31,32,33,35,36,37,38,39,40,41,42,43,44,45,46,47,48,49]
theorem hdl:PySem.W.LeftO (PySem.W.OpenLaw.row PySem.Challenge.rw_relayholds_k64_steps_of_races).prog qv [] (λ s=>PySem.W.xlAt qv [] s&&PySem.W.recOk (PySem.W.RowW.records (PySem.W.OpenRow.toRowW (PySem.W.OpenLaw.row PySem.Challenge.rw_relayholds_k64_steps_of_races))) s) (PySem.W.kHook kk ka (λ _=>by kernel_rfl)).obs (PySem.W.kHook kk ka (λ _=>by kernel_rfl)).val 4382:=λ w=>by kernel_rfl
theorem hsd:PySem.W.OpenLaw.wellSaid PySem.Challenge.rw_relayholds_k64_steps_of_races=true:=by kernel_rfl
end My
section
namespace L2
open PySem PySem.Spec PyProof.Rows
abbrev Key:=Sum Int Str
noncomputable def iH:Key->Value->Bool
 | .inl k,v=>Value.isInt k v
 | .inr x,v=>Value.isStrOf x v
noncomputable def D6 (w:World):Key->Int
 | .inl k=>hashInt k
 | .inr x=>hashStr w x
theorem bx:∀{k:Key} {v:Value},iH k v=true->(∃i t,k=Sum.inl i/\v=Value.int i t)\/(∃x t,k=Sum.inr x/\v=Value.str x t)
 | .inl i,v,h=>by
  obtain ⟨t,e⟩:=Value.isInt_shape (k:=i) (v:=v) h
  exact .inl ⟨i,t,rfl,e⟩
 | .inr x,v,h=>by
  obtain ⟨t,e⟩:=Value.isStrOf_shape (x:=x) (v:=v) h
  exact .inr ⟨x,t,rfl,e⟩
theorem qE (i:Int) (t:Tok):iH (.inl i) (.int i t)=true:=by simp [iH,Value.isInt]
theorem qF (x:Str) (t:Tok):iH (.inr x) (.str x t)=true:=by simp [iH,Value.isStrOf]
theorem zB (a b:Int):decide ((Sum.inl a:Key)=Sum.inl b)=(a==b):=by
 by_cases e:a=b
 ·subst e; simp
 ·have h:¬(Sum.inl a:Key)=Sum.inl b:=λ q=>e (Sum.inl.inj q)
  rw [decide_eq_false h]
  exact (beq_eq_false_iff_ne.mpr e).symm
theorem zC (a b:Str):decide ((Sum.inr a:Key)=Sum.inr b)=decide (a=b):=by
 by_cases e:a=b
 ·subst e; simp
 ·have h:¬(Sum.inr a:Key)=Sum.inr b:=λ q=>e (Sum.inr.inj q)
  rw [decide_eq_false h,decide_eq_false e]
theorem zD (a:Int) (b:Str):decide ((Sum.inl a:Key)=Sum.inr b)=false:=decide_eq_false (λ q=>nomatch q)
theorem zE (a:Str) (b:Int):decide ((Sum.inr a:Key)=Sum.inl b)=false:=decide_eq_false (λ q=>nomatch q)
noncomputable def dm (prog:Program) (w:World):PySem.KeyKind prog w Key where
 is:=iH
 hash:=D6 w
 inj:=λ v a b ha hb=>by
  rcases bx ha with ⟨i,t,rfl,rfl⟩ | ⟨x,t,rfl,rfl⟩
  ·rcases bx hb with ⟨j,u,rfl,e⟩ | ⟨y,u,rfl,e⟩
   ·injection e with e1 _; rw [e1]
   ·exact nomatch e
  ·rcases bx hb with ⟨j,u,rfl,e⟩ | ⟨y,u,rfl,e⟩
   ·exact nomatch e
   ·injection e with e1 _; rw [e1]
 byValue:=λ k v h=>by
  rcases bx h with ⟨i,t,rfl,rfl⟩ | ⟨x,t,rfl,rfl⟩<;>rfl
 pyHash:=λ hv h=>by
  rcases bx hv with ⟨i,t,rfl,rfl⟩ | ⟨x,t,rfl,rfl⟩
  ·exact wpAny_pyHash_int h
  ·exact wpAny_pyHash_str h
 eqBool:=λ hu hv h=>by
  rcases bx hu with ⟨i,t,rfl,rfl⟩ | ⟨x,t,rfl,rfl⟩
  ·rcases bx hv with ⟨j,u,rfl,rfl⟩ | ⟨y,u,rfl,rfl⟩
   ·rw [zB] at h; exact wpAny_eqBool_int h
   ·rw [zD] at h; exact SeqAt.EqAt.int_str i t y u _ _ _ _ h
  ·rcases bx hv with ⟨j,u,rfl,rfl⟩ | ⟨y,u,rfl,rfl⟩
   ·rw [zE] at h; exact SeqAt.EqAt.str_int x t j u _ _ _ _ h
   ·rw [zC] at h; exact wpAny_eqBool_str h
 «strs»:=λ k x t v h=>by
  rcases bx h with ⟨i,u,rfl,e⟩ | ⟨y,u,rfl,e⟩
  ·exact nomatch e
  ·injection e with e1 _
   subst e1
   cases v<;>rfl
end L2
namespace L2
open PySem PySem.Spec PyProof.Rows
inductive V where
 | non | bl (b:Bool) | int (i:Int) | str (x:Str) | byt (b:Array UInt8) | flt (b:UInt64) | ref (a:Addr) | ty (n:String)
 deriving DecidableEq
noncomputable def RelV:V->Value->Prop
 | .non,u=>u=Value.none
 | .bl b,u=>u=Value.bool b
 | .int i,u=>∃t,u=Value.int i t
 | .str x,u=>∃t,u=Value.str x t
 | .byt b,u=>∃t,u=Value.bytes b t
 | .flt b,u=>∃t,u=Value.float b t
 | .ref a,u=>u=Value.ref a
 | .ty n,u=>u=Value.type n
abbrev Vals:List V->List Value->Prop:=Paired RelV
theorem Vals.length {xs:List V} {us:List Value} (r:Vals xs us):xs.length=us.length:=Paired.length r
theorem Vals.get:∀{xs:List V} {us:List Value} {i:Nat} {x:V},Vals xs us->xs[i]?=some x->∃u,us[i]?=some u/\RelV x u
 | _,_,_,_,.nil,e=>by simp at e
 | _,_,0,_,.cons r _,e=>by simp at e; subst e; exact ⟨_,rfl,r⟩
 | _,_,i+1,x,.cons _ t,e=>by
  obtain ⟨u,h1,h2⟩:=Vals.get (i:=i) (x:=x) t (by simpa using e)
  exact ⟨u,by simpa using h1,h2⟩
theorem Vals.set {x:V} {u:Value} (r:RelV x u):∀{xs:List V} {us:List Value} (i:Nat),Vals xs us->Vals (xs.set i x) (us.set i u)
 | _,_,_,.nil=>.nil
 | _,_,0,.cons _ t=>.cons r t
 | _,_,i+1,.cons q t=>.cons q (Vals.set r i t)
theorem Vals.append:∀{xs ys:List V} {us ws:List Value},Vals xs us->Vals ys ws->Vals (xs++ys) (us++ws)
 | _,_,_,_,.nil,s=>s
 | _,_,_,_,.cons r t,s=>.cons r (Vals.append t s)
theorem Vals.take:∀{xs:List V} {us:List Value} (n:Nat),Vals xs us->Vals (xs.take n) (us.take n)
 | _,_,0,_=>.nil
 | _,_,_+1,.nil=>.nil
 | _,_,n+1,.cons r t=>.cons r (Vals.take n t)
theorem Vals.drop:∀{xs:List V} {us:List Value} (n:Nat),Vals xs us->Vals (xs.drop n) (us.drop n)
 | _,_,0,r=>r
 | _,_,_+1,.nil=>.nil
 | _,_,n+1,.cons _ t=>Vals.drop n t
noncomputable def iI:Option V->Option Value->Prop
 | some v,some u=>RelV v u
 | none,none=>True
 | _,_=>False
noncomputable def KV {κ:Type}:List (κ×V)->List (κ×Value)->Prop:=Paired λ (p:κ×V) (q:κ×Value)=>p.1=q.1/\RelV p.2 q.2
noncomputable def kV:Key->V
 | .inl i=>.int i
 | .inr x=>.str x
inductive HO where
 | lst (xs:List V)
 | tup (xs:List V)
 | dK (kvs:List (Key×V)) | dT (kvs:List (List Key×V))
 | set (S:Int->Bool) (n:Nat)
 | ins (C dx:Addr) (fs:List (Str×V))
 | own (x:Addr)
 | xd (fs:List (Str×V))
 | met (f x:Addr)
 | rng (lo hi:Int)
 | frz (o:Obj) (u:HO)
 | tbl (ps:Array Value)
 | ext (φ:Heap->Prop)
abbrev Hp:=Addr->Option HO
noncomputable def upd (H:Hp) (a:Addr) (o:HO):Hp:=λ b=>if b=a then some o else H b
theorem aB {H:Hp} {a:Addr} {o:HO}:upd H a o a=some o:=by unfold upd; rw [if_pos rfl]
theorem aj {H:Hp} {a b:Addr} {o:HO} (h:b≠a):upd H a o b=H b:=by unfold upd; rw [if_neg h]
theorem ak {H:Hp} {a b:Addr} {o:HO} (h:H a=some o) (h':H b=none):a≠b:=by
 intro e; subst e; rw [h] at h'; cases h'
section
variable (P:Program) (w:World)
noncomputable def bA (H:Hp) (h:Heap) (a:Addr):HO->Prop
 | .lst xs=>xs.length<=sizeLine/\∃(its:List Value) (n:Nat),Vals xs its/\h.get? a=some {cls:=.type "list",data:=.seq its.toArray n}
 | .tup xs=>xs.length<=sizeLine/\∃its:List Value,Vals xs its/\IsTup h a its.toArray
 | .dK kvs=>kvs.length<=sizeLine/\(a==sysModules)=false/\∃vs,KV kvs vs/\h.DictOf (dm P w) a vs
 | .dT kvs=>kvs.length<=sizeLine/\(a==sysModules)=false/\∃xs:List (List Key×Addr×Value),
   Paired (λ (p:List Key×V) (q:List Key×Addr×Value)=>p.1=q.1/\H q.2.1=some (.tup (p.1.map kV))/\RelV p.2 q.2.2) kvs xs/\
   ∃o es ep,h.get? a=some o/\o.ExactDict/\o.data=.dict es ep/\es.toList=xs.map (entryOfKey (tupleKind (dm P w)))/\(xs.map (·.1)).Nodup
 | .set S n=>h.SetOf (intKind P w) a S n
 | .ins C dx fs=>H dx=some (.own a)/\fs.length<=1000/\dx≠a/\h.get? a=some (PySem.W.instObj C dx)/\
   ∃mA,h.Ns1 dx mA/\(∀f,iI (fs.lookup f) (mA f))/\PySem.Within mA (fs.map (·.1))
 | .own _=>∃o,h.get? a=some o
 | .xd fs=>∃mA,h.Ns1 a mA/\∀f,iI (fs.lookup f) (mA f)
 | .rng lo hi=>∃t u v,h.get? a=some {cls:=.type "range",data:=.fields #[.int lo t,.int hi u,.int 1 v]}
 | .frz o u=>h.get? a=some o/\bA H h a u
 | .tbl ps=>h.get? a=some {cls:=.none,data:=.fields ps}
 | .met f x=>h.get? a=some (PySem.W.methodObj (.ref f) (.ref x))
 | .ext φ=>φ h/\(∃o,h.get? a=some o)/\∀h1 h2:Heap,φ h1->(∀o,h1.get? a=some o->h2.get? a=some o)->φ h2
noncomputable def HOk (H:Hp) (h:Heap):Prop:=∀a o,H a=some o->bA P w H h a o
end
section
variable {P:Program} {w:World} {H H':Hp} {h h':Heap} {a:Addr} {o:HO}
theorem bA.lt (x:bA P w H h a o):a < h.objs.size:=by
 cases o with
 | lst xs=>obtain ⟨_,_,_,_,e⟩:=x; exact Heap.lt_size e
 | tup xs=>obtain ⟨_,_,_,p⟩:=x; exact p.lt
 | dK kvs=>obtain ⟨_,_,_,_,o,_,_,e,_⟩:=x; exact Heap.lt_size e
 | dT kvs=>obtain ⟨_,_,_,_,o,_,_,e,_⟩:=x; exact Heap.lt_size e
 | set S n=>obtain ⟨o,_,_,_,e,_⟩:=x; exact Heap.lt_size e
 | ins C dx fs=>obtain ⟨_,_,_,e,_⟩:=x; exact Heap.lt_size e
 | own y=>obtain ⟨_,e⟩:=x; exact Heap.lt_size e
 | xd fs=>obtain ⟨_,⟨_,_,_,e,_⟩,_⟩:=x; exact Heap.lt_size e
 | rng lo hi=>obtain ⟨_,_,_,e⟩:=x; exact Heap.lt_size e
 | frz ob u=>obtain ⟨e,_⟩:=x; exact Heap.lt_size e
 | tbl ps=>exact Heap.lt_size (show h.get? a=some _ from x)
 | met f y=>exact Heap.lt_size (show h.get? a=some _ from x)
 | ext φ=>obtain ⟨_,⟨_,e⟩,_⟩:=x; exact Heap.lt_size e
theorem Paired.BX {α β:Type} {F G:α->β->Prop}:∀{l₁:List α} {l₂:List β},Paired F l₁ l₂->(∀a b,F a b->G a b)->Paired G l₁ l₂
 | _,_,.nil,_=>.nil
 | _,_,.cons r t,f=>.cons (f _ _ r) (Paired.BX t f)
theorem bA.stay (x:bA P w H h a o) (k:∀b u,(b=a\/H b=some (.own a))->h.get? b=some u->h'.get? b=some u)
  (ho:∀b,H b=some (.own a)->H' b=some (.own a)) (ht:∀b xs,H b=some (.tup xs)->H' b=some (.tup xs)):bA P w H' h' a o:=by
 induction o with
 | lst xs=>obtain ⟨z,its,n,r,e⟩:=x; exact ⟨z,its,n,r,k _ _ (.inl rfl) e⟩
 | tup xs=>obtain ⟨z,its,r,ob,e,c⟩:=x; exact ⟨z,its,r,ob,k _ _ (.inl rfl) e,c⟩
 | dK kvs=>obtain ⟨z,y,vs,r,ob,es,ep,e,c⟩:=x; exact ⟨z,y,vs,r,ob,es,ep,k _ _ (.inl rfl) e,c⟩
 | dT kvs=>
  obtain ⟨z,y,xs,r,ob,es,ep,e,c⟩:=x
  exact ⟨z,y,xs,Paired.BX r λ p q z=>⟨z.1,ht _ _ z.2.1,z.2.2⟩,ob,es,ep,k _ _ (.inl rfl) e,c⟩
 | set S n=>obtain ⟨ob,es,ep,t,e,c⟩:=x; exact ⟨ob,es,ep,t,k _ _ (.inl rfl) e,c⟩
 | ins C dx fs=>
  obtain ⟨d,z,ne,e,mA,⟨od,es,ep,e2,c⟩,r⟩:=x
  exact ⟨ho _ d,z,ne,k _ _ (.inl rfl) e,mA,⟨od,es,ep,k _ _ (.inr d) e2,c⟩,r⟩
 | own y=>obtain ⟨ob,e⟩:=x; exact ⟨ob,k _ _ (.inl rfl) e⟩
 | xd fs=>obtain ⟨mA,⟨od,es,ep,e,c⟩,r⟩:=x; exact ⟨mA,⟨od,es,ep,k _ _ (.inl rfl) e,c⟩,r⟩
 | rng lo hi=>obtain ⟨t,u,v,e⟩:=x; exact ⟨t,u,v,k _ _ (.inl rfl) e⟩
 | frz ob u ih=>obtain ⟨e,q⟩:=x; exact ⟨k _ _ (.inl rfl) e,ih q⟩
 | tbl ps=>
  have e:h.get? a=some {cls:=.none,data:=.fields ps}:=x
  show h'.get? a=some {cls:=.none,data:=.fields ps}
  exact k a _ (.inl rfl) e
 | met f y=>
  have e:h.get? a=some (PySem.W.methodObj (.ref f) (.ref y)):=x
  show h'.get? a=some (PySem.W.methodObj (.ref f) (.ref y))
  exact k a _ (.inl rfl) e
 | ext φ=>obtain ⟨p,⟨o,e⟩,st⟩:=x; exact ⟨st _ _ p λ o q=>k _ _ (.inl rfl) q,⟨o,k _ _ (.inl rfl) e⟩,st⟩
theorem HOk.lt (x:HOk P w H h) (e:H a=some o):a < h.objs.size:=(x a o e).lt
theorem HOk.fresh (x:HOk P w H h) (e:h.objs.size<=a):H a=none:=by
 cases q:H a with
 | none=>rfl
 | some u=>exact absurd (Nat.lt_of_lt_of_le (x.lt q) e) (Nat.lt_irrefl _)
theorem HOk.kept (x:HOk P w H h) (k:∀b u,h.get? b=some u->h'.get? b=some u):HOk P w H h':=λ a o e=>
 (x a o e).stay (λ b u _ q=>k b u q) (λ _ q=>q) λ _ _ q=>q
theorem HOk.laid (x:HOk P w H h) (k:∀b u,h.get? b=some u->h'.get? b=some u) (hp:h.objs.size<=a) (new:bA P w (upd H a o) h' a o):HOk P w (upd H a o) h':=λ b u e=>by
 have hn:=x.fresh hp
 by_cases hb:b=a
 ·subst hb; rw [aB] at e; cases e; exact new
 ·rw [aj hb] at e
  exact (x b u e).stay (λ c v _ q=>k c v q) (λ c q=>by rw [aj (ak q hn)]; exact q) λ c xs q=>by rw [aj (ak q hn)]; exact q
end
noncomputable def Rd (H:Hp) (a:Addr) (u:HO):Prop:=H a=some u\/∃o,H a=some (.frz o u)
theorem Rd.ok {P:Program} {w:World} {H:Hp} {h:Heap} {a:Addr} {u:HO} (r:Rd H a u) (x:HOk P w H h):bA P w H h a u:=by
 rcases r with r | ⟨o,r⟩
 ·exact x a u r
 ·obtain ⟨_,q⟩:=x a _ r
  exact q
noncomputable def Mut:Option HO->Prop
 | some (.lst _)=>True
 | some (.dK _)=>True
 | some (.dT _)=>True
 | some (.set _ _)=>True
 | some (.ins _ _ _)=>True
 | some (.ext _)=>True
 | _=>False
section
variable {P:Program} {w:World} {H:Hp} {h h':Heap} {x e:Addr} {o':HO}
theorem HOk.write (ok:HOk P w H h) (mu:Mut (H x)) (he:e=x\/H e=some (.own x)) (k:∀b u,b≠e->h.get? b=some u->h'.get? b=some u) (heo:∃u,h'.get? e=some u)
  (new:bA P w (upd H x o') h' x o'):HOk P w (upd H x o') h':=λ b u q=>by
 have BY:∀c y,H c=some (.own y)->c≠x:=λ c y r z=>by subst z; rw [r] at mu; exact mu
 have D7:∀c xs,H c=some (.tup xs)->c≠x:=λ c xs r z=>by subst z; rw [r] at mu; exact mu
 by_cases hb:b=x
 ·subst hb; rw [aB] at q; cases q; exact new
 ·rw [aj hb] at q
  by_cases hbe:b=e
  ·have q':H b=some (.own x):=by
    rcases he with z | z
    ·exact absurd (hbe.trans z) hb
    ·rw [hbe]; exact z
   rw [q] at q'; cases q'
   obtain ⟨v,hv⟩:=heo
   exact ⟨v,by rw [hbe]; exact hv⟩
  ·refine (ok b u q).stay (λ c v hc r=>k c v ?_ r) (λ c r=>by rw [aj (BY c b r)]; exact r) λ c xs r=>by rw [aj (D7 c xs r)]; exact r
   rcases hc with rfl | hc
   ·exact hbe
   ·rintro rfl
    rcases he with z | z
    ·exact BY c b hc z
    ·rw [hc] at z; cases z; exact hb rfl
end
structure Un (fs ex:List Addr) (H H':Hp) (h h':Heap):Prop where
 keep:∀b o,h.get? b=some o->H b=none->b∉fs->b∉ex->h'.get? b=some o
 slot:∀b o,h.get? b=some o->H b=none->b∈fs->b∉ex->∃sl,h'.get? b=some {o with slots:=sl}
 free:∀b o,h.get? b=some o->H b=none->b∉ex->H' b=none
 there:∀b o,h.get? b=some o->b∉ex->∃o',h'.get? b=some o'
 tups:∀b xs,H b=some (.tup xs)->H' b=some (.tup xs)
 ie:∀b o u,H b=some (.frz o u)->H' b=some (.frz o u)
 iJ:∀b ps,H b=some (.tbl ps)->∃more,H' b=some (.tbl (ps++more))
section
variable {fs fs' ex ex':List Addr} {H H1 H2:Hp} {h h1 h2 h':Heap} {a x e:Addr} {o:HO}
theorem Un.any (u:Un fs ex H H1 h h1) {b:Addr} {ob:Obj} (q:h.get? b=some ob) (n:H b=none) (hx:b∉ex):∃sl,h1.get? b=some {ob with slots:=sl}:=by
 by_cases hb:b∈fs
 ·exact u.slot b ob q n hb hx
 ·exact ⟨ob.slots,u.keep b ob q n hb hx⟩
theorem Un.kept (k:∀b u,h.get? b=some u->h'.get? b=some u):Un fs ex H H h h':=
 ⟨λ b ob q _ _ _=>k b ob q,λ b ob q _ _ _=>⟨ob.slots,k b ob q⟩,λ _ _ _ n _=>n,λ b ob q _=>⟨ob,k b ob q⟩,λ _ _ q=>q,λ _ _ _ q=>q,λ _ ps q=>⟨#[],by rw [q]; simp⟩⟩
theorem Un.refl:Un fs ex H H h h:=Un.kept λ _ _ q=>q
theorem Un.laid (k:∀b u,h.get? b=some u->h'.get? b=some u) (hp:h.objs.size<=a) (hn:H a=none):Un fs ex H (upd H a o) h h' where
 keep:=λ b u q _ _ _=>k b u q
 slot:=λ b u q _ _ _=>⟨u.slots,k b u q⟩
 free:=λ b u q n _=>by rw [aj (Nat.ne_of_lt (Nat.lt_of_lt_of_le (Heap.lt_size q) hp))]; exact n
 there:=λ b u q _=>⟨u,k b u q⟩
 tups:=λ b xs q=>by rw [aj (ak q hn)]; exact q
 ie:=λ b u xs q=>by rw [aj (ak q hn)]; exact q
 iJ:=λ b ps q=>⟨#[],by rw [aj (ak q hn),q]; simp⟩
theorem Un.write (mu:Mut (H x)) (he:e=x\/H e=some (.own x)) (k:∀b u,b≠e->h.get? b=some u->h'.get? b=some u) (heo:∃u,h'.get? e=some u):Un fs ex H (upd H x o) h h':=by
 have hx:∀b,H b=none->b≠x:=λ b n z=>by subst z; rw [n] at mu; exact mu
 have hb:∀b,H b=none->b≠e:=λ b n z=>by
  subst z
  rcases he with r | r
  ·exact hx b n r
  ·rw [n] at r; cases r
 have hm:∀b u,H b=some u->¬Mut (some u)->b≠x:=λ b u q nm z=>by subst z; rw [q] at mu; exact nm mu
 refine ⟨λ b u q n _ _=>k b u (hb b n) q,λ b u q n _ _=>⟨u.slots,k b u (hb b n) q⟩,λ b u q n _=>by rw [aj (hx b n)]; exact n,λ b u q _=>?_,
  λ b xs q=>by rw [aj (hm b _ q λ z=>z)]; exact q,λ b u xs q=>by rw [aj (hm b _ q λ z=>z)]; exact q,λ b ps q=>⟨#[],by rw [aj (hm b _ q λ z=>z),q]; simp⟩⟩
 by_cases hbe:b=e
 ·subst hbe; exact heo
 ·exact ⟨u,k b u hbe q⟩
end
noncomputable def trk (h:Heap) (H:Hp):List Addr:=(List.range h.objs.size).filter λ a=>(H a).isSome
noncomputable def ki (h:Heap) (H:Hp):Heap:=PySem.W.hideAll h (trk h H)
theorem qG (h:Heap) (H:Hp):(ki h H).objs.size=h.objs.size:=PySem.W.hideAll_size _ _
theorem sG {h:Heap} {H:Hp} {b:Addr} {o:Obj} (e:h.get? b=some o) (n:H b=none):(ki h H).get? b=some o:=
 PySem.W.hideAll_get _ e λ hm=>by
  have q:(H b).isSome=true:=(List.mem_filter.mp hm).2
  rw [n] at q; simp at q
theorem vX {h:Heap} {H:Hp} {b:Addr} {o:Obj} (e:(ki h H).get? b=some o):h.get? b=some o/\H b=none:=by
 have e':h.get? b=some o:=PySem.W.of_hideAll (trk h H) e
 refine ⟨e',?_⟩
 cases q:H b with
 | none=>rfl
 | some x=>
  have hm:b∈trk h H:=List.mem_filter.mpr ⟨List.mem_range.mpr (Heap.lt_size e'),by simp [q]⟩
  have z:(ki h H).get? b=none:=PySem.W.hideAll_none (trk h H) hm
  rw [z] at e; cases e
noncomputable def kj (g h:Heap) (L:Addr):List (Addr×Obj):=(List.range h.objs.size).filterMap λ a=>if a=L\/(g.get? a).isSome=true then none else (h.get? a).map λ o=>(a,o)
theorem dw {g h:Heap} {L a:Addr} {o:Obj} (h1:a≠L) (h2:g.get? a=none) (h3:h.get? a=some o):(a,o)∈kj g h L:=
 List.mem_filterMap.mpr ⟨a,List.mem_range.mpr (Heap.lt_size h3),by simp [h1,h2,h3]⟩
theorem iK {g h:Heap} {L:Addr} {p:Addr×Obj} (hp:p∈kj g h L):p.1≠L/\g.get? p.1=none/\h.get? p.1=some p.2:=by
 obtain ⟨b,_,e⟩:=List.mem_filterMap.mp hp
 split at e
 ·cases e
 ·rename_i hn
  cases q:h.get? b with
  | none=>rw [q] at e; simp at e
  | some u=>
   rw [q] at e
   simp only [Option.map_some,Option.some.injEq] at e
   subst e
   refine ⟨λ z=>hn (.inl z),?_,q⟩
   show g.get? b=none
   cases r:g.get? b with
   | none=>rfl
   | some v=>exact (hn (.inr (by simp [r]))).elim
theorem sH {g h:Heap} {L:Addr}:News g L h (kj g h L):=λ p hp=>let ⟨a,b,c⟩:=iK hp; ⟨c,a,b⟩
end L2
namespace L2
open PySem PySem.Spec PyProof.Rows
structure Mod (K:PySem.W.Frag) (mg:Str->Option Value) (base:Heap):Prop where
 kin:K.In base
 glob:base.Ns mainGlobals mg
 blt:∃mb,base.Ns builtinsNs mb/\∀x:Str,x≠"__name__"->mb x=bootBuiltins x
 nolimit:base.NoLimit
set_option genInjectivity false in
structure Cx where
 prog:Program
 w:World
 K:PySem.W.Frag
 mg:Str->Option Value
 base:Heap
 A:Around
 N:List Str
 s₀:Shared
 H₀:Hp
 env:Env
 outer:List Env
 stack:List Env
 ex:List Addr
 fn:Str->Bool
 calm:Bool
 pn:List (Addr×Obj)
 xe:Value->Shared->Prop
noncomputable def frs (l:List Env):List Addr:=l.filterMap (·.frame)
abbrev Cx.fs (X:Cx):List Addr:=frs X.outer
noncomputable def Vis (sc:Scope) (x:Str):Prop:=sc.names.lookup x=some .local\/sc.names.lookup x=some .cell\/sc.names.lookup x=some .free
noncomputable def Loc (sc:Scope) (x:Str):Prop:=sc.names.lookup x=some .local\/sc.names.lookup x=some .cell
noncomputable def Look (env:Env) (h:Heap) (m:Str->Option Value) (x:Str) (u:Value):Prop:=
 (env.kindOf x=some .local/\m x=some u)\/((env.kindOf x=some .cell\/env.kindOf x=some .free)/\∃c,env.cells.lookup x=some c/\h.IsCell c (some u))
structure Cx.Ok (X:Cx):Prop where
 mod:Mod X.K X.mg X.base
 kind:X.env.scope.kind=.function
 glob:X.env.globals=mainGlobals
 blt:X.env.builtins=builtinsNs
 above:X.s₀.heap.objs.size<=X.env.locals
 inj:∀x y c,X.env.cells.lookup x=some c->X.env.cells.lookup y=some c->x=y
 has:∀x,(X.env.kindOf x=some .cell\/X.env.kindOf x=some .free)->∃c,X.env.cells.lookup x=some c
 cab:∀x c,X.fn x=true->X.env.cells.lookup x=some c->X.s₀.heap.objs.size<=c
 hd:X.calm=true->X.A.handled=none
 frames:X.A.frames=some X.stack
 stk:X.stack=X.outer\/(X.stack=X.env::X.outer/\X.env.frame=some X.env.locals)
 exf:∀b∈X.ex,b≠X.env.locals/\∀x c,X.env.cells.lookup x=some c->c≠b
 bs:∀b o,X.base.get? b=some o->X.s₀.heap.get? b=some o/\X.H₀ b=none
 bsz:X.base.objs.size<=X.s₀.heap.objs.size
 noex:∀b o,X.base.get? b=some o->b∉X.ex
 exfs:∀b∈X.ex,b∉X.fs
 ig:X.s₀.heap.FunFrames X.base X.outer
 frf:∀b∈X.fs,X.H₀ b=none
structure Inv (X:Cx) (pins:List (Addr×Obj)) (σ:List (Option V)) (H:Hp) (s:Shared):Prop where
 ok:X.Ok
 os:s.os=X.s₀.os
 bare:AllBare s.gens
 base:Un X.fs X.ex X.H₀ H X.s₀.heap s.heap
 loc:∃m,s.heap.Ns X.env.locals m/\∀(i:Nat) (x:Str) (v:V),X.N[i]?=some x->σ[i]?=some (some v)->Vis X.env.scope x->∃u,RelV v u/\Look X.env s.heap m x u
 cell:∀x c,X.env.cells.lookup x=some c->∃v,s.heap.IsCell c v
 free:H X.env.locals=none
 freeC:∀x c,X.env.cells.lookup x=some c->H c=none
 pin:∀p∈X.pn++pins,s.heap.get? p.1=some p.2/\H p.1=none/\p.1≠X.env.locals/\p.1∉X.fs/\∀v,p.2.data≠.cell v
 hok:HOk X.prog X.w H s.heap
 len:σ.length=X.N.length
section
variable {X:Cx} {pins:List (Addr×Obj)} {σ:List (Option V)} {H H':Hp} {s:Shared} {h':Heap}
theorem Cx.Ok.D8 (ok:X.Ok) {b:Addr} {o:Obj} (e:X.base.get? b=some o):b∉X.fs:=λ hb=>by
 have:=(ok.ig.mem hb).1
 rw [e] at this; cases this
theorem Inv.bs (I:Inv X pins σ H s):∀b o,X.base.get? b=some o->s.heap.get? b=some o/\H b=none:=λ b o e=>
 ⟨I.base.keep b o (I.ok.bs b o e).1 (I.ok.bs b o e).2 (I.ok.D8 e) (I.ok.noex b o e),I.base.free b o (I.ok.bs b o e).1 (I.ok.bs b o e).2 (I.ok.noex b o e)⟩
theorem Inv.bk (I:Inv X pins σ H s):∀b o,X.base.get? b=some o->s.heap.get? b=some o:=λ b o e=>(I.bs b o e).1
theorem Inv.mod (I:Inv X pins σ H s):Mod X.K X.mg X.base:=I.ok.mod
theorem Inv.kIn (I:Inv X pins σ H s):X.K.In s.heap:=I.ok.mod.kin.keeps I.bk
theorem Inv.fr (I:Inv X pins σ H s):∃m,Fr X.base X.env.locals s.heap m:=
 let ⟨m,hn,_⟩:=I.loc
 ⟨m,hn,I.bk,Nat.le_trans I.ok.bsz I.ok.above⟩
theorem Inv.lt (I:Inv X pins σ H s):X.env.locals < s.heap.objs.size:=let ⟨_,hn,_⟩:=I.loc; hn.lt
theorem Inv.sz (I:Inv X pins σ H s):X.s₀.heap.objs.size<=s.heap.objs.size:=Nat.le_trans I.ok.above (Nat.le_of_lt I.lt)
theorem Inv.D9 (I:Inv X pins σ H s) {a:Addr} (h:s.heap.objs.size<=a):a∉X.fs:=λ hb=>by
 obtain ⟨_,o,ho,_⟩:=I.ok.ig.mem hb
 exact absurd (Nat.lt_of_lt_of_le (Heap.lt_size ho) (Nat.le_trans I.sz h)) (Nat.lt_irrefl _)
theorem Inv.cne (I:Inv X pins σ H s):∀x c,X.env.cells.lookup x=some c->c≠X.env.locals:=λ x c e z=>by
 obtain ⟨v,o,ho,hd⟩:=I.cell x c e
 obtain ⟨m,⟨o',es,ep,ho',hd',_⟩,_⟩:=I.loc
 rw [z,ho'] at ho; cases ho; rw [hd'] at hd; cases hd
theorem Inv.ig (I:Inv X pins σ H s):s.heap.FunFrames X.base X.outer:=by
 have all:∀(l:List Env),(∀b∈frs l,b∈X.fs)->X.s₀.heap.FunFrames X.base l->s.heap.FunFrames X.base l:=by
  intro l
  induction l with
  | nil=>intro _ _; trivial
  | cons env r ih=>
   intro hs hl
   obtain ⟨hk,⟨L,o,hf,hn,ho,hd⟩,hr⟩:=hl
   have hL:L∈X.fs:=hs L (by unfold frs; rw [List.filterMap_cons,hf]; exact List.mem_cons_self)
   obtain ⟨sl,e⟩:=I.base.slot L o ho (I.ok.frf L hL) hL λ z=>I.ok.exfs L z hL
   exact ⟨hk,⟨L,_,hf,hn,e,hd⟩,ih (λ b hb=>hs b (by unfold frs; rw [List.filterMap_cons,hf]; exact List.mem_cons_of_mem _ hb)) hr⟩
 exact all X.outer (λ _ hb=>hb) I.ok.ig
theorem Inv.stack (I:Inv X pins σ H s):s.heap.FunFrames X.base X.stack:=by
 rcases I.ok.stk with e | ⟨e,hf⟩
 ·rw [e]; exact I.ig
 ·rw [e]
  obtain ⟨m,hn,_⟩:=I.loc
  refine .cons (by rw [I.ok.kind]; decide) hf hn ?_ I.ig
  exact Heap.get?_none_of_le (Nat.le_trans I.ok.bsz I.ok.above)
theorem Inv.ko (I:Inv X pins σ H s):∀b∈frs X.stack,b∈X.env.locals::X.fs:=λ b hb=>by
 rcases I.ok.stk with e | ⟨e,hf⟩
 ·rw [e] at hb; exact List.mem_cons_of_mem _ hb
 ·rw [e] at hb
  unfold frs at hb
  rw [List.filterMap_cons,hf] at hb
  exact hb
theorem Inv.pD (I:Inv X pins σ H s):∀b∈frs X.stack,H b=none:=λ b hb=>by
 rcases List.mem_cons.mp (I.ko b hb) with e | hb
 ·rw [e]; exact I.free
 ·obtain ⟨_,o,ho,_⟩:=I.ok.ig.mem hb
  exact I.base.free b o ho (I.ok.frf b hb) λ z=>I.ok.exfs b z hb
theorem Inv.step {g':Array GenState} {t':Nat} {d':Drawn} {ch:List Addr} (I:Inv X pins σ H s)
  (hch:∀b∈ch,(b∈X.ex\/X.s₀.heap.objs.size<=b)/\b≠X.env.locals/\(∀x c,X.env.cells.lookup x=some c->c≠b)/\∀p∈X.pn++pins,p.1≠b)
  (keep:∀b o,b≠X.env.locals->b∉X.fs->b∉ch->s.heap.get? b=some o->H b=none->h'.get? b=some o)
  (slot:∀b o,b≠X.env.locals->b∈X.fs->b∉ch->s.heap.get? b=some o->H b=none->∃sl,h'.get? b=some {o with slots:=sl}) (free:∀b o,b∉ch->s.heap.get? b=some o->H b=none->H' b=none)
  (there:∀b o,b∉ch->s.heap.get? b=some o->∃o',h'.get? b=some o')
  (tups:∀b xs,H b=some (.tup xs)->H' b=some (.tup xs)) (ie:∀b o u,H b=some (.frz o u)->H' b=some (.frz o u)) (iJ:∀b ps,H b=some (.tbl ps)->∃more,H' b=some (.tbl (ps++more)))
  (ns:∀m,s.heap.Ns X.env.locals m->h'.Ns X.env.locals m) (hok:HOk X.prog X.w H' h') (hg:AllBare g') :
  Inv X pins σ H' {s with heap:=h',gens:=g',drawn:=d',toks:=t'}:=by
 have neL:∀b o,X.s₀.heap.get? b=some o->b≠X.env.locals:=λ b o e=>Nat.ne_of_lt (Nat.lt_of_lt_of_le (Heap.lt_size e) I.ok.above)
 have neC:∀b o,X.s₀.heap.get? b=some o->b∉X.ex->b∉ch:=λ b o e hx hb=>by
  rcases (hch b hb).1 with z | z
  ·exact hx z
  ·exact absurd (Nat.lt_of_lt_of_le (Heap.lt_size e) z) (Nat.lt_irrefl _)
 have cellK:∀x c,X.env.cells.lookup x=some c->∀v,s.heap.IsCell c v->h'.IsCell c v:=λ x c e v ⟨o,ho,hd⟩=>by
  have nch:c∉ch:=λ z=>(hch c z).2.2.1 x c e rfl
  by_cases hc:c∈X.fs
  ·obtain ⟨sl,q⟩:=slot c o (I.cne x c e) hc nch ho (I.freeC x c e)
   exact ⟨_,q,hd⟩
  ·exact ⟨o,keep c o (I.cne x c e) hc nch ho (I.freeC x c e),hd⟩
 refine ⟨I.ok,I.os,hg,⟨λ b o e n hb hx=>?_,λ b o e n hb hx=>?_,λ b o e n hx=>?_,λ b o e hx=>?_,λ b xs e=>tups b xs (I.base.tups b xs e),λ b o xs e=>ie b o xs (I.base.ie b o xs e),λ b ps e=>?_⟩,?_,λ x c e=>?_,?_,λ x c e=>?_,λ p hp=>?_,hok,I.len⟩
 ·exact keep b o (neL b o e) hb (neC b o e hx) (I.base.keep b o e n hb hx) (I.base.free b o e n hx)
 ·obtain ⟨sl,e1⟩:=I.base.slot b o e n hb hx
  obtain ⟨sl',e2⟩:=slot b _ (neL b o e) hb (neC b o e hx) e1 (I.base.free b o e n hx)
  exact ⟨sl',e2⟩
 ·obtain ⟨o',e1⟩:=I.base.there b o e hx
  exact free b o' (neC b o e hx) e1 (I.base.free b o e n hx)
 ·obtain ⟨o',e1⟩:=I.base.there b o e hx
  exact there b o' (neC b o e hx) e1
 ·obtain ⟨m1,e1⟩:=I.base.iJ b ps e
  obtain ⟨m2,e2⟩:=iJ b _ e1
  exact ⟨m1++m2,by rw [e2,Array.append_assoc]⟩
 ·obtain ⟨m,hn,hl⟩:=I.loc
  refine ⟨m,ns m hn,λ i x v e1 e2 e3=>?_⟩
  obtain ⟨u,r,l⟩:=hl i x v e1 e2 e3
  refine ⟨u,r,?_⟩
  rcases l with l | ⟨k,c,e,z⟩
  ·exact .inl l
  ·exact .inr ⟨k,c,e,cellK x c e _ z⟩
 ·obtain ⟨v,z⟩:=I.cell x c e
  exact ⟨v,cellK x c e v z⟩
 ·obtain ⟨m,⟨o,_,_,ho,_⟩,_⟩:=I.loc
  exact free _ o (λ z=>(hch _ z).2.1 rfl) ho I.free
 ·obtain ⟨v,o,ho,hd⟩:=I.cell x c e
  exact free c o (λ z=>(hch c z).2.2.1 x c e rfl) ho (I.freeC x c e)
 ·obtain ⟨e,n,ne,nf,d⟩:=I.pin p hp
  have nch:p.1∉ch:=λ z=>(hch p.1 z).2.2.2 p hp rfl
  exact ⟨keep p.1 p.2 ne nf nch e n,free p.1 p.2 nch e n,ne,nf,d⟩
theorem Inv.un {t':Nat} (I:Inv X pins σ H s) (u:Un X.fs [] H H' s.heap h') (hok:HOk X.prog X.w H' h'):Inv X pins σ H' {s with heap:=h',toks:=t'}:=by
 obtain ⟨m,⟨o,es,ep,ho,r⟩,_⟩:=id I.loc
 obtain ⟨sl,hL⟩:=u.any ho I.free (by simp)
 exact I.step (g':=s.gens) (d':=s.drawn) (ch:=[]) (λ _ z=>nomatch z) (λ b o _ hb _ e n=>u.keep b o e n hb (by simp)) (λ b o _ hb _ e n=>u.slot b o e n hb (by simp)) (λ b o _ e n=>u.free b o e n (by simp)) (λ b o _ e=>u.there b o e (by simp)) u.tups u.ie u.iJ (λ m' hm=>by
  obtain ⟨o',es',ep',ho',r'⟩:=hm
  rw [ho] at ho'; cases ho'
  exact ⟨_,es',ep',hL,r'⟩) hok I.bare
theorem Inv.call {g':Array GenState} {t':Nat} {d':Drawn} {ch:List Addr} (I:Inv X pins σ H s) (u:Un (frs X.stack) ch H H' s.heap h') (hok:HOk X.prog X.w H' h') (hg:AllBare g')
  (hch:∀b∈ch,(b∈X.ex\/X.s₀.heap.objs.size<=b)/\b≠X.env.locals/\(∀x c,X.env.cells.lookup x=some c->c≠b)/\∀p∈X.pn++pins,p.1≠b) :
  Inv X pins σ H' {s with heap:=h',gens:=g',drawn:=d',toks:=t'}:=by
 obtain ⟨m,⟨o,es,ep,ho,r⟩,_⟩:=id I.loc
 obtain ⟨sl,hL⟩:=u.any ho I.free λ z=>(hch _ z).2.1 rfl
 exact I.step (ch:=ch) hch (λ b o hL hb hc e n=>u.keep b o e n (λ z=>(List.mem_cons.mp (I.ko b z)).elim hL hb) hc) (λ b o _ _ hc e n=>u.any e n hc) (λ b o hc e n=>u.free b o e n hc) (λ b o hc e=>u.there b o e hc) u.tups u.ie u.iJ (λ m' hm=>by
  obtain ⟨o',es',ep',ho',r'⟩:=hm
  rw [ho] at ho'; cases ho'
  exact ⟨_,es',ep',hL,r'⟩) hok hg
theorem Inv.turned {t':Nat} {it:Addr} (I:Inv X pins σ H s) (k:∀b o,b≠it->s.heap.get? b=some o->h'.get? b=some o) (hn:H it=none) (hL:it≠X.env.locals)
  (h1:it∈X.ex\/X.s₀.heap.objs.size<=it) (h2:∀x c,X.env.cells.lookup x=some c->c≠it) (h3:∀p∈X.pn++pins,p.1≠it):Inv X pins σ H {s with heap:=h',toks:=t'}:=by
 have nit:∀b u,H b=some u->b≠it:=λ b u e z=>by rw [z,hn] at e; cases e
 refine I.step (g':=s.gens) (d':=s.drawn) (ch:=[it]) (λ b hb=>?_) (λ b o _ _ hc e _=>k b o (λ z=>hc (by simp [z])) e) (λ b o _ _ hc e _=>⟨o.slots,k b o (λ z=>hc (by simp [z])) e⟩) (λ _ _ _ _ n=>n)
  (λ b o hc e=>⟨o,k b o (λ z=>hc (by simp [z])) e⟩) (λ _ _ e=>e) (λ _ _ _ e=>e) (λ b ps e=>⟨#[],by rw [e]; simp⟩) (λ m hm=>?_) (λ b u e=>?_) I.bare
 ·have e:b=it:=by simpa using hb
  subst e
  exact ⟨h1,hL,h2,h3⟩
 ·obtain ⟨o,es,ep,ho,r⟩:=hm
  exact ⟨o,es,ep,k _ o (Ne.symm hL) ho,r⟩
 ·refine (I.hok b u e).stay (λ c v hc q=>k c v ?_ q) (λ _ q=>q) λ _ _ q=>q
  rcases hc with z | z
  ·rw [z]; exact nit b u e
  ·exact nit c _ z
theorem Inv.tok (I:Inv X pins σ H s) (t:Nat):Inv X pins σ H {s with toks:=t}:=I.un (h':=s.heap) (t':=t) Un.refl I.hok
theorem Inv.kept {t':Nat} (I:Inv X pins σ H s) (k:∀b u,s.heap.get? b=some u->h'.get? b=some u):Inv X pins σ H {s with heap:=h',toks:=t'}:=I.un (Un.kept k) (I.hok.kept k)
theorem Inv.laid {a:Addr} {o:HO} {t':Nat} (I:Inv X pins σ H s) (k:∀b u,s.heap.get? b=some u->h'.get? b=some u) (hp:s.heap.objs.size<=a) (new:bA X.prog X.w (upd H a o) h' a o) :
  Inv X pins σ (upd H a o) {s with heap:=h',toks:=t'}:=I.un (Un.laid k hp (I.hok.fresh hp)) (I.hok.laid k hp new)
theorem Inv.write {x e:Addr} {o:HO} {t':Nat} (I:Inv X pins σ H s) (mu:Mut (H x)) (he:e=x\/H e=some (.own x)) (k:∀b u,b≠e->s.heap.get? b=some u->h'.get? b=some u) (heo:∃u,h'.get? e=some u)
  (new:bA X.prog X.w (upd H x o) h' x o):Inv X pins σ (upd H x o) {s with heap:=h',toks:=t'}:=I.un (Un.write mu he k heo) (I.hok.write mu he k heo new)
theorem Inv.pF {yH:List (Addr×Obj)} (I:Inv X pins σ H s) (h:∀p∈yH,s.heap.get? p.1=some p.2/\H p.1=none/\p.1≠X.env.locals/\p.1∉X.fs/\∀v,p.2.data≠.cell v):Inv X yH σ H s:=
 ⟨I.ok,I.os,I.bare,I.base,I.loc,I.cell,I.free,I.freeC,λ p hp=>(List.mem_append.mp hp).elim (λ z=>I.pin p (List.mem_append_left _ z)) (h p),I.hok,I.len⟩
theorem lP {N:List Str} (hN:N.Nodup) {i j:Nat} {x:Str} (a:N[i]?=some x) (b:N[j]?=some x):i=j:=by
 obtain ⟨h1,e1⟩:=List.getElem?_eq_some_iff.mp a
 obtain ⟨h2,e2⟩:=List.getElem?_eq_some_iff.mp b
 exact (List.getElem_inj hN).mp (e1.trans e2.symm)
theorem jT {M:Model} {A:Around} {E:Value->Shared->Prop} {i:Nat} {x:Str} {v:V} {u:Value} {Q:Unit->Shared->Prop} (I:Inv X pins σ H s) (hN:X.N.Nodup) (hi:X.N[i]?=some x) (hx:Loc X.env.scope x) (r:RelV v u)
  (h:∀s',Inv X pins (σ.set i (some v)) H s'->(∃a,Heap.SameBut a s.heap s'.heap/\(a=X.env.locals\/X.env.cells.lookup x=some a))->Q () s') (hf:X.fn x=true\/X.env.scope.names.lookup x=some .local:=by first | exact .inl rfl | exact .inr rfl | assumption):wpAny M A (storeName X.env x u) Q E s:=by
 obtain ⟨m,hn,hl⟩:=id I.loc
 have hcls:(X.env.scope.kind==.class||(X.env.scope.kind==.module&&X.env.locals != X.env.globals))=false:=by rw [I.ok.kind]; rfl
 have hiσ:i < σ.length:=by rw [I.len]; exact (List.getElem?_eq_some_iff.mp hi).1
 have cne:=I.cne
 have tracked:∀{a:Addr} {h':Heap},(∃o,s.heap.get? a=some o/\H a=none)->Heap.SameBut a s.heap h'->HOk X.prog X.w H h':=λ {a h'} ha hs b ob e=>by
  obtain ⟨_,_,hfree⟩:=ha
  refine (I.hok b ob e).stay (λ c w' hc q=>(hs.2 c ?_).trans q) (λ _ q=>q) λ _ _ q=>q
  rintro rfl
  rcases hc with rfl | hc
  ·rw [hfree] at e; cases e
  ·rw [hfree] at hc; cases hc
 rcases hx with hk | hk
 ·refine wpAny_storeName_local hk hn (λ h' hn' hs=>?_) hcls
  obtain ⟨oL,_,_,hoL,_⟩:=id hn
  refine h _ ⟨I.ok,I.os,I.bare,⟨λ b o e n hb hx=>?_,λ b o e n hb hx=>?_,I.base.free,λ b o e hx=>?_,I.base.tups,I.base.ie,I.base.iJ⟩,⟨_,hn',λ j y v' e1 e2 e3=>?_⟩,λ y c e=>?_,I.free,I.freeC,λ p hp=>?_,tracked ⟨oL,hoL,I.free⟩ hs,by simpa using I.len⟩ ⟨_,hs,.inl rfl⟩
  ·exact (hs.2 b (Nat.ne_of_lt (Nat.lt_of_lt_of_le (Heap.lt_size e) I.ok.above))).trans (I.base.keep b o e n hb hx)
  ·obtain ⟨sl,e1⟩:=I.base.slot b o e n hb hx
   exact ⟨sl,(hs.2 b (Nat.ne_of_lt (Nat.lt_of_lt_of_le (Heap.lt_size e) I.ok.above))).trans e1⟩
  ·obtain ⟨o',e1⟩:=I.base.there b o e hx
   exact ⟨o',(hs.2 b (Nat.ne_of_lt (Nat.lt_of_lt_of_le (Heap.lt_size e) I.ok.above))).trans e1⟩
  ·by_cases hj:j=i
   ·subst hj
    rw [hi] at e1; cases e1
    rw [List.getElem?_set_self hiσ] at e2
    cases e2
    exact ⟨u,r,.inl ⟨hk,by simp⟩⟩
   ·rw [List.getElem?_set_ne (Ne.symm hj)] at e2
    obtain ⟨u',r',q⟩:=hl j y v' e1 e2 e3
    refine ⟨u',r',?_⟩
    rcases q with ⟨k,e⟩ | ⟨k,c,e,z⟩
    ·refine .inl ⟨k,?_⟩
     have:y≠x:=λ e=>hj (lP hN e1 (e▸hi))
     simp [this,e]
    ·exact .inr ⟨k,c,e,z.sameBut hs (cne y c e)⟩
  ·obtain ⟨w',z⟩:=I.cell y c e
   exact ⟨w',z.sameBut hs (cne y c e)⟩
  ·obtain ⟨e,n,ne,nf,d⟩:=I.pin p hp
   exact ⟨(hs.2 p.1 ne).trans e,n,ne,nf,d⟩
 ·have hfn:X.fn x=true:=by
   rcases hf with z | z
   ·exact z
   ·rw [z] at hk; cases hk
  obtain ⟨c,hc⟩:=I.ok.has x (.inl hk)
  obtain ⟨w',z⟩:=I.cell x c hc
  refine wpAny_storeName_cell I.ok.kind hk hc z (λ h' hc' hs=>?_)
  obtain ⟨oc,hoc,hocd⟩:=id z
  refine h {s with heap:=h'} ⟨I.ok,I.os,I.bare,⟨λ b o e n hb hx=>?_,λ b o e n hb hx=>?_,I.base.free,λ b o e hx=>?_,I.base.tups,I.base.ie,I.base.iJ⟩,⟨m,hn.sameBut hs (Ne.symm (cne x c hc)),λ j y v' e1 e2 e3=>?_⟩,λ y c' e=>?_,I.free,I.freeC,λ p hp=>?_,tracked ⟨oc,hoc,I.freeC x c hc⟩ hs,by simpa using I.len⟩ ⟨c,hs,.inr hc⟩
  ·exact (hs.2 b (Nat.ne_of_lt (Nat.lt_of_lt_of_le (Heap.lt_size e) (I.ok.cab x c hfn hc)))).trans (I.base.keep b o e n hb hx)
  ·obtain ⟨sl,e1⟩:=I.base.slot b o e n hb hx
   exact ⟨sl,(hs.2 b (Nat.ne_of_lt (Nat.lt_of_lt_of_le (Heap.lt_size e) (I.ok.cab x c hfn hc)))).trans e1⟩
  ·obtain ⟨o',e1⟩:=I.base.there b o e hx
   exact ⟨o',(hs.2 b (Nat.ne_of_lt (Nat.lt_of_lt_of_le (Heap.lt_size e) (I.ok.cab x c hfn hc)))).trans e1⟩
  ·by_cases hj:j=i
   ·subst hj
    rw [hi] at e1; cases e1
    rw [List.getElem?_set_self hiσ] at e2
    cases e2
    exact ⟨u,r,.inr ⟨.inl hk,c,hc,hc'⟩⟩
   ·rw [List.getElem?_set_ne (Ne.symm hj)] at e2
    obtain ⟨u',r',q⟩:=hl j y v' e1 e2 e3
    refine ⟨u',r',?_⟩
    rcases q with q | ⟨k,c',e,z'⟩
    ·exact .inl q
    ·refine .inr ⟨k,c',e,z'.sameBut hs ?_⟩
     rintro rfl
     exact hj (lP hN e1 (I.ok.inj _ _ _ e hc▸hi))
  ·by_cases hcc:c'=c
   ·subst hcc; exact ⟨_,hc'⟩
   ·obtain ⟨w2,z2⟩:=I.cell y c' e
    exact ⟨w2,z2.sameBut hs hcc⟩
  ·obtain ⟨e,n,ne,nf,d⟩:=I.pin p hp
   refine ⟨(hs.2 p.1 ?_).trans e,n,ne,nf,d⟩
   intro q
   rw [q,hoc] at e
   have q':oc=p.2:=Option.some.inj e
   exact d w' (by rw [<-q']; exact hocd)
theorem fU {M:Model} {A:Around} {E:Value->Shared->Prop} {i:Nat} {x:Str} {v:V} {u:Value} {Q:Unit->Shared->Prop} (I:Inv X pins σ H s) (hN:X.N.Nodup) (hi:X.N[i]?=some x) (hx:Loc X.env.scope x) (r:RelV v u)
  (h:∀s',Inv X pins (σ.set i (some v)) H s'->Q () s') (hf:X.fn x=true\/X.env.scope.names.lookup x=some .local:=by first | exact .inl rfl | exact .inr rfl | assumption):wpAny M A (storeName X.env x u) Q E s:=
 jT I hN hi hx r (λ s' I' _=>h s' I') hf
theorem Inv.BZ {s':Shared} {ch:List Addr} (I:Inv X pins σ H s) (ho:s'.os=s.os) (u:Un (frs X.stack) ch H H' s.heap s'.heap) (hok:HOk X.prog X.w H' s'.heap) (hg:AllBare s'.gens)
  (hch:∀b∈ch,(b∈X.ex\/X.s₀.heap.objs.size<=b)/\b≠X.env.locals/\(∀x c,X.env.cells.lookup x=some c->c≠b)/\∀p∈X.pn++pins,p.1≠b):Inv X pins σ H' s':=by
 obtain ⟨h',g',d',t',o'⟩:=s'
 have e:o'=s.os:=ho
 subst e
 exact I.call (g':=g') (t':=t') (d':=d') u hok hg hch
end
abbrev XK:=Value->Option Addr->Hp->Prop
abbrev St:=List (Option V)
abbrev VK:=V->Hp->Prop
abbrev TE:=St->Hp->VK->Prop
abbrev TT:=St->Hp->(Bool->Hp->Prop)->Prop
abbrev TA:=St->Hp->(List V->Hp->Prop)->Prop
set_option genInjectivity false in
structure Ends where
 nx:St->Hp->Prop
 rt:VK
 bk:St->Hp->Prop:=λ _ _=>False
 ct:St->Hp->Prop:=λ _ _=>False
abbrev TS:=Ends->St->Hp->Prop
noncomputable def EP (X:Cx) (pins:List (Addr×Obj)) (σ:St) (Q:VK) (u:Value) (s':Shared):Prop:=∃v H',Inv X pins σ H' s'/\RelV v u/\Q v H'
noncomputable def TP (X:Cx) (pins:List (Addr×Obj)) (σ:St) (Q:Bool->Hp->Prop) (b:Bool) (s':Shared):Prop:=∃H',Inv X pins σ H' s'/\Q b H'
noncomputable def AP (X:Cx) (pins:List (Addr×Obj)) (σ:St) (Q:List V->Hp->Prop) (us:List Value) (s':Shared):Prop:=∃vs H',Inv X pins σ H' s'/\Vals vs us/\Q vs H'
noncomputable def SP (X:Cx) (pins:List (Addr×Obj)) (D:Ends) (f:Flow) (s':Shared):Prop:=
 match f with
 | .next=>∃σ' H',Inv X pins σ' H' s'/\D.nx σ' H'
 | .brk=>∃σ' H',Inv X pins σ' H' s'/\D.bk σ' H'
 | .cont=>∃σ' H',Inv X pins σ' H' s'/\D.ct σ' H'
 | .ret u=>∃v σ' H',Inv X pins σ' H' s'/\RelV v u/\D.rt v H'
noncomputable def PE (X:Cx) (e:Expr) (t:TE):Prop:=
 ∀(pins:List (Addr×Obj)) (s:Shared) (σ:St) (H:Hp) (Q:VK),Inv X pins σ H s->t σ H Q->wpAny (model X.prog X.w) X.A (eval e X.env) (EP X pins σ Q) X.xe s
noncomputable def PT (X:Cx) (e:Expr) (t:TT):Prop:=
 ∀(pins:List (Addr×Obj)) (s:Shared) (σ:St) (H:Hp) (Q:Bool->Hp->Prop),Inv X pins σ H s->t σ H Q->wpAny (model X.prog X.w) X.A (isTrue e X.env (eval e X.env)) (TP X pins σ Q) X.xe s
noncomputable def PW (X:Cx) (e:Expr) (t:TT):Prop:=
 ∀(whole:Sem Value) (pins:List (Addr×Obj)) (s:Shared) (σ:St) (H:Hp) (Q:Bool->Hp->Prop),Inv X pins σ H s->t σ H Q->wpAny (model X.prog X.w) X.A (isTrue e X.env whole) (TP X pins σ Q) X.xe s
theorem PW.pt {X:Cx} {e:Expr} {t:TT} (h:PW X e t):PT X e t:=h _
noncomputable def PA (X:Cx) (es:List Expr) (t:TA):Prop:=
 ∀(pos:Pos) (pins:List (Addr×Obj)) (s:Shared) (σ:St) (H:Hp) (Q:List V->Hp->Prop),Inv X pins σ H s->t σ H Q->wpAny (model X.prog X.w) X.A (spliced (backTo pos (starEach es X.env))) (AP X pins σ Q) X.xe s
noncomputable def PS (X:Cx) (st:Stmt) (t:TS):Prop:=
 ∀(pins:List (Addr×Obj)) (s:Shared) (σ:St) (H:Hp) (D:Ends),Inv X pins σ H s->t D σ H->wpAny (model X.prog X.w) X.A (exec st X.env) (SP X pins D) X.xe s
noncomputable def PSs (X:Cx) (st:List Stmt) (t:TS):Prop:=
 ∀(pins:List (Addr×Obj)) (s:Shared) (σ:St) (H:Hp) (D:Ends),Inv X pins σ H s->t D σ H->wpAny (model X.prog X.w) X.A (execs st X.env) (SP X pins D) X.xe s
theorem thn {α:Type} {t:Sem α} {Q Q':α->Shared->Prop} {M:Model} {A:Around} {E:Value->Shared->Prop} {s:Shared} (h:wpAny M A t Q E s) (hQ:∀a s,Q a s->Q' a s):wpAny M A t Q' E s:=wpAny_mono h hQ λ _ _ x=>x
end L2
namespace L2
open PySem PySem.Spec PyProof.Rows
section
variable {X:Cx}
theorem bin {a b:Expr} {ta tb:TE} (ha:PE X a ta) (hb:PE X b tb) {pins:List (Addr×Obj)} {s:Shared} {σ:St} {H:Hp} {R:V->V->Hp->Prop} (I:Inv X pins σ H s) (h:ta σ H λ x H1=>tb σ H1 λ y H2=>R x y H2)
  {α:Type} {Q:α->Shared->Prop} {f:Value->Value->Sem α}
  (hf:∀v u s2 x y H2,Inv X pins σ H2 s2->RelV x v->RelV y u->R x y H2->wpAny (model X.prog X.w) X.A (f v u) Q X.xe s2) :
  wpAny (model X.prog X.w) X.A (eval a X.env) (λ v s₁=>wpAny (model X.prog X.w) X.A (eval b X.env) (λ u s₂=>wpAny (model X.prog X.w) X.A (f v u) Q X.xe s₂) X.xe s₁) X.xe s:=by
 refine thn (ha pins s σ H _ I h) λ v s1 ⟨x,H1,I1,r1,q1⟩=>?_
 refine thn (hb pins s1 σ H1 _ I1 q1) λ u s2 ⟨y,H2,I2,r2,q2⟩=>?_
 exact hf v u s2 x y H2 I2 r1 r2 q2
noncomputable def Ea (i:Nat):TE:=fun σ H Q=>∃v,σ[i]?=some (some v)/\Q v H
noncomputable def tC (v:V):TE:=λ _ H Q=>Q v H
theorem zF {i:Nat} {x:Str} {pos:Pos} (hN:X.N[i]?=some x) (hv:Vis X.env.scope x) (hd:(x==("__debug__":Str))=false:=by decide) (hcd:(x==("__classdict__":Str))=false:=by decide):PE X (.Name x pos) (Ea i):=by
 intro pins s σ H Q I h
 obtain ⟨v,e,h⟩:=h
 obtain ⟨m,hn,hl⟩:=I.loc
 obtain ⟨u,r,l⟩:=hl i x v hN e hv
 have fin:EP X pins σ Q u s:=⟨v,H,I,r,h⟩
 rcases l with ⟨hk,hm⟩ | ⟨hk,c,hc,hcell⟩
 ·exact wpAny_Name (wpAny_loadName_local I.ok.kind hk hn hm fin) hd
 ·rcases hk with hk | hk
  ·exact wpAny_Name (wpAny_loadName_cell I.ok.kind hk hc hcell fin) hd
  ·exact wpAny_Name (wpAny_loadName_free I.ok.kind hk hc hcell fin hcd) hd
theorem zG {i j pos}:PE X (.Constant (.int i) j pos) (tC (.int i)):=λ _ _ _ H _ I h=>wpAny_Constant_int ⟨.int i,H,I.tok _,⟨_,rfl⟩,h⟩
theorem B0 {b j pos}:PE X (.Constant (.bool b) j pos) (tC (.bl b)):=λ _ _ _ H _ I h=>Constant_bool ⟨.bl b,H,I,rfl,h⟩
theorem sI {j pos}:PE X (.Constant .none j pos) (tC .non):=λ _ _ _ H _ I h=>Constant_none ⟨.non,H,I,rfl,h⟩
theorem zH {x j pos}:PE X (.Constant (.str x) j pos) (tC (.str x)):=λ _ _ _ H _ I h=>Calls.Constant_str ⟨.str x,H,I.tok _,⟨_,rfl⟩,h⟩
noncomputable def Gl (X:Cx) (x:Str):Prop:=X.env.kindOf x=some .globalImplicit
theorem iC {E:Value->Shared->Prop} {pins:List (Addr×Obj)} {s:Shared} {σ:St} {H:Hp} {x:Str} {u:Value} {pos:Pos} {Q:Value->Shared->Prop} (I:Inv X pins σ H s) (hg:Gl X x) (hm:X.mg x=some u) (h:Q u s)
  (hd:(x==("__debug__":Str))=false:=by decide):wpAny (model X.prog X.w) X.A (eval (.Name x pos) X.env) Q E s:=
 Calls.Name_function_global I.ok.kind hg (Calls.loadGlobal_global (by rw [I.ok.glob]; exact I.mod.glob.keeps I.bk) hm h) hd
theorem dD {E:Value->Shared->Prop} {pins:List (Addr×Obj)} {s:Shared} {σ:St} {H:Hp} {x:Str} {u:Value} {pos:Pos} {Q:Value->Shared->Prop} (I:Inv X pins σ H s) (hg:Gl X x) (hm:X.mg x=none) (hv:bootBuiltins x=some u) (h:Q u s)
  (hn:x≠"__name__":=by decide) (hd:(x==("__debug__":Str))=false:=by decide):wpAny (model X.prog X.w) X.A (eval (.Name x pos) X.env) Q E s:=by
 obtain ⟨mb,h1,h2⟩:=I.mod.blt
 exact Calls.Name_function_global I.ok.kind hg (Calls.loadGlobal_builtin (by rw [I.ok.glob]; exact I.mod.glob.keeps I.bk) hm (by rw [I.ok.blt]; exact h1.keeps I.bk) ((h2 x hn).trans hv) h) hd
theorem vY {x:Str} {v:V} {u:Value} {pos:Pos} (hg:Gl X x) (hm:X.mg x=some u) (r:RelV v u) (hd:(x==("__debug__":Str))=false:=by decide):PE X (.Name x pos) (tC v):=
 λ _ _ _ H _ I h=>iC I hg hm ⟨v,H,I,r,h⟩ hd
theorem vZ {x:Str} {v:V} {u:Value} {pos:Pos} (hg:Gl X x) (hm:X.mg x=none) (hv:bootBuiltins x=some u) (r:RelV v u) (hn:x≠"__name__":=by decide) (hd:(x==("__debug__":Str))=false:=by decide):PE X (.Name x pos) (tC v):=
 λ _ _ _ H _ I h=>dD I hg hm hv ⟨v,H,I,r,h⟩ hn hd
variable {a b:Expr} {ta tb:TE} {pos:Pos}
variable {tA tB':TT} {rest:List Expr}
noncomputable def Ec (t u:TT):TT:=fun σ H Q=>t σ H λ c H1=>if c=true then u σ H1 Q else Q false H1
noncomputable def tOr (t u:TT):TT:=fun σ H Q=>t σ H λ c H1=>if c=true then Q true H1 else u σ H1 Q
noncomputable def Ed (t:TT):TT:=fun σ H Q=>t σ H λ c H1=>Q (!c) H1
theorem v7 (ha:PT X a tA):PW X (.BoolOp .And [a] pos) tA:=by
 intro wh pins s σ H Q I h
 refine isTrue_and (thn (ha pins s σ H Q I h) λ c s1 e=>?_)
 cases c with
 | true=>exact isTrue_and_nil e
 | false=>exact e
theorem zI (ha:PT X a tA):PW X (.BoolOp .Or [a] pos) tA:=by
 intro wh pins s σ H Q I h
 refine isTrue_or (thn (ha pins s σ H Q I h) λ c s1 e=>?_)
 cases c with
 | false=>exact isTrue_or_nil e
 | true=>exact e
theorem zJ (ha:PT X a tA) (hb:PW X (.BoolOp .And (b::rest) pos) tB'):PW X (.BoolOp .And (a::b::rest) pos) (Ec tA tB'):=by
 intro wh pins s σ H Q I h
 refine isTrue_and (thn (ha pins s σ H _ I h) λ c s1 ⟨H1,I1,q1⟩=>?_)
 cases c with
 | true=>exact hb wh pins s1 σ H1 Q I1 q1
 | false=>exact ⟨H1,I1,q1⟩
theorem B3 (ha:PT X a tA) (hb:PW X (.BoolOp .Or (b::rest) pos) tB'):PW X (.BoolOp .Or (a::b::rest) pos) (tOr tA tB'):=by
 intro wh pins s σ H Q I h
 refine isTrue_or (thn (ha pins s σ H _ I h) λ c s1 ⟨H1,I1,q1⟩=>?_)
 cases c with
 | true=>exact ⟨H1,I1,q1⟩
 | false=>exact hb wh pins s1 σ H1 Q I1 q1
theorem zK (ha:PT X a tA):PT X (.UnaryOp .Not a pos) (Ed tA):=by
 intro pins s σ H Q I h
 exact isTrue_not (ha pins s σ H (λ c H1=>Q (!c) H1) I h)
noncomputable def B4 (ta tb:TE):TE:=fun σ H Q=>ta σ H λ x H1=>∃c,x=.bl c/\if c=true then tb σ H1 Q else Q (.bl false) H1
noncomputable def Ef (ta tb:TE):TE:=fun σ H Q=>ta σ H λ x H1=>∃c,x=.bl c/\if c=true then Q (.bl true) H1 else tb σ H1 Q
noncomputable def B5 (ta:TE):TE:=fun σ H Q=>ta σ H λ x H1=>∃c,x=.bl c/\Q (.bl (!c)) H1
theorem sJ {op} {t:TE} (h:PE X a t):PE X (.BoolOp op [a] pos) t:=λ pins s σ H Q I hw=>BoolOp_one (h pins s σ H Q I hw)
theorem zL (ha:PE X a ta) (hb:PE X (.BoolOp .And (b::rest) pos) tb):PE X (.BoolOp .And (a::b::rest) pos) (B4 ta tb):=by
 intro pins s σ H Q I h
 refine BoolOp_and (thn (ha pins s σ H _ I h) λ v s1 ⟨x,H1,I1,r1,q1⟩=>?_)
 obtain ⟨c,rfl,q1⟩:=q1
 cases r1
 refine wpAny_truthy_bool ?_
 cases c with
 | true=>exact hb pins s1 σ H1 Q I1 q1
 | false=>exact ⟨.bl false,H1,I1,rfl,q1⟩
theorem B6 (ha:PE X a ta) (hb:PE X (.BoolOp .Or (b::rest) pos) tb):PE X (.BoolOp .Or (a::b::rest) pos) (Ef ta tb):=by
 intro pins s σ H Q I h
 refine BoolOp_or (thn (ha pins s σ H _ I h) λ v s1 ⟨x,H1,I1,r1,q1⟩=>?_)
 obtain ⟨c,rfl,q1⟩:=q1
 cases r1
 refine wpAny_truthy_bool ?_
 cases c with
 | false=>exact hb pins s1 σ H1 Q I1 q1
 | true=>exact ⟨.bl true,H1,I1,rfl,q1⟩
theorem zM (ha:PE X a ta):PE X (.UnaryOp .Not a pos) (B5 ta):=by
 intro pins s σ H Q I h
 refine UnaryOp_ (thn (ha pins s σ H _ I h) λ v s1 ⟨x,H1,I1,r1,q1⟩=>?_)
 obtain ⟨c,rfl,q1⟩:=q1
 cases r1
 exact not_of (wpAny_truthy_bool ⟨.bl (!c),H1,I1,rfl,q1⟩)
noncomputable def tIf (t:TT) (ta tb:TE):TE:=fun σ H Q=>t σ H λ c H1=>if c=true then ta σ H1 Q else tb σ H1 Q
theorem sL {c:Expr} (hc:PT X c tA) (ha:PE X a ta) (hb:PE X b tb):PE X (.IfExp c a b pos) (tIf tA ta tb):=by
 intro pins s σ H Q I h
 refine wpAny_IfExp (thn (hc pins s σ H _ I h) λ d s1 ⟨H1,I1,q1⟩=>?_)
 cases d with
 | true=>exact ha pins s1 σ H1 Q I1 q1
 | false=>exact hb pins s1 σ H1 Q I1 q1
end
end L2
namespace L2
open PySem PySem.Spec PyProof.Rows
noncomputable def SqL (K:PySem.W.Frag) (H:Hp) (a:Addr) (xs:List V):Prop:=
 Rd H a (.lst xs)\/
  ∃(o:Obj) (its:Array Value) (n:Nat),K.lookup a=some o/\o.cls=.type "list"/\o.dict=none/\o.data=.seq its n/\its.size<=sizeLine/\Vals xs its.toList
noncomputable def SqT (K:PySem.W.Frag) (H:Hp) (a:Addr) (xs:List V):Prop:=
 Rd H a (.tup xs)\/
  ∃(o:Obj) (its:Array Value) (n:Nat),K.lookup a=some o/\o.cls=.type "tuple"/\o.data=.seq its n/\its.size<=sizeLine/\Vals xs its.toList
noncomputable def Eg:Value->Option V
 | .none=>some .non
 | .bool b=>some (.bl b)
 | .int i _=>some (.int i)
 | .str x _=>some (.str x)
 | .bytes b _=>some (.byt b)
 | .float b _=>some (.flt b)
 | .ref a=>some (.ref a)
 | .type n=>some (.ty n)
 | _=>none
theorem RelV.abs {x:V} {u:Value} (r:RelV x u):Eg u=some x:=by
 cases x with
 | non=>cases r; rfl
 | bl _=>cases r; rfl
 | int _=>obtain ⟨t,rfl⟩:=r; rfl
 | str _=>obtain ⟨t,rfl⟩:=r; rfl
 | byt _=>obtain ⟨t,rfl⟩:=r; rfl
 | flt _=>obtain ⟨t,rfl⟩:=r; rfl
 | ref _=>cases r; rfl
 | ty _=>cases r; rfl
theorem RelV.inj {x y:V} {u:Value} (r:RelV x u) (q:RelV y u):x=y:=Option.some.inj (r.abs.symm.trans q.abs)
theorem Vals.inj:∀{xs ys:List V} {us:List Value},Vals xs us->Vals ys us->xs=ys
 | _,_,_,.nil,.nil=>rfl
 | _,_,_,.cons r t,.cons r' t'=>by rw [r.inj r',Vals.inj t t']
section
variable {X:Cx} {pins:List (Addr×Obj)} {σ:St} {H:Hp} {s:Shared} {a:Addr} {xs ys:List V}
theorem SqT.of {K:PySem.W.Frag} (h:H a=some (.tup xs)):SqT K H a xs:=.inl (.inl h)
theorem Inv.list (I:Inv X pins σ H s) (h:SqL X.K H a xs):∃its:List Value,Vals xs its/\PlainL s.heap a its.toArray/\xs.length<=sizeLine:=by
 rcases h with h | ⟨o,its,n,hk,hc,hd,hs,hz,r⟩
 ·obtain ⟨z,its,n,r,e⟩:=h.ok I.hok
  exact ⟨its,r,⟨_,n,e,rfl,rfl,rfl⟩,z⟩
 ·refine ⟨its.toList,r,⟨o,n,I.kIn a o hk,hc,hd,by simpa using hs⟩,?_⟩
  have e:=r.length
  simp only [Array.length_toList] at e
  omega
theorem Inv.tuple (I:Inv X pins σ H s) (h:SqT X.K H a xs):∃its:List Value,Vals xs its/\IsTup s.heap a its.toArray/\xs.length<=sizeLine:=by
 rcases h with h | ⟨o,its,n,hk,hc,hs,hz,r⟩
 ·obtain ⟨z,its,r,p⟩:=h.ok I.hok
  exact ⟨its,r,p,z⟩
 ·refine ⟨its.toList,r,⟨o,I.kIn a o hk,hc,n,by simpa using hs⟩,?_⟩
  have e:=r.length
  simp only [Array.length_toList] at e
  omega
theorem Inv.iL (I:Inv X pins σ H s) (h:SqL X.K H a xs) (h':SqL X.K H a ys):xs=ys:=by
 obtain ⟨its,r,⟨o,n,e,_,_,d⟩,_⟩:=I.list h
 obtain ⟨its',r',⟨o',n',e',_,_,d'⟩,_⟩:=I.list h'
 rw [e] at e'; cases e'
 rw [d] at d'
 injection d' with d1 _
 have:its=its':=by simpa using congrArg Array.toList d1
 subst this
 exact r.inj r'
theorem Inv.gn (I:Inv X pins σ H s) (h:SqT X.K H a xs) (h':SqT X.K H a ys):xs=ys:=by
 obtain ⟨its,r,⟨o,e,_,n,d⟩,_⟩:=I.tuple h
 obtain ⟨its',r',⟨o',e',_,n',d'⟩,_⟩:=I.tuple h'
 rw [e] at e'; cases e'
 rw [d] at d'
 injection d' with d1 _
 have:its=its':=by simpa using congrArg Array.toList d1
 subst this
 exact r.inj r'
end
abbrev Cx.jz (X:Cx) (E:Value->Shared->Prop):Cx:={X with xe:=E}
abbrev Cx.nox (X:Cx):Cx:=X.jz λ _ _=>False
theorem Cx.Ok.jz {X:Cx} (ok:X.Ok) (E:Value->Shared->Prop):(X.jz E).Ok:=
 ⟨ok.mod,ok.kind,ok.glob,ok.blt,ok.above,ok.inj,ok.has,ok.cab,ok.hd,ok.frames,ok.stk,ok.exf,ok.bs,ok.bsz,ok.noex,ok.exfs,ok.ig,ok.frf⟩
theorem Cx.Ok.ee {X:Cx} {E:Value->Shared->Prop} (ok:(X.jz E).Ok):X.Ok:=
 ⟨ok.mod,ok.kind,ok.glob,ok.blt,ok.above,ok.inj,ok.has,ok.cab,ok.hd,ok.frames,ok.stk,ok.exf,ok.bs,ok.bsz,ok.noex,ok.exfs,ok.ig,ok.frf⟩
section
variable {X:Cx} {pins:List (Addr×Obj)} {σ:St} {H:Hp} {s:Shared} {E:Value->Shared->Prop}
theorem Inv.jz (I:Inv X pins σ H s) (E:Value->Shared->Prop):Inv (X.jz E) pins σ H s:=⟨I.ok.jz E,I.os,I.bare,I.base,I.loc,I.cell,I.free,I.freeC,I.pin,I.hok,I.len⟩
theorem Inv.ee (I:Inv (X.jz E) pins σ H s):Inv X pins σ H s:=⟨I.ok.ee,I.os,I.bare,I.base,I.loc,I.cell,I.free,I.freeC,I.pin,I.hok,I.len⟩
theorem SP.ee {D:Ends} {f:Flow} {s':Shared} (h:SP (X.jz E) pins D f s'):SP X pins D f s':=by
 cases f with
 | next=>obtain ⟨σ',H',I,q⟩:=h; exact ⟨σ',H',I.ee,q⟩
 | brk=>obtain ⟨σ',H',I,q⟩:=h; exact ⟨σ',H',I.ee,q⟩
 | cont=>obtain ⟨σ',H',I,q⟩:=h; exact ⟨σ',H',I.ee,q⟩
 | ret u=>obtain ⟨v,σ',H',I,r,q⟩:=h; exact ⟨v,σ',H',I.ee,r,q⟩
theorem PSs.nox {st:List Stmt} {t:TS} (h:PSs X.nox st t):PSs X st t:=λ pins s σ H D I hw=>
 wpAny_mono (h pins s σ H D (I.jz _) hw) (λ _ _ q=>q.ee) λ _ _ z=>False.elim z
end
section
variable {X:Cx} {st:Stmt} {rest:List Stmt} {t u:TS} {e:Expr} {te:TE} {pos:Pos}
noncomputable def yI:TS:=λ D σ H=>D.nx σ H
noncomputable def Eh (t u:TS):TS:=λ D σ H=>t {D with nx:=u D} σ H
theorem v8:PSs X [] yI:=λ _ _ σ H _ I h=>wpAny_execs_nil ⟨σ,H,I,h⟩
theorem sN (h1:PS X st t) (h2:PSs X rest u):PSs X (st::rest) (Eh t u):=by
 intro pins s σ H D I h
 refine wpAny_execs_cons (thn (h1 pins s σ H {D with nx:=u D} I h) λ f s1 q=>?_)
 cases f with
 | next=>
  obtain ⟨σ',H',I',q⟩:=q
  exact h2 pins s1 σ' H' D I' q
 | ret v=>exact q
 | brk=>exact q
 | cont=>exact q
noncomputable def zN:TS:=λ D σ H=>D.bk σ H
noncomputable def B7:TS:=λ D σ H=>D.ct σ H
theorem v9:PS X (.Pass pos) yI:=λ _ _ σ H _ I h=>wpAny_Pass ⟨σ,H,I,h⟩
theorem sO:PS X (.Break pos) zN:=λ _ _ σ H _ I h=>wpAny_Break ⟨σ,H,I,h⟩
theorem lQ:PS X (.Continue pos) B7:=λ _ _ σ H _ I h=>wpAny_Continue ⟨σ,H,I,h⟩
theorem Inv.quiet {pins:List (Addr×Obj)} {σ:St} {H:Hp} {s:Shared} (I:Inv X pins σ H s):interactive X.env=false:=by simp [interactive,I.ok.kind]
noncomputable def B8 (te:TE):TS:=λ D σ H=>te σ H λ _ H1=>D.nx σ H1
theorem wc (he:PE X e te) (hs:swapsWith e none pos.line X.env=pure false:=by rfl):PS X (.Expr e pos) (B8 te):=by
 intro pins s σ H D I h
 exact wpAny_Expr_any (thn (he pins s σ H _ I h) λ v s1 ⟨x,H1,I1,r1,q1⟩=>⟨σ,H1,I1,q1⟩) I.quiet hs
noncomputable def Ei (te:TE):TS:=λ D σ H=>te σ H D.rt
theorem zO (he:PE X e te):PS X (.Return (some e) pos) (Ei te):=by
 intro pins s σ H D I h
 exact wpAny_Return_some (thn (he pins s σ H _ I h) λ v s1 ⟨x,H1,I1,r1,q1⟩=>⟨x,σ,H1,I1,r1,q1⟩)
noncomputable def B9:TS:=λ D _ H=>D.rt .non H
theorem we:PS X (.Return none pos) B9:=λ _ _ σ H _ I h=>wpAny_Return_none ⟨.non,σ,H,I,rfl,h⟩
noncomputable def Ej (c:TT) (t u:TS):TS:=λ D σ H=>c σ H λ b H1=>if b=true then t D σ H1 else u D σ H1
theorem Ca {c:Expr} {a b:List Stmt} {tc:TT} (hc:PT X c tc) (ha:PSs X a t) (hb:PSs X b u):PS X (.If c a b pos) (Ej tc t u):=by
 intro pins s σ H D I h
 refine wpAny_If (thn (hc pins s σ H _ I h) λ d s1 ⟨H1,I1,q1⟩=>?_)
 cases d with
 | true=>exact ha pins s1 σ H1 D I1 q1
 | false=>exact hb pins s1 σ H1 D I1 q1
noncomputable def zP:TS:=λ _ _ _=>False
theorem sP:PS X st zP:=λ _ _ _ _ _ _ h=>h.elim
end
abbrev TG:=V->St->Hp->(St->Hp->Prop)->Prop
abbrev TGs:=List V->St->Hp->(St->Hp->Prop)->Prop
noncomputable def PG (X:Cx) (target:Expr) (t:TG):Prop:=
 ∀(pins:List (Addr×Obj)) (s:Shared) (σ:St) (H:Hp) (v:V) (u:Value) (Q:St->Hp->Prop),Inv X pins σ H s->RelV v u->t v σ H Q->
  wpAny (model X.prog X.w) X.A (assign target X.env u) (λ _ s'=>∃σ' H',Inv X pins σ' H' s'/\Q σ' H') X.xe s
noncomputable def PGs (X:Cx) (ts:List Expr) (t:TGs):Prop:=
 ∀(pins:List (Addr×Obj)) (s:Shared) (σ:St) (H:Hp) (vs:List V) (us:List Value) (Q:St->Hp->Prop),Inv X pins σ H s->Vals vs us->t vs σ H Q->
  wpAny (model X.prog X.w) X.A (assignInOrder ((assignEach ts X.env).map (·.2)) us) (λ _ s'=>∃σ' H',Inv X pins σ' H' s'/\Q σ' H') X.xe s
abbrev zQ:=V->V->V->Hp->(Hp->Prop)->Prop
noncomputable def zR (X:Cx) (t:zQ):Prop:=
 ∀(pins:List (Addr×Obj)) (s:Shared) (σ:St) (H:Hp) (o i v:V) (ov iv u:Value) (Q:Hp->Prop),Inv X pins σ H s->RelV o ov->RelV i iv->RelV v u->t o i v H Q->
  wpAny (model X.prog X.w) X.A (setItem ov iv u) (λ _ s'=>∃H',Inv X pins σ H' s'/\Q H') X.xe s
section
variable {X:Cx} {pos:Pos}
noncomputable def yJ (i:Nat):TG:=λ v σ H Q=>Q (σ.set i (some v)) H
theorem wg {i:Nat} {x:Str} (hN:X.N.Nodup) (hi:X.N[i]?=some x) (hx:Loc X.env.scope x) (hf:X.fn x=true\/X.env.scope.names.lookup x=some .local:=by first | exact .inl rfl | exact .inr rfl | assumption):PG X (.Name x pos) (yJ i):=by
 intro pins s σ H v u Q I r h
 exact wpAny_assign_Name (fU I hN hi hx r (λ s' I'=>⟨_,H,I',h⟩) hf)
noncomputable def Ek:TGs:=λ vs σ H Q=>vs=[]/\Q σ H
noncomputable def Cb (t:TG) (u:TGs):TGs:=λ vs σ H Q=>∃v r,vs=v::r/\t v σ H fun σ' H'=>u r σ' H' Q
theorem wj:PGs X [] Ek:=by
 intro pins s σ H vs us Q I r h
 obtain ⟨e,h⟩:=h
 subst e
 cases r
 exact assignInOrder_nil ⟨σ,H,I,h⟩
theorem sQ {e:Expr} {es:List Expr} {t:TG} {u:TGs} (h1:PG X e t) (h2:PGs X es u)
  (hs:(assignEach (e::es) X.env).map (·.2)=assign e X.env::(assignEach es X.env).map (·.2):=by rfl):PGs X (e::es) (Cb t u):=by
 intro pins s σ H vs us Q I r h
 obtain ⟨v,vr,e1,h⟩:=h
 subst e1
 cases r with
 | cons r rr=>
  rw [hs]
  refine assignInOrder_cons (thn (h1 pins s σ H _ _ _ I r h) λ _ s1 ⟨σ1,H1,I1,q1⟩=>?_)
  exact h2 pins s1 σ1 H1 _ _ Q I1 rr q1
noncomputable def El (K:PySem.W.Frag) (n:Nat) (t:TGs):TG:=λ v σ H Q=>∃a xs,v=.ref a/\SqT K H a xs/\xs.length=n/\t xs σ H Q
theorem zS {es:List Expr} {k:Nat} {t:TGs} {n:Nat} (hc:X.calm=true) (h:PGs X es t)
  (hn:(assignEach es X.env).length=n:=by rfl) (hst:(assignEach es X.env).findIdx? (·.1)=none:=by rfl):PG X (.Tuple es k pos) (El X.K n t):=by
 intro pins s σ H v u Q I r hw
 obtain ⟨a,xs,e1,hq,hl,hw⟩:=hw
 subst e1
 cases r
 obtain ⟨its,rv,ht,hz⟩:=I.tuple hq
 refine assign_Tuple_tuple (I.ok.hd hc) ht (by simp [hn,<-hl,rv.length]) hst λ h' hx=>?_
 have I1:Inv X pins σ H {s with heap:=h'}:=I.kept (t':=s.toks) λ b o e=>hx b o (Nat.ne_of_lt (Heap.lt_size e)) e
 exact h pins _ σ H xs _ Q I1 (by simpa using rv) hw
noncomputable def Em (to ti:TE) (t:zQ):TG:=λ v σ H Q=>to σ H λ o H1=>ti σ H1 λ i H2=>t o i v H2 λ H3=>Q σ H3
theorem zT {o i:Expr} {to ti:TE} {t:zQ} (ho:PE X o to) (hi:PE X i ti) (hs:zR X t)
  (ha:∀v,assign (.Subscript o i pos) X.env v=(do
   let ov <-holding [v] (eval o X.env)
   let iv <-holding [v,ov] (eval i X.env)
   standAt pos
   holding [v,ov,iv] (setItem ov iv v)
   release [v,ov,iv] []):=by intro _; rfl):PG X (.Subscript o i pos) (Em to ti t):=by
 intro pins s σ H v u Q I r h
 rw [ha]
 refine wpAny_bind (wpAny_holding (thn (ho pins s σ H _ I h) λ ov s1 ⟨x,H1,I1,r1,q1⟩=>?_))
 refine wpAny_bind (wpAny_holding (thn (hi pins s1 σ H1 _ I1 q1) λ iv s2 ⟨y,H2,I2,r2,q2⟩=>?_))
 refine wpAny_bind (wpAny_standAt (wpAny_bind (wpAny_holding (thn (hs pins s2 σ H2 x y v ov iv u _ I2 r1 r2 r q2) λ _ s3 ⟨H3,I3,q3⟩=>?_))))
 exact wpAny_release ⟨σ,H3,I3,q3⟩
noncomputable def Cd (te:TE) (g:TG):TS:=λ D σ H=>te σ H λ x H1=>g x σ H1 D.nx
theorem zU {tg e:Expr} {te:TE} {g:TG} (he:PE X e te) (hg:PG X tg g) (hs:swapsWithSole [tg] e pos.line X.env=pure false:=by rfl) (hw:swappedStores [tg] e X.env=pure none:=by rfl)
  (h1:(assignEach [tg] X.env).map (·.2)=[assign tg X.env]:=by rfl):PS X (.Assign [tg] e pos) (Cd te g):=by
 intro pins s σ H D I h
 refine wpAny_Assign_stores (thn (he pins s σ H _ I h) λ v s1 ⟨x,H1,I1,r1,q1⟩=>?_) hs hw
 rw [h1]
 exact thn (hg pins s1 σ H1 x v _ I1 r1 q1) λ _ s2 q=>q
theorem zV {i:Nat} {x:Str} {e:Expr} {te:TE} {pos':Pos} (hN:X.N.Nodup) (hi:X.N[i]?=some x) (hx:Loc X.env.scope x) (he:PE X e te) (hs:swapsWith e (some (.Name x pos')) pos.line X.env=pure false:=by rfl) (hf:X.fn x=true\/X.env.scope.names.lookup x=some .local:=by first | exact .inl rfl | exact .inr rfl | assumption) :
  PS X (.Assign [.Name x pos'] e pos) (Cd te (yJ i)):=by
 intro pins s σ H D I h
 refine wpAny_Assign_Name (thn (he pins s σ H _ I h) λ v s1 ⟨y,H1,I1,r1,q1⟩=>?_) hs
 exact fU I1 hN hi hx r1 (λ s2 I2=>⟨_,H1,I2,q1⟩) hf
noncomputable def En (i j:Nat) (ta:TA):TS:=λ D σ H=>ta σ H λ vs H1=>∃v w,vs=[v,w]/\D.nx ((σ.set i (some v)).set j (some w)) H1
theorem zW {i j:Nat} {x y:Str} {a b:Expr} {ta:TA} {px py pt:Pos} {kt k2 pt2} (hc:X.calm=true) (hN:X.N.Nodup) (hi:X.N[i]?=some x) (hj:X.N[j]?=some y) (hij:i≠j)
  (hx:X.env.scope.names.lookup x=some .local) (hy:X.env.scope.names.lookup y=some .local) (ha:PA X [a,b] ta)
  (hw:swappedStores [.Tuple [.Name x px,.Name y py] kt pt] (.Tuple [a,b] k2 pt2) X.env=pure (some [x,y]))
  (hs:swapsWithSole [.Tuple [.Name x px,.Name y py] kt pt] (.Tuple [a,b] k2 pt2) pos.line X.env=pure false:=by rfl) :
  PS X (.Assign [.Tuple [.Name x px,.Name y py] kt pt] (.Tuple [a,b] k2 pt2) pos) (En i j ta):=by
 intro pins s σ H D I h
 rw [exec_Assign_arm]
 refine wpAny_bind (wpAny_standAt ?_)
 rw [hs]
 refine wpAny_bind (wpAny_pure ?_)
 rw [if_neg (by decide)]
 refine wpAny_bind (Tuple_ (thn (ha _ pins s σ H _ I h) λ us s1 ⟨vs,H1,I1,r1,q1⟩=>?_))
 obtain ⟨v,w,e1,q1⟩:=q1
 subst e1
 obtain ⟨u1,u2,rfl,rv,rw'⟩:∃u1 u2,us=[u1,u2]/\RelV v u1/\RelV w u2:=by
  cases r1 with
  | cons p q=>
   cases q with
   | cons p' q'=>
    cases q'
    exact ⟨_,_,rfl,p,p'⟩
 refine wpAny_newObj_type ?_ (by show 2<=sizeLine; decide)
 have I2:Inv X pins σ H1 {s1 with heap:=s1.heap.push {cls:=.type "tuple",data:=.seq [u1,u2].toArray}}:=I1.kept (t':=s1.toks) λ b o e=>Heap.get?_push_of_some _ e
 rw [hw]
 refine wpAny_bind (wpAny_pure ?_)
 show wpAny (model X.prog X.w) X.A (do rule "assign.swapped-stores"; let items <-unpackItems (.ref s1.heap.objs.size) 2 none; assignInOrder [λ v=>bindName X.env y v,λ v=>bindName X.env x v] items.reverse; pure Flow.next) _ _ _
 refine wpAny_bind (wpAny_rule (wpAny_bind (unpackItems_tuple (items:=#[u1,u2]) (I.ok.hd hc) (IsTup.new s1.heap _) λ h' hx'=>?_)))
 have I3:=I2.kept (h':=h') (t':=s1.toks) λ b o e=>hx' b o (Nat.ne_of_lt (Heap.lt_size e)) e
 show wpAny _ _ (assignInOrder [λ v=>bindName X.env y v,λ v=>bindName X.env x v] [u2,u1] >>= λ _=>pure Flow.next) _ _ _
 refine wpAny_bind (assignInOrder_cons (wpAny_bindName (fU I3 hN hj (.inl hy) rw' (λ s2 I4=>?_) (.inr hy))))
 refine assignInOrder_cons (wpAny_bindName (fU I4 hN hi (.inl hx) rv (λ s3 I5=>assignInOrder_nil (wpAny_pure ?_)) (.inr hx)))
 rw [List.set_comm _ _ (Ne.symm hij)] at I5
 exact ⟨_,H1,I5,q1⟩
end
section
variable {X:Cx} {pos:Pos}
end
set_option genInjectivity false in
structure It where
  go:Nat->Hp->Prop
  yld:Nat->Hp->V->Hp->Prop
  stop:Nat->Hp->Prop
noncomputable def fu (X:Cx) (pins:List (Addr×Obj)) (H:Hp) (b:Addr):Prop:=
  H b=none/\b≠X.env.locals/\b∉X.fs/\(b∈X.ex\/X.s₀.heap.objs.size<=b)/\(∀x c,X.env.cells.lookup x=some c->c≠b)/\∀p∈X.pn++pins,p.1≠b
theorem Inv.ku {X:Cx} {pins:List (Addr×Obj)} {σ:St} {H H':Hp} {s:Shared} {b:Addr} (I:Inv X pins σ H s) (hb:s.heap.objs.size<=b) (hn:H' b=none):fu X pins H' b:=by
  refine ⟨hn,Nat.ne_of_gt (Nat.lt_of_lt_of_le I.lt hb),I.D9 hb,.inr (Nat.le_trans I.sz hb),λ x c e z=>?_,λ p hp z=>?_⟩
  · obtain ⟨v,q⟩:=I.cell x c e
    exact absurd (Nat.lt_of_lt_of_le q.lt (by rw [z]; exact hb)) (Nat.lt_irrefl _)
  · exact absurd (Nat.lt_of_lt_of_le (Heap.lt_size (I.pin p hp).1) (by rw [z]; exact hb)) (Nat.lt_irrefl _)
structure Turn (P:Program) (w:World) (K:PySem.W.Frag) (tg:Expr) (J:It) (fp:List Addr) (it:Addr) (tn:Nat->Heap->Prop):Prop where
  mem:it∈fp
  obj:∀i h,tn i h->∀b∈fp,∃o,h.get? b=some o/\∀v,o.data≠.cell v
  keep:∀i h h',tn i h->(∀b∈fp,∀o,h.get? b=some o->h'.get? b=some o)->tn i h'
  item:∀(X:Cx),X.prog=P->X.w=w->X.K=K->X.calm=true->∀(i:Nat) (pins:List (Addr×Obj)) (s:Shared) (σ:St) (H:Hp) (E:Value->Shared->Prop),Inv X pins σ H s->(∀b∈fp,fu X pins H b)->tn i s.heap->J.go i H->
    wpAny (model P w) X.A (pyNext (.ref it)) (λ r s1=>∃u,r=some u/\
      wpAny (model P w) X.A (letOwnedTupleGo tg (.ref it) u) (λ _ s2=>∃x H',Inv X pins σ H' s2/\RelV x u/\J.yld i H x H'/\tn (i+1) s2.heap/\∀b∈fp,H' b=none) E s1) E s
  done:∀(X:Cx),X.prog=P->X.w=w->X.K=K->X.calm=true->∀(i:Nat) (pins:List (Addr×Obj)) (s:Shared) (σ:St) (H:Hp) (E:Value->Shared->Prop),Inv X pins σ H s->(∀b∈fp,fu X pins H b)->tn i s.heap->J.stop i H->
    wpAny (model P w) X.A (pyNext (.ref it)) (λ r s1=>r=none/\Inv X pins σ H s1) E s
  self:∀(A:Around) (i:Nat) (s:Shared) (Q:Value->Shared->Prop) (E:Value->Shared->Prop),tn i s.heap->Q (.ref it) s->wpAny (model P w) A (pyIter (.ref it)) Q E s
abbrev TI:=St->Hp->(It->Hp->Prop)->Prop
noncomputable def PIE (X:Cx) (pins:List (Addr×Obj)) (σ:St) (tg:Expr) (R:It->Hp->Prop) (itv:Value) (s2:Shared):Prop:=
  ∃(it:Addr) (fp:List Addr) (tn:Nat->Heap->Prop) (J:It) (H':Hp),itv=.ref it/\Inv X pins σ H' s2/\Turn X.prog X.w X.K tg J fp it tn/\tn 0 s2.heap/\(∀b∈fp,fu X pins H' b)/\R J H'
noncomputable def PI (X:Cx) (tg iter:Expr) (wi:TI):Prop:=
  ∀(pins:List (Addr×Obj)) (s:Shared) (σ:St) (H:Hp) (R:It->Hp->Prop),Inv X pins σ H s->wi σ H R->
    wpAny (model X.prog X.w) X.A (eval iter X.env) (λ v s1=>wpAny (model X.prog X.w) X.A (pyIter v) (PIE X pins σ tg R) X.xe s1) X.xe s
theorem pG {M:Model} {A:Around} {E:Value->Shared->Prop} {s:Shared} {tg:Expr} {it:Addr} {u:Value} {o:Obj} {n:String} {vs:Array Value} {Q:Unit->Shared->Prop} (ho:s.heap.get? it=some o) (hc:o.cls=.type n) (hd:o.data=.fields vs)
    (hn:["enumerate","zip","dict_itemiterator","dict_reverseitemiterator","odict_iterator","itertools.zip_longest","itertools.pairwise"].contains n=false) (hQ:Q () s):wpAny M A (letOwnedTupleGo tg (.ref it) u) Q E s:=by
  unfold letOwnedTupleGo
  cases tg<;>first
    | exact wpAny_pure hQ
    | (cases u<;>first
        | exact wpAny_pure hQ
        | (refine wpAny_bind (wpAny_load ho ?_)
           rw [hc,hd]
           show wpAny M A (if (["enumerate","zip","dict_itemiterator","dict_reverseitemiterator","odict_iterator","itertools.zip_longest","itertools.pairwise"].contains n&&vs[0]?==some (rawInt _))=true then _ else _) Q E s
           rw [if_neg (by intro h; rw [hn,Bool.false_and] at h; cases h)]
           exact wpAny_pure hQ))
noncomputable def Itl (K:PySem.W.Frag) (a:Addr):It:=
  ⟨λ i H=>∃xs x,SqL K H a xs/\xs[i]?=some x,λ i H x H'=>H'=H/\∀xs,SqL K H a xs->xs[i]?=some x,λ i H=>∃xs,SqL K H a xs/\xs.length<=i⟩
noncomputable def Itt (K:PySem.W.Frag) (a:Addr):It:=
  ⟨λ i H=>∃xs x,SqT K H a xs/\xs[i]?=some x,λ i H x H'=>H'=H/\∀xs,SqT K H a xs->xs[i]?=some x,λ i H=>∃xs,SqT K H a xs/\xs.length<=i⟩
noncomputable def Itr (lo:Int) (n:Nat):It:=⟨λ i _=>i < n,λ i H x H'=>H'=H/\x=.int (lo+i),λ i _=>n<=i⟩
theorem qH {P:Program} {w:World} {K:PySem.W.Frag} {tg:Expr} (a it:Addr):Turn P w K tg (Itl K a) [it] it (λ i h=>h.IsListIter it a i) where
  mem:=by simp
  obj:=λ i h st b hb=>by
    have e:b=it:=by simpa using hb
    subst e
    obtain ⟨o,e,c,d⟩:=st
    exact ⟨o,e,λ v z=>by rw [d] at z; cases z⟩
  keep:=λ i h h' st k=>st.at λ o e=>k it (by simp) o e
  item:=by
    intro X hP hw hK hc i pins s σ H E I hf st hg
    subst hP hw hK
    obtain ⟨xs,x,hq,hx⟩:=hg
    obtain ⟨its,rv,p,hz⟩:=I.list hq
    obtain ⟨u,hu,ru⟩:=rv.get hx
    obtain ⟨f0,f1,f2,f3,f4,f5⟩:=hf it (by simp)
    refine wpAny_pyNext_list_item st p.isList (x:=u) (by simpa using hu) λ h' st' sb=>?_
    have I1:Inv X pins σ H {s with heap:=h'}:=I.turned (t':=s.toks) (λ b o hb e=>(sb.2 b hb).trans e) f0 f1 f3 f4 f5
    obtain ⟨o,e,c,d⟩:=id st'
    exact ⟨u,rfl,pG (s:={s with heap:=h'}) e c d (by decide) ⟨x,H,I1,ru,⟨rfl,λ ys hy=>by rw [I.iL hy hq]; exact hx⟩,st',λ b hb=>(hf b hb).1⟩⟩
  done:=by
    intro X hP hw hK hc i pins s σ H E I hf st hg
    subst hP hw hK
    obtain ⟨xs,hq,hx⟩:=hg
    obtain ⟨its,rv,p,hz⟩:=I.list hq
    obtain ⟨f0,f1,f2,f3,f4,f5⟩:=hf it (by simp)
    have hl:=rv.length
    exact wpAny_pyNext_list_end (I.ok.hd hc) st p.isList (by simp; omega) λ h' eb=>⟨rfl,I.turned (t':=s.toks) (λ b o hb e=>eb b o hb e) f0 f1 f3 f4 f5⟩
  self:=λ _ _ _ _ _ st h=>wpAny_pyIter_listiter st h
theorem nA {P:Program} {w:World} {K:PySem.W.Frag} {tg:Expr} (a it:Addr):Turn P w K tg (Itt K a) [it] it (λ i h=>h.IsTupleIter it a i) where
  mem:=by simp
  obj:=λ i h st b hb=>by
    have e:b=it:=by simpa using hb
    subst e
    obtain ⟨o,e,c,d⟩:=st
    exact ⟨o,e,λ v z=>by rw [d] at z; cases z⟩
  keep:=λ i h h' st k=>st.at λ o e=>k it (by simp) o e
  item:=by
    intro X hP hw hK hc i pins s σ H E I hf st hg
    subst hP hw hK
    obtain ⟨xs,x,hq,hx⟩:=hg
    obtain ⟨its,rv,p,hz⟩:=I.tuple hq
    obtain ⟨u,hu,ru⟩:=rv.get hx
    obtain ⟨f0,f1,f2,f3,f4,f5⟩:=hf it (by simp)
    refine wpAny_pyNext_tuple_item st (show s.heap.IsTuple a its.toArray from p) (x:=u) (by simpa using hu) λ h' st' sb=>?_
    have I1:Inv X pins σ H {s with heap:=h'}:=I.turned (t':=s.toks) (λ b o hb e=>(sb.2 b hb).trans e) f0 f1 f3 f4 f5
    obtain ⟨o,e,c,d⟩:=id st'
    exact ⟨u,rfl,pG (s:={s with heap:=h'}) e c d (by decide) ⟨x,H,I1,ru,⟨rfl,λ ys hy=>by rw [I.gn hy hq]; exact hx⟩,st',λ b hb=>(hf b hb).1⟩⟩
  done:=by
    intro X hP hw hK hc i pins s σ H E I hf st hg
    subst hP hw hK
    obtain ⟨xs,hq,hx⟩:=hg
    obtain ⟨its,rv,p,hz⟩:=I.tuple hq
    obtain ⟨f0,f1,f2,f3,f4,f5⟩:=hf it (by simp)
    have hl:=rv.length
    exact wpAny_pyNext_tuple_end (I.ok.hd hc) st (show s.heap.IsTuple a its.toArray from p) (by simp; omega) λ h' eb=>⟨rfl,I.turned (t':=s.toks) (λ b o hb e=>eb b o hb e) f0 f1 f3 f4 f5⟩
  self:=λ _ _ _ _ _ st h=>wpAny_pyIter_tupleiter st h
theorem nB {P:Program} {w:World} {K:PySem.W.Frag} {tg:Expr} (it:Addr) (lo:Int) (n:Nat):Turn P w K tg (Itr lo n) [it] it (λ i h=>IsRangeIter h it (lo+(i:Nat)*1) ((n:Int) - (i:Nat)) 1) where
  mem:=by simp
  obj:=λ i h st b hb=>by
    have e:b=it:=by simpa using hb
    subst e
    exact ⟨_,st,λ v z=>by
      have z':Data.fields _=Data.cell v:=z
      cases z'⟩
  keep:=λ i h h' st k=>k it (by simp) _ st
  item:=by
    intro X hP hw hK hc i pins s σ H E I hf st hg
    subst hP hw hK
    obtain ⟨f0,f1,f2,f3,f4,f5⟩:=hf it (by simp)
    have W:=Walks.range (prog:=X.prog) (w:=X.w) (I.ok.hd hc) it lo 1 n
    refine W.item i s _ _ hg st λ v h' tk hv st' kk=>?_
    obtain ⟨t,rfl⟩:=hv
    have I1:Inv X pins σ H {s with heap:=h',toks:=tk}:=I.turned (λ b o hb e=>kk b o (by simpa using hb) e) f0 f1 f3 f4 f5
    refine ⟨_,rfl,pG (s:={s with heap:=h',toks:=tk}) (n:="range_iterator") st' rfl rfl (by decide) ⟨.int (lo+i),H,I1,⟨t,?_⟩,⟨rfl,rfl⟩,st',λ b hb=>(hf b hb).1⟩⟩
    rw [Int.mul_one]
  done:=by
    intro X hP hw hK hc i pins s σ H E I hf st hg
    subst hP hw hK
    obtain ⟨f0,f1,f2,f3,f4,f5⟩:=hf it (by simp)
    exact wpAny_pyNext_range_end (I.ok.hd hc) st (by have:n<=i:=hg; omega) λ h' eb=>⟨rfl,I.turned (t':=s.toks) (λ b o hb e=>eb b o hb e) f0 f1 f3 f4 f5⟩
  self:=λ _ _ _ _ _ st h=>wpAny_pyIter_rangeiter st h
end L2
namespace L2
open PySem PySem.Spec PyProof.Rows
section
variable {X:Cx} {tg:Expr}
noncomputable def Ce (K:PySem.W.Frag) (tl:TE):TI:=fun σ H R=>tl σ H λ x H1=>∃a,x=.ref a/\(∃xs,SqL K H1 a xs)/\R (Itl K a) H1
noncomputable def Eo (K:PySem.W.Frag) (tl:TE):TI:=fun σ H R=>tl σ H λ x H1=>∃a,x=.ref a/\(∃xs,SqT K H1 a xs)/\R (Itt K a) H1
theorem wk {l:Expr} {tl:TE} (hl:PE X l tl):PI X tg l (Ce X.K tl):=by
 intro pins s σ H R I h
 refine thn (hl pins s σ H _ I h) λ v s1 ⟨x,H1,I1,r1,q1⟩=>?_
 obtain ⟨a,e,⟨xs,hq⟩,q⟩:=q1
 subst e
 cases r1
 obtain ⟨its,rv,p,hz⟩:=I1.list hq
 refine wpAny_pyIter_list p.isList ?_
 refine ⟨s1.heap.objs.size,[s1.heap.objs.size],_,_,H1,rfl,I1.kept (t':=s1.toks) λ b o e=>Heap.get?_push_of_some _ e,qH a _,⟨_,Heap.get?_push_size _ rfl,rfl,rfl⟩,λ b hb=>?_,q⟩
 have e:b=s1.heap.objs.size:=by simpa using hb
 subst e
 exact I1.ku (Nat.le_refl _) (I1.hok.fresh (Nat.le_refl _))
theorem zX {l:Expr} {tl:TE} (hl:PE X l tl):PI X tg l (Eo X.K tl):=by
 intro pins s σ H R I h
 refine thn (hl pins s σ H _ I h) λ v s1 ⟨x,H1,I1,r1,q1⟩=>?_
 obtain ⟨a,e,⟨xs,hq⟩,q⟩:=q1
 subst e
 cases r1
 obtain ⟨its,rv,p,hz⟩:=I1.tuple hq
 refine wpAny_pyIter_tuple (show s1.heap.IsTuple a its.toArray from p) ?_
 refine ⟨s1.heap.objs.size,[s1.heap.objs.size],_,_,H1,rfl,I1.kept (t':=s1.toks) λ b o e=>Heap.get?_push_of_some _ e,nA a _,⟨_,Heap.get?_push_size _ rfl,rfl,rfl⟩,λ b hb=>?_,q⟩
 have e:b=s1.heap.objs.size:=by simpa using hb
 subst e
 exact I1.ku (Nat.le_refl _) (I1.hok.fresh (Nat.le_refl _))
theorem lR {pins:List (Addr×Obj)} {σ:St} {H:Hp} {s:Shared} {R:It->Hp->Prop} {E:Value->Shared->Prop} {lo hi:Int} {t u v:Tok} {tk:Nat} (I:Inv X pins σ H s) (h1:-(2^62)<=lo) (h2:lo < 2^62) (h3:-(2^62)<=hi) (h4:hi < 2^62)
  (q:R (Itr lo (hi - lo).toNat) H):wpAny (model X.prog X.w) X.A (pyIter (.ref s.heap.objs.size)) (PIE X pins σ tg R) E {s with heap:=s.heap.push {cls:=.type "range",data:=.fields #[.int lo t,.int hi u,.int 1 v]},toks:=tk}:=by
 refine wpAny_pyIter_range (IsRange.new ..) (small_one h1 h2 h3 h4) ?_
 have I1:Inv X pins σ H {s with heap:=s.heap.push {cls:=.type "range",data:=.fields #[.int lo t,.int hi u,.int 1 v]},toks:=tk}:=I.kept λ b o e=>Heap.get?_push_of_some _ e
 refine ⟨(s.heap.push {cls:=.type "range",data:=.fields #[.int lo t,.int hi u,.int 1 v]}).objs.size,[(s.heap.push {cls:=.type "range",data:=.fields #[.int lo t,.int hi u,.int 1 v]}).objs.size],_,_,H,rfl,
  I1.kept (t':=tk) λ b o e=>Heap.get?_push_of_some _ e,nB _ lo (hi - lo).toNat,?_,λ b hb=>?_,q⟩
 ·have e1:lo+((0:Nat):Int)*1=lo:=by simp
  have e2:(((hi - lo).toNat:Nat):Int) - ((0:Nat):Int)=Builtin.Range.rangeSize lo hi 1:=by rw [rangeSize_one]; split<;>omega
  show IsRangeIter _ _ (lo+((0:Nat):Int)*1) ((((hi - lo).toNat:Nat):Int) - ((0:Nat):Int)) 1
  rw [e1,e2]
  exact Heap.get?_push_size _ rfl
 ·have e:b=(s.heap.push {cls:=.type "range",data:=.fields #[.int lo t,.int hi u,.int 1 v]}).objs.size:=by simpa using hb
  subst e
  exact I1.ku (Nat.le_refl _) (I1.hok.fresh (Nat.le_refl _))
noncomputable def Cg (ta:TA):TI:=fun σ H R=>ta σ H λ vs H1=>∃j:Int,vs=[.int j]/\-(2^62)<=j/\j < 2^62/\R (Itr 0 j.toNat) H1
noncomputable def Cj (ta:TA):TI:=fun σ H R=>ta σ H λ vs H1=>∃i j:Int,vs=[.int i,.int j]/\(-(2^62)<=i/\i < 2^62/\-(2^62)<=j/\j < 2^62)/\R (Itr i (j - i).toNat) H1
theorem qI {a:Expr} {ta:TA} {p pos:Pos} (hg:Gl X "range") (hm:X.mg "range"=none) (ha:PA X [a] ta) (hs:starEach [a] X.env=[(false,eval a X.env)]:=by rfl):PI X tg (.Call (.Name "range" p) [a] [] pos) (Cg ta):=by
 intro pins s σ H R I h
 refine Call_ (dD I hg hm boot_range (PyProof.Rows.callWith_type1 (thn (ha pos pins s σ H _ I h) λ us s1 ⟨vs,H1,I1,r1,q1⟩=>?_) hs rfl))
 obtain ⟨j,e,q1,q2,q⟩:=q1
 subst e
 cases r1 with
 | cons r rr=>
  cases rr
  obtain ⟨t,rfl⟩:=r
  exact call_range_1 (lR I1 (by omega) (by omega) q1 q2 (by simpa using q))
theorem qJ {a b:Expr} {ta:TA} {p pos:Pos} (hg:Gl X "range") (hm:X.mg "range"=none) (ha:PA X [a,b] ta) (hs:starEach [a,b] X.env=[(false,eval a X.env),(false,eval b X.env)]:=by rfl) (hs2:starEach [b] X.env=[(false,eval b X.env)]:=by rfl) :
  PI X tg (.Call (.Name "range" p) [a,b] [] pos) (Cj ta):=by
 intro pins s σ H R I h
 refine Call_ (dD I hg hm boot_range (PyProof.Rows.callWith_type1 (thn (ha pos pins s σ H _ I h) λ us s1 ⟨vs,H1,I1,r1,q1⟩=>?_) (by rw [hs,hs2]) (by rw [hs2]; rfl)))
 obtain ⟨i,j,e,⟨q1,q2,q3,q4⟩,q⟩:=q1
 subst e
 cases r1 with
 | cons r rr=>
  cases rr with
  | cons r' rr=>
   cases rr
   obtain ⟨t,rfl⟩:=r
   obtain ⟨t',rfl⟩:=r'
   exact call_range_2 (lR I1 q1 q2 q3 q4 q)
noncomputable def Ep (wi:TI) (g:TG) (tb:TS):TS:=λ D σ H=>wi σ H λ J H1=>∃W:Nat->Nat->St->Hp->Prop,(∃m,W 0 m σ H1)/\∀i m σ H,W i m σ H->
 (J.stop i H/\D.nx σ H)\/(J.go i H/\∃N:St->Hp->Prop,(∀σ' H',N σ' H'->∃m',m' < m/\W (i+1) m' σ' H')/\∀x H',J.yld i H x H'->g x σ H' fun σ2 H2=>tb {D with nx:=N,ct:=N,bk:=D.nx} σ2 H2)
noncomputable def iM (fp:List Addr) (h:Heap):List (Addr×Obj):=fp.filterMap λ b=>(h.get? b).map λ o=>(b,o)
theorem dR {fp:List Addr} {h:Heap} {b:Addr} {o:Obj} (hb:b∈fp) (e:h.get? b=some o):(b,o)∈iM fp h:=List.mem_filterMap.mpr ⟨b,hb,by rw [e]; rfl⟩
theorem qK {fp:List Addr} {h:Heap} {p:Addr×Obj} (hp:p∈iM fp h):p.1∈fp/\h.get? p.1=some p.2:=by
 obtain ⟨b,hb,e⟩:=List.mem_filterMap.mp hp
 cases q:h.get? b with
 | none=>rw [q] at e; cases e
 | some o=>
  rw [q] at e
  have e':(b,o)=p:=Option.some.inj e
  subst e'
  exact ⟨hb,q⟩
theorem Inv.pinned {pins:List (Addr×Obj)} {σ:St} {H:Hp} {s:Shared} {fp:List Addr} (I:Inv X pins σ H s) (hf:∀b∈fp,fu X pins H b) (ho:∀b∈fp,∃o,s.heap.get? b=some o/\∀v,o.data≠.cell v):Inv X (pins++iM fp s.heap) σ H s:=
 I.pF λ p hp=>(List.mem_append.mp hp).elim (λ z=>I.pin p (List.mem_append_right _ z)) λ z=>by
  obtain ⟨hb,e⟩:=qK z
  obtain ⟨f0,f1,f2,_⟩:=hf p.1 hb
  obtain ⟨o,e',d⟩:=ho p.1 hb
  rw [e] at e'; cases e'
  exact ⟨e,f0,f1,f2,d⟩
theorem Inv.fV {pins pl:List (Addr×Obj)} {σ:St} {H:Hp} {s:Shared} (I:Inv X (pins++pl) σ H s):Inv X pins σ H s:=I.pF λ p hp=>I.pin p (List.mem_append_right _ (List.mem_append_left _ hp))
theorem zY {iter:Expr} {body:List Stmt} {wi:TI} {g:TG} {tb:TS} {pos:Pos} (hp:PassesOwn (model X.prog X.w) X.A X.env X.xe) (hc:X.calm=true) (hi:PI X tg iter wi) (hg:PG X tg g) (hb:PSs X body tb)
  (hs:∀x,foldedSetIterable iter X.env x=pure x:=by intro _; rfl):PS X (.For tg iter body [] pos) (Ep wi g tb):=by
 intro pins s σ H D I h
 refine wpAny_For (thn (hi pins s σ H _ I h) λ v s1 h1=>thn h1 λ itv s2 h2=>?_) hs
 obtain ⟨it,fp,tn,J,H2,e,I2,T,st2,f2,W,⟨m0,w0⟩,turn⟩:=h2
 subst e
 have stat:∀{H':Hp},(∀b∈fp,H' b=none)->∀b∈fp,fu X pins H' b:=λ hn b hb=>⟨hn b hb,(f2 b hb).2⟩
 refine codeAny_forLoop_any (λ n s'=>∃i σ' H',Inv X pins σ' H' s'/\tn i s'.heap/\(∀b∈fp,H' b=none)/\W i n σ' H') ?_ m0 ⟨0,σ,H2,I2,st2,λ b hb=>(f2 b hb).1,w0⟩
 rintro n s3 ⟨i,σ3,H3,I3,st3,fr3,w3⟩
 rcases turn i n σ3 H3 w3 with ⟨stop,qn⟩ | ⟨go,N,hN,step⟩
 ·refine wpAny_passesOwn hp (thn (T.done X rfl rfl rfl hc i pins s3 σ3 H3 X.xe I3 (stat fr3) st3 stop) λ r s4 ⟨hr,I4⟩=>?_)
  subst hr
  exact wpAny_execs_nil ⟨σ3,H3,I4,qn⟩
 ·refine wpAny_passesOwn hp (thn (T.item X rfl rfl rfl hc i pins s3 σ3 H3 X.xe I3 (stat fr3) st3 go) λ r s4 ⟨u,hr,h4⟩=>?_)
  subst hr
  refine wpAny_passesOwn hp (thn h4 λ _ s5 ⟨x,H5,I5,r5,y5,st5,fr5⟩=>?_)
  have I5':=I5.pinned (stat fr5) (T.obj _ _ st5)
  refine wpAny_passesOwn hp (thn (hg _ s5 σ3 H5 x u _ I5' r5 (step x H5 y5)) λ _ s6 ⟨σ6,H6,I6,q6⟩=>?_)
  refine wpAny_passesOwn hp (thn (hb _ s6 σ6 H6 _ I6 q6) λ f s7 q7=>?_)
  have again:∀{σ7:St} {H7:Hp},Inv X (pins++iM fp s5.heap) σ7 H7 s7->N σ7 H7->∃m,m < n/\∃i σ' H',Inv X pins σ' H' s7/\tn i s7.heap/\(∀b∈fp,H' b=none)/\W i m σ' H':=λ {σ7 H7} I7 n7=>by
   obtain ⟨m',hm,w7⟩:=hN σ7 H7 n7
   refine ⟨m',hm,i+1,σ7,H7,I7.fV,T.keep _ _ _ st5 λ b hb o e=>(I7.pin (b,o) (List.mem_append_right _ (List.mem_append_right _ (dR hb e)))).1,λ b hb=>?_,w7⟩
   obtain ⟨o,e,d⟩:=T.obj _ _ st5 b hb
   exact (I7.pin (b,o) (List.mem_append_right _ (List.mem_append_right _ (dR hb e)))).2.1
  cases f with
  | next=>obtain ⟨σ7,H7,I7,n7⟩:=q7; exact again I7 n7
  | cont=>obtain ⟨σ7,H7,I7,n7⟩:=q7; exact again I7 n7
  | brk=>obtain ⟨σ7,H7,I7,q7⟩:=q7; exact ⟨σ7,H7,I7.fV,q7⟩
  | ret v=>obtain ⟨x7,σ7,H7,I7,r7,q7⟩:=q7; exact ⟨x7,σ7,H7,I7.fV,r7,q7⟩
end
end L2
namespace L2
open PySem PySem.Spec PyProof.Rows
abbrev R2:=V->V->Hp->VK->Prop
noncomputable def OpR (X:Cx) (f:Value->Value->Sem Value) (r:R2):Prop:=
 ∀(pins:List (Addr×Obj)) (s:Shared) (σ:St) (H:Hp) (x y:V) (v u:Value) (Q:VK),Inv X pins σ H s->RelV x v->RelV y u->r x y H Q->
  wpAny (model X.prog X.w) X.A (f v u) (EP X pins σ Q) X.xe s
noncomputable def UnR (X:Cx) (f:Value->Sem Value) (r:V->Hp->VK->Prop):Prop:=
 ∀(pins:List (Addr×Obj)) (s:Shared) (σ:St) (H:Hp) (x:V) (v:Value) (Q:VK),Inv X pins σ H s->RelV x v->r x H Q->
  wpAny (model X.prog X.w) X.A (f v) (EP X pins σ Q) X.xe s
noncomputable def bL (X:Cx) (f:Value) (r:List V->Hp->VK->Prop):Prop:=
 ∀(pins:List (Addr×Obj)) (s:Shared) (σ:St) (H:Hp) (xs:List V) (us:List Value) (Q:VK),Inv X pins σ H s->Vals xs us->r xs H Q->
  wpAny (model X.prog X.w) X.A (call f us) (EP X pins σ Q) X.xe s
noncomputable def Er (X:Cx) (r:V->Hp->(Bool->Hp->Prop)->Prop):Prop:=
 ∀(pins:List (Addr×Obj)) (s:Shared) (σ:St) (H:Hp) (x:V) (v:Value) (Q:Bool->Hp->Prop),Inv X pins σ H s->RelV x v->r x H Q->
  wpAny (model X.prog X.w) X.A (truthy v) (TP X pins σ Q) X.xe s
noncomputable def tOp (r:R2) (ta tb:TE):TE:=fun σ H Q=>ta σ H λ x H1=>tb σ H1 λ y H2=>r x y H2 Q
noncomputable def tUn (r:V->Hp->VK->Prop) (ta:TE):TE:=fun σ H Q=>ta σ H λ x H1=>r x H1 Q
noncomputable def rI (C:Int->Int->Prop) (g:Int->Int->V):R2:=λ x y H Q=>∃i j,x=.int i/\y=.int j/\C i j/\Q (g i j) H
noncomputable def rI0 (g:Int->Int->V):R2:=λ x y H Q=>∃i j,x=.int i/\y=.int j/\Q (g i j) H
noncomputable def rU (g:Int->V):V->Hp->VK->Prop:=λ x H Q=>∃i,x=.int i/\Q (g i) H
section
variable {X:Cx} {a b c:Expr} {ta tb tc:TE} {pos:Pos}
theorem zZ (ha:PE X a ta) (hb:PE X b tb) {pins:List (Addr×Obj)} {s:Shared} {σ:St} {H:Hp} {R:V->V->Hp->Prop} (I:Inv X pins σ H s)
  (h:ta σ H λ x H1=>tb σ H1 λ y H2=>R x y H2) {Q:Value->Shared->Prop} {f:Value->Value->Sem Value}
  (hf:∀v u s2 x y H2,Inv X pins σ H2 s2->RelV x v->RelV y u->R x y H2->wpAny (model X.prog X.w) X.A (f v u) Q X.xe s2) :
  wpAny (model X.prog X.w) X.A (eval a X.env) (λ v s₁=>wpAny (model X.prog X.w) X.A (eval b X.env) (λ u s₂=>wpAny (model X.prog X.w) X.A (f v u) Q X.xe s₂) X.xe s₁) X.xe s:=by
 refine thn (ha pins s σ H _ I h) λ v s1 ⟨x,H1,I1,r1,q1⟩=>?_
 refine thn (hb pins s1 σ H1 _ I1 q1) λ u s2 ⟨y,H2,I2,r2,q2⟩=>?_
 exact hf v u s2 x y H2 I2 r1 r2 q2
theorem Ck {op:Operator} {r:R2} (ho:OpR X (binaryOp op) r) (ha:PE X a ta) (hb:PE X b tb):PE X (.BinOp a op b pos) (tOp r ta tb):=by
 intro pins s σ H Q I h
 exact wpAny_BinOp (zZ ha hb I h λ v u s2 x y H2 I2 rx ry q=>ho pins s2 σ H2 x y v u Q I2 rx ry q)
theorem Co {op:UnaryOp} {r:V->Hp->VK->Prop} (ho:UnR X (unaryOp op) r) (ha:PE X a ta):PE X (.UnaryOp op a pos) (tUn r ta):=by
 intro pins s σ H Q I h
 exact UnaryOp_ (thn (ha pins s σ H _ I h) λ v s1 ⟨x,H1,I1,r1,q1⟩=>ho pins s1 σ H1 x v Q I1 r1 q1)
theorem opI {f:Value->Value->Sem Value} {C:Int->Int->Prop} {g:Int->Int->Int}
  (rule:∀(i j:Int) (t u:Tok) (s:Shared) (Q:Value->Shared->Prop) (E:Value->Shared->Prop),C i j->Q (.int (g i j) s.toks) {s with toks:=s.toks+1}->wpAny (model X.prog X.w) X.A (f (.int i t) (.int j u)) Q E s) :
  OpR X f (rI C λ i j=>.int (g i j)):=by
 intro pins s σ H x y v u Q I rx ry h
 obtain ⟨i,j,rfl,rfl,hc,q⟩:=h
 obtain ⟨t,rfl⟩:=rx
 obtain ⟨t',rfl⟩:=ry
 exact rule i j t t' s _ _ hc ⟨.int (g i j),H,I.tok _,⟨_,rfl⟩,q⟩
theorem z5 {f:Value->Value->Sem Value} {g:Int->Int->Int}
  (rule:∀(i j:Int) (t u:Tok) (s:Shared) (Q:Value->Shared->Prop) (E:Value->Shared->Prop),Q (.int (g i j) s.toks) {s with toks:=s.toks+1}->wpAny (model X.prog X.w) X.A (f (.int i t) (.int j u)) Q E s) :
  OpR X f (rI0 λ i j=>.int (g i j)):=by
 intro pins s σ H x y v u Q I rx ry h
 obtain ⟨i,j,rfl,rfl,q⟩:=h
 obtain ⟨t,rfl⟩:=rx
 obtain ⟨t',rfl⟩:=ry
 exact rule i j t t' s _ _ ⟨.int (g i j),H,I.tok _,⟨_,rfl⟩,q⟩
theorem wm {f:Value->Value->Sem Value} {g:Int->Int->Bool}
  (rule:∀(i j:Int) (t u:Tok) (s:Shared) (Q:Value->Shared->Prop) (E:Value->Shared->Prop),Q (.bool (g i j)) s->wpAny (model X.prog X.w) X.A (f (.int i t) (.int j u)) Q E s) :
  OpR X f (rI0 λ i j=>.bl (g i j)):=by
 intro pins s σ H x y v u Q I rx ry h
 obtain ⟨i,j,rfl,rfl,q⟩:=h
 obtain ⟨t,rfl⟩:=rx
 obtain ⟨t',rfl⟩:=ry
 exact rule i j t t' s _ _ ⟨.bl (g i j),H,I,rfl,q⟩
noncomputable def Cp (i j:Int):Prop:=0 < j/\j < 1073741824
noncomputable def Cq (i j:Int):Prop:=0<=j/\j<=1000000/\i.natAbs < 2^64
noncomputable def wu (i j:Int):Prop:=(-(2^64) < i/\i < 2^64)\/(-(2^64) < j/\j < 2^64)
theorem wu.ok {i j:Int} (h:wu i j):IntMulOk i j:=by
 rcases h with ⟨h1,h2⟩ | ⟨h1,h2⟩
 ·exact .of_left (intBits_le_64 h1 h2)
 ·exact .of_right (intBits_le_64 h1 h2)
theorem nE (k:Nat):(0:Int)<=2^k:=by
 rw [two_pow_cast]
 exact Int.natCast_nonneg _
theorem z6:OpR X (binaryOp .Add) (rI0 λ i j=>.int (i+j)):=z5 λ _ _ _ _ _ _ _ q=>add_int q
theorem z7:OpR X (binaryOp .Sub) (rI0 λ i j=>.int (i - j)):=z5 λ _ _ _ _ _ _ _ q=>sub_int q
theorem z8:OpR X (binaryOp .Mult) (rI wu λ i j=>.int (i*j)):=opI λ _ _ _ _ _ _ _ hc q=>mul_int q hc.ok
theorem wA:OpR X (binaryOp .FloorDiv) (rI Cp λ i j=>.int (i / j)):=opI λ i j _ _ _ _ _ hc q=>by
 have h1:(0:Int) < j:=hc.1
 have h2:j < 1073741824:=hc.2
 exact floordiv_int (by omega) (by rw [Int.fdiv_eq_ediv_of_nonneg i (by omega)]; exact q) (.inl (PyProof.noPylong_small (by omega)))
theorem z9:OpR X (binaryOp .Mod) (rI (λ _ j=>0 < j) λ i j=>.int (i%j)):=opI λ i j _ _ _ _ _ hc q=>by
 have h1:(0:Int) < j:=hc
 exact mod_int' (by omega) (by rw [Int.fmod_eq_emod_of_nonneg i (by omega)]; exact q)
theorem Aa:OpR X (binaryOp .Pow) (rI Cq λ i j=>.int (i^j.toNat)):=opI λ _ _ _ _ _ _ _ hc q=>pow_int_small hc.1 hc.2.1 hc.2.2 q
theorem Ab:OpR X (binaryOp .LShift) (rI Cq λ i j=>.int (i*2^j.toNat)):=opI λ _ _ _ _ _ _ _ hc q=>lshift_int_small hc.1 hc.2.1 hc.2.2 q
theorem Ac:OpR X (binaryOp .RShift) (rI (λ _ j=>0<=j) λ i j=>.int (i / 2^j.toNat)):=opI λ i j _ _ _ _ _ hc q=>
 rshift_int hc (by rw [Int.fdiv_eq_ediv_of_nonneg i (nE _)]; exact q)
theorem Ad:OpR X (binaryOp .BitAnd) (rI0 λ i j=>.int (Builtin.bitAnd i j)):=z5 λ _ _ _ _ _ _ _ q=>and_int q
theorem unI {f:Value->Sem Value} {g:Int->Int}
  (rule:∀(i:Int) (t:Tok) (s:Shared) (Q:Value->Shared->Prop) (E:Value->Shared->Prop),Q (.int (g i) s.toks) {s with toks:=s.toks+1}->wpAny (model X.prog X.w) X.A (f (.int i t)) Q E s) :
  UnR X f (rU λ i=>.int (g i)):=by
 intro pins s σ H x v Q I rx h
 obtain ⟨i,rfl,q⟩:=h
 obtain ⟨t,rfl⟩:=rx
 exact rule i t s _ _ ⟨.int (g i),H,I.tok _,⟨_,rfl⟩,q⟩
theorem Ae:UnR X (unaryOp .USub) (rU λ i=>.int (-i)):=unI λ _ _ _ _ _ q=>neg_int q
end
section
variable {X:Cx} {a b c:Expr} {ta tb tc:TE} {pos:Pos}
theorem iN {pins:List (Addr×Obj)} {σ:St} {H:Hp} {s:Shared} {Q:VK} {k k':Bool} (I:Inv X pins σ H s) (q:Q (.bl k) H) (e:k=k'):EP X pins σ Q (.bool k') s:=by
 subst e
 exact ⟨.bl k,H,I,rfl,q⟩
theorem Cr:OpR X (compareOp .Lt) (rI0 λ i j=>.bl (decide (i < j))):=wm λ _ _ _ _ _ _ _ q=>lt_int q
theorem Ct:OpR X (compareOp .LtE) (rI0 λ i j=>.bl (decide (i<=j))):=wm λ _ _ _ _ _ _ _ q=>le_int q
theorem Cu:OpR X (compareOp .Gt) (rI0 λ i j=>.bl (decide (j < i))):=wm λ _ _ _ _ _ _ _ q=>gt_int q
theorem Cv:OpR X (compareOp .GtE) (rI0 λ i j=>.bl (decide (j<=i))):=wm λ _ _ _ _ _ _ _ q=>ge_int q
theorem qL:OpR X (compareOp .Lt) (λ x y H Q=>∃i j,x=.str i/\y=.str j/\Q (.bl (decide (i.cps.toList < j.cps.toList))) H):=by
 intro pins s σ H x y v u Q I rx ry h
 obtain ⟨i,j,rfl,rfl,q⟩:=h
 obtain ⟨t,rfl⟩:=rx
 obtain ⟨t',rfl⟩:=ry
 exact lt_str (iN I q rfl)
theorem qM:OpR X (compareOp .In) (λ x y H Q=>∃i j,x=.str i/\y=.str j/\Q (.bl (!(Builtin.Str.occurrences j i 0 j.length 1).isEmpty)) H):=by
 intro pins s σ H x y v u Q I rx ry h
 obtain ⟨i,j,rfl,rfl,q⟩:=h
 obtain ⟨t,rfl⟩:=rx
 obtain ⟨t',rfl⟩:=ry
 exact in_str (iN I q rfl)
theorem Af:OpR X (compareOp .Is) (λ x y H Q=>y=.non/\Q (.bl (decide (x=.non))) H):=by
 intro pins s σ H x y v u Q I rx ry h
 obtain ⟨rfl,q⟩:=h
 cases ry
 refine is_none_gen (iN I q ?_)
 cases x<;>first
  | (cases rx; rfl)
  | (obtain ⟨t,rfl⟩:=rx; rfl)
theorem wB:OpR X (compareOp .IsNot) (λ x y H Q=>y=.non/\Q (.bl (!decide (x=.non))) H):=by
 intro pins s σ H x y v u Q I rx ry h
 obtain ⟨rfl,q⟩:=h
 cases ry
 refine isnot_none_gen (iN I q ?_)
 cases x<;>first
  | (cases rx; rfl)
  | (obtain ⟨t,rfl⟩:=rx; rfl)
theorem wC {op:CmpOp} {r:R2} (ho:OpR X (compareOp op) r) (ha:PE X a ta) (hb:PE X b tb) (hm:behindInMarks op b=false):PE X (.Compare a [op] [b] pos) (tOp r ta tb):=by
 intro pins s σ H Q I h
 exact wpAny_Compare1 (zZ ha hb I h λ v u s2 x y H2 I2 rx ry q=>ho pins s2 σ H2 x y v u Q I2 rx ry q) hm
noncomputable def yK (t:TE):TT:=fun σ H Q=>t σ H λ x H'=>∃k,x=.bl k/\Q k H'
theorem wD {op:CmpOp} {r:R2} (ho:OpR X (compareOp op) r) (ha:PE X a ta) (hb:PE X b tb) (hm:behindInMarks op b=false):PT X (.Compare a [op] [b] pos) (yK (tOp r ta tb)):=by
 intro pins s σ H Q I h
 refine wpAny_isTrue_Compare1 (thn (ha pins s σ H _ I h) λ v s1 ⟨x,H1,I1,r1,q1⟩=>thn (hb pins s1 σ H1 _ I1 q1) λ u s2 ⟨y,H2,I2,r2,q2⟩=>
  thn (ho pins s2 σ H2 x y v u _ I2 r1 r2 q2) λ c s3 ⟨z,H3,I3,r3,k,e,q3⟩=>?_) hm
 subst e
 cases r3
 exact wpAny_truthy_bool ⟨H3,I3,q3⟩
noncomputable def nF (r r':R2) (ta tb tc:TE):TE:=fun σ H Q=>ta σ H λ x H1=>tb σ H1 λ y H2=>r x y H2 λ z H3=>∃k,z=.bl k/\
 (if k=true then tc σ H3 λ w' H4=>r' y w' H4 Q else Q (.bl false) H3)
theorem sR {op op':CmpOp} {r r':R2} (ho:OpR X (compareOp op) r) (ho':OpR X (compareOp op') r') (ha:PE X a ta) (hb:PE X b tb) (hc:PE X c tc)
  (hm:lastMarks [op,op'] [b,c]=false:=by with_unfolding_all rfl):PE X (.Compare a [op,op'] [b,c] pos) (nF r r' ta tb tc):=by
 intro pins s σ H Q I h
 refine Compare_chain (thn (ha pins s σ H _ I h) λ v s1 ⟨x,H1,I1,r1,q1⟩=>chain_link (thn (hb pins s1 σ H1 _ I1 q1) λ u s2 ⟨y,H2,I2,r2,q2⟩=>
  thn (ho pins s2 σ H2 x y v u _ I2 r1 r2 q2) λ d s3 ⟨z,H3,I3,r3,k,e,q3⟩=>?_)) hm
 subst e
 cases r3
 refine wpAny_truthy_bool ?_
 cases k with
 | false=>exact ite_ff ⟨.bl false,H3,I3,rfl,q3⟩
 | true=>exact ite_tt (chain_last (thn (hc pins s3 σ H3 _ I3 q3) λ w' s4 ⟨z',H4,I4,r4,q4⟩=>ho' pins s4 σ H4 y z' u w' Q I4 r2 r4 q4))
theorem sS {op op':CmpOp} {r r':R2} (ho:OpR X (compareOp op) r) (ho':OpR X (compareOp op') r') (ha:PE X a ta) (hb:PE X b tb) (hc:PE X c tc)
  (hm:lastMarks [op,op'] [b,c]=false:=by with_unfolding_all rfl):PT X (.Compare a [op,op'] [b,c] pos) (yK (nF r r' ta tb tc)):=by
 intro pins s σ H Q I h
 refine isTrue_chain (thn (ha pins s σ H _ I h) λ v s1 ⟨x,H1,I1,r1,q1⟩=>test_link (thn (hb pins s1 σ H1 _ I1 q1) λ u s2 ⟨y,H2,I2,r2,q2⟩=>
  thn (ho pins s2 σ H2 x y v u _ I2 r1 r2 q2) λ d s3 ⟨z,H3,I3,r3,k,e,q3⟩=>?_)) hm
 subst e
 cases r3
 refine wpAny_truthy_bool ?_
 cases k with
 | false=>
  obtain ⟨k',e',q'⟩:=q3
  cases e'
  exact ite_ff ⟨H3,I3,q'⟩
 | true=>
  refine ite_tt (test_last (thn (hc pins s3 σ H3 _ I3 q3) λ w' s4 ⟨z',H4,I4,r4,q4⟩=>thn (ho' pins s4 σ H4 y z' u w' _ I4 r2 r4 q4) λ d' s5 ⟨z2,H5,I5,r5,k2,e2,q5⟩=>?_))
  subst e2
  cases r5
  exact wpAny_truthy_bool ⟨H5,I5,q5⟩
noncomputable def Ag (K:PySem.W.Frag) (x:V) (H:Hp) (k:Bool):Prop:=
 match x with
 | .non=>k=false
 | .bl b=>k=b
 | .int i=>k=(i != 0)
 | .str y=>y.length<=sizeLine/\k=((y.length:Int) != 0)
 | .byt y=>y.size<=sizeLine/\k=((y.size:Int) != 0)
 | .ref p=>(∃xs,SqL K H p xs/\k=!xs.isEmpty)\/(∃xs,SqT K H p xs/\k=!xs.isEmpty)\/∃kvs,H p=some (.dK kvs)/\k=!kvs.isEmpty
 | _=>False
theorem nI {κ:Type} {kvs:List (κ×V)} {vs:List (κ×Value)} (r:KV kvs vs):(!vs.isEmpty)=!kvs.isEmpty:=by
 cases r<;>rfl
theorem iO {xs:List V} {its:List Value} (r:Vals xs its):(!its.toArray.isEmpty)=!xs.isEmpty:=by
 cases r<;>simp
theorem fK:(sizeLine:Nat) < 2^63:=by rw [sizeLine_eq]; decide
theorem Ah:Er X (λ x H Q=>∃k,Ag X.K x H k/\Q k H):=by
 intro pins s σ H x v Q I rx h
 obtain ⟨k,e,q⟩:=h
 have hl:=fK
 have hs:sizeLine=16777216:=sizeLine_eq
 cases x with
 | non=>
  cases rx
  have e':k=false:=e
  subst e'
  exact truthy_none ⟨H,I,q⟩
 | bl b=>
  cases rx
  have e':k=b:=e
  subst e'
  exact wpAny_truthy_bool ⟨H,I,q⟩
 | int i=>
  obtain ⟨t,rfl⟩:=rx
  have e':k=(i != 0):=e
  subst e'
  exact PySem.P.truthy_int ⟨H,I,q⟩
 | str y=>
  obtain ⟨t,rfl⟩:=rx
  obtain ⟨hy,e'⟩:y.length<=sizeLine/\k=((y.length:Int) != 0):=e
  subst e'
  exact PySem.P.truthy_str (by omega) ⟨H,I.tok _,q⟩
 | byt y=>
  obtain ⟨t,rfl⟩:=rx
  obtain ⟨hy,e'⟩:y.size<=sizeLine/\k=((y.size:Int) != 0):=e
  subst e'
  exact PySem.W.truthy_bytes (by omega) ⟨H,I.tok _,q⟩
 | ref p=>
  cases rx
  have e':(∃xs,SqL X.K H p xs/\k=!xs.isEmpty)\/(∃xs,SqT X.K H p xs/\k=!xs.isEmpty)\/∃kvs,H p=some (.dK kvs)/\k=!kvs.isEmpty:=e
  rcases e' with ⟨xs,hx,e'⟩ | ⟨xs,hx,e'⟩ | ⟨kvs,hx,e'⟩
  ·subst e'
   obtain ⟨its,r,pl,hz⟩:=I.list hx
   have hlen:=r.length
   exact wpAny_truthy_list pl.isList (by simp only [List.size_toArray]; omega) ⟨H,I.tok _,by rw [iO r]; exact q⟩
  ·subst e'
   obtain ⟨its,r,pl,hz⟩:=I.tuple hx
   have hlen:=r.length
   exact truthy_tuple pl (by simp only [List.size_toArray]; omega) ⟨H,I.tok _,by rw [iO r]; exact q⟩
  ·subst e'
   obtain ⟨hz,hS,vs,r,m⟩:kvs.length<=sizeLine/\(p==sysModules)=false/\∃vs,KV kvs vs/\s.heap.DictOf (dm X.prog X.w) p vs:=I.hok p _ hx
   have hlen:kvs.length=vs.length:=Paired.length r
   exact wpAny_truthy_dict hS m (by omega) ⟨H,I.tok _,by rw [nI r]; exact q⟩
 | _=>exact (show False from e).elim
theorem sU (ha:PE X a ta) (he:∀whole,isTrue a X.env whole=(do let v <-whole; standAt a.pos; holding [v] (truthy v))) :
  PT X a (fun σ H Q=>ta σ H λ x H'=>∃k,Ag X.K x H' k/\Q k H'):=by
 intro pins s σ H Q I h
 exact isTrue_plain (thn (ha pins s σ H _ I h) λ v s1 ⟨x,H1,I1,r1,q1⟩=>Ah pins s1 σ H1 x v Q I1 r1 q1) (he _)
theorem nJ:OpR X (binaryOp .Add) (λ x y H Q=>∃i j,x=.str i/\y=.str j/\i.length+j.length<=sizeLine/\Q (.str (i++j)) H):=by
 intro pins s σ H x y v u Q I rx ry h
 obtain ⟨i,j,rfl,rfl,hz,q⟩:=h
 obtain ⟨t,rfl⟩:=rx
 obtain ⟨t',rfl⟩:=ry
 exact add_str (λ t' tk=>⟨.str (i++j),H,I.tok _,⟨_,rfl⟩,q⟩) hz
theorem vals1 {x:V} {us:List Value} (r:Vals [x] us):∃u,us=[u]/\RelV x u:=by
 cases r with
 | cons r1 r2=>cases r2; exact ⟨_,rfl,r1⟩
theorem vals2 {x y:V} {us:List Value} (r:Vals [x,y] us):∃u w',us=[u,w']/\RelV x u/\RelV y w':=by
 cases r with
 | cons r1 r2=>
  cases r2 with
  | cons r3 r4=>cases r4; exact ⟨_,_,rfl,r1,r3⟩
theorem sV:bL X (.builtin "abs") (λ xs H Q=>∃i,xs=[.int i]/\Q (.int (if i < 0 then -i else i)) H):=by
 intro pins s σ H xs us Q I r h
 obtain ⟨i,rfl,q⟩:=h
 obtain ⟨u,rfl,t,rfl⟩:=vals1 r
 exact call_abs_int λ u tk=>⟨.int (if i < 0 then -i else i),H,I.tok _,⟨_,rfl⟩,q⟩
theorem qN (hc:X.calm=true):bL X (.builtin "max") (λ xs H Q=>∃i j,xs=[.int i,.int j]/\Q (.int (if j>i then j else i)) H):=by
 intro pins s σ H xs us Q I r h
 obtain ⟨i,j,rfl,q⟩:=h
 obtain ⟨u,w',rfl,⟨t,rfl⟩,⟨t',rfl⟩⟩:=vals2 r
 refine max_two_ints (I.ok.hd hc) λ h' tk k=>⟨_,H,I.kept k,?_,q⟩
 by_cases hj:j>i
 ·rw [if_pos hj,if_pos hj]; exact ⟨_,rfl⟩
 ·rw [if_neg hj,if_neg hj]; exact ⟨_,rfl⟩
theorem qO (hc:X.calm=true):bL X (.builtin "min") (λ xs H Q=>∃i j,xs=[.int i,.int j]/\Q (.int (if j < i then j else i)) H):=by
 intro pins s σ H xs us Q I r h
 obtain ⟨i,j,rfl,q⟩:=h
 obtain ⟨u,w',rfl,⟨t,rfl⟩,⟨t',rfl⟩⟩:=vals2 r
 refine min_two_ints (I.ok.hd hc) λ h' tk k=>⟨_,H,I.kept k,?_,q⟩
 by_cases hj:j < i
 ·rw [if_pos hj,if_pos hj]; exact ⟨_,rfl⟩
 ·rw [if_neg hj,if_neg hj]; exact ⟨_,rfl⟩
theorem jU:bL X (.type "int") (λ xs H Q=>(∃i,xs=[.int i]/\Q (.int i) H)\/∃k,xs=[.bl k]/\Q (.int (if k then 1 else 0)) H):=by
 intro pins s σ H xs us Q I r h
 rcases h with ⟨i,rfl,q⟩ | ⟨k,rfl,q⟩
 ·obtain ⟨u,rfl,t,rfl⟩:=vals1 r
  exact call_int_int ⟨.int i,H,I,⟨_,rfl⟩,q⟩
 ·obtain ⟨u,rfl,r1⟩:=vals1 r
  cases r1
  exact call_int_bool ⟨.int (if k then 1 else 0),H,I.tok _,⟨_,rfl⟩,q⟩
theorem lT:bL X (.builtin "divmod") (λ xs H Q=>∃i j,xs=[.int i,.int j]/\Cp i j/\∀p,H p=none->Q (.ref p) (upd H p (.tup [.int (i / j),.int (i%j)]))):=by
 intro pins s σ H xs us Q I r h
 obtain ⟨i,j,rfl,⟨h1,h2⟩,q⟩:=h
 obtain ⟨u,w',rfl,⟨t,rfl⟩,⟨t',rfl⟩⟩:=vals2 r
 refine divmod_int (by omega) ?_ (.inl (PyProof.noPylong_small (by omega)))
 rw [Int.fdiv_eq_ediv_of_nonneg i (by omega),Int.fmod_eq_emod_of_nonneg i (by omega)]
 have hn:H s.heap.objs.size=none:=I.hok.fresh (Nat.le_refl _)
 refine ⟨.ref s.heap.objs.size,_,?_,rfl,q _ hn⟩
 refine I.laid (λ b o e=>Heap.get?_push_of_some _ e) (Nat.le_refl _) ⟨by simp only [List.length_cons,List.length_nil]; rw [sizeLine_eq]; decide,[.int (i / j) s.toks,.int (i%j) (s.toks+1)],.cons ⟨_,rfl⟩ (.cons ⟨_,rfl⟩ .nil),?_⟩
 exact ⟨_,Heap.get?_push_size s.heap rfl,rfl,0,rfl⟩
end
end L2
namespace L2
open PySem PySem.Spec PyProof.Rows
structure lU (h:Heap) (x dx C:Addr) (mA:Str->Option Value):Prop where
 obj:h.get? x=some (PySem.W.instObj C dx)
 ns:h.Ns1 dx mA
 ne:dx≠x
theorem qP {h:Heap} {dx:Addr} {mA:Str->Option Value} (n:h.Ns1 dx mA):∃od,h.get? dx=some od/\∀name,PySem.W.lookIn name od=some (mA name):=by
 obtain ⟨o,es,ep,ho,hd,hk,_,hm⟩:=n
 refine ⟨o,ho,λ name=>?_⟩
 have e:=hm name
 unfold nsFind findBy at e
 rw [<-Array.find?_toList] at e
 unfold PySem.W.lookIn
 rw [hd]
 dsimp only
 split
 ·rename_i y q
  rw [q] at e
  exact congrArg some e
 ·rename_i q
  rw [q] at e
  have a:es.toList.any (·.refKey)=false:=by
   rw [List.any_eq_false]
   intro y hy
   obtain ⟨z,t,hkey⟩:=hk y (Array.mem_toList_iff.mp hy)
   simp [DictEntry.refKey,hkey]
  have a':¬es.toList.any (·.refKey)=true:=by rw [a]; exact Bool.false_ne_true
  rw [if_neg a']
  exact congrArg some e
theorem lU.look {h:Heap} {x dx C:Addr} {mA:Str->Option Value} (I:lU h x dx C mA):∃od,PySem.W.InstAt h x (PySem.W.instObj C dx) C (some od)/\∀name,PySem.W.lookIn name od=some (mA name):=
 let ⟨od,ho,hl⟩:=qP I.ns
 ⟨od,⟨I.obj,rfl,rfl,ho⟩,hl⟩
section
variable {prog:Program} {w:World} {A:Around} {E:Value->Shared->Prop} {s:Shared} {K:PySem.W.Frag} {x dx C f:Addr} {mA:Str->Option Value} {name:Str} {v:Value}
theorem get_map {expr:Bool} {Q:Value->Shared->Prop} (X:K.In s.heap) (I:lU s.heap x dx C mA) (hg:PySem.W.plainGet K C name=true) (hh:PySem.W.hasDictIn K C=true)
  (ha:PySem.W.findIn K (.ref C) name=some none) (hv:mA name=some v) (hv':PySem.W.handedIn v=true) (h:Q v {s with toks:=s.toks+1}) :
  wpAny (model prog w) A (getAttr (.ref x) name expr) Q E s:=by
 obtain ⟨od,J,hl⟩:=I.look
 exact PySem.W.get_value X J (PySem.W.plainGet_of hg).1 (PySem.W.findObj_own hh ha rfl (by rw [hl,hv])) hv' h
theorem sW {pl:Sem Bool} {Q:Value×List Value->Shared->Prop} (X:K.In s.heap) (I:lU s.heap x dx C mA) (hg:PySem.W.plainGet K C name=true)
  (hf:PySem.W.findIn K (.ref C) name=some (some (.ref f))) (ht:PySem.W.isFn K (.ref f)=true) (hv:mA name=none) (h:Q (.ref f,[.ref x]) s) :
  wpAny (model prog w) A (getMethod (.ref x) name pl) Q E s:=by
 obtain ⟨od,J,hl⟩:=I.look
 exact PySem.W.method_fn X J (PySem.W.plainGet_of hg).1 (PySem.W.plainGet_of hg).2 hf (beq_iff_eq.mp ht) (by show (PySem.W.lookIn name od).map (·.isSome)=some false; rw [hl,hv]; rfl) h
theorem wF {ns:List Str} {Q:Unit->Shared->Prop} (X:K.In s.heap) (I:lU s.heap x dx C mA)
  (hs:PySem.W.findIn K (.ref C) "__setattr__"=some (some (.builtin "object.__setattr__"))) (hp:PySem.W.plainOver K C=true) (ht:PySem.W.takerIn K C name=some none) (hh:PySem.W.hasDictIn K C=true)
  (hw:PySem.Within mA ns) (hsz:ns.length<=sizeLine)
  (h:∀h',lU h' x dx C (λ y=>if y=name then some v else mA y)->Heap.SameBut dx s.heap h'->Q () {s with heap:=h',toks:=s.toks+2}) :
  wpAny (model prog w) A (setAttr (.ref x) name v) Q E s:=by
 obtain ⟨od,J,hl⟩:=I.look
 refine PySem.W.set_plain X J hs (PySem.W.osa_open (s:={s with toks:=s.toks+1}) (r:=none) X J hp ht λ b=>?_)
 obtain ⟨cd,hc,hd'⟩:=PySem.W.any_some hh
 have hx:s.heap.get? x=some ⟨.ref C,some dx,.plain,#[]⟩:=I.obj
 refine wpAny_bind (wpAny_pure (wpAny_bind (wpAny_bind (wpAny_loadPart hx (wpAny_bind (PySem.W.Looks.here (s:={s with toks:=s.toks+1}) (PySem.W.looks_clsIn X hc) ?_))))))
 rw [hd']
 refine wpAny_pure (a:=some dx) (wpAny_bind (wpAny_pure (wpAny_bind ?_)))
 refine wpAny_nsSet1 (s:={s with toks:=s.toks+1}) I.ns λ h' hn2 hs2=>?_
 obtain ⟨oD,esD,epD,hoD,hdD,hcD⟩:=hn2.count (PySem.Within.cons name v hw)
 refine wpAny_bind (wpAny_lookBehind hoD (by rw [hdD]; exact pastItsLine_dict (Nat.le_trans hcD (by rw [List.length_cons]; omega))) ?_)
 exact wpAny_pure (h _ ⟨(hs2.2 _ (Ne.symm I.ne)).trans I.obj,hn2,I.ne⟩ hs2)
theorem sX {R:Result->Shared->Prop} {vs:List Value} {kw:List (Str×Value)} (X:K.In s.heap) (hm:PySem.W.makesIn K C=true)
  (hi:PySem.W.findIn K (.ref C) "__init__"=some (some (.ref f))) (hf:PySem.W.typeIn K (.ref f)=some (.type "function"))
  (h:codeAny (model prog w) (A.under (.builtin "type.__call__" ⟨.ref C::vs,kw⟩)) (.call (.ref f) ⟨.ref (s.heap.objs.size+1)::vs,kw⟩) (PySem.W.InitBack (s.heap.objs.size+1) R)
   {s with heap:=(s.heap.push PySem.W.emptyDict).push (PySem.W.instObj C s.heap.objs.size)}) :
  codeAny (model prog w) A (.call (.ref C) ⟨vs,kw⟩) R s:=by
 obtain ⟨hh,g,d,t,os⟩:=s
 exact PySem.W.make_core (PySem.W.makes_of X hm) (PySem.W.looks_findIn X hi) (λ self=>PySem.W.bind_fn X self hf) (.inl rfl) h
end
noncomputable def cM (f:Str) (v:V):List (Str×V)->List (Str×V)
 | []=>[(f,v)]
 | (g,x)::r=>if g=f then (g,v)::r else (g,x)::cM f v r
theorem gQ (f g:Str) (v:V):∀fs:List (Str×V),(cM f v fs).lookup g=if g=f then some v else fs.lookup g
 | []=>by
  show List.lookup g [(f,v)]=_
  by_cases h:g=f
  ·have hb:(g==f)=true:=beq_iff_eq.mpr h
   simp only [List.lookup,hb,if_pos h]
  ·have hb:(g==f)=false:=beq_eq_false_iff_ne.mpr h
   simp only [List.lookup,hb,if_neg h]
 | (k,x)::r=>by
  have ih:=gQ f g v r
  rw [show cM f v ((k,x)::r)=(if k=f then (k,v)::r else (k,x)::cM f v r) from rfl]
  by_cases hk:k=f
  ·rw [if_pos hk]
   by_cases h:g=k
   ·have hb:(g==k)=true:=beq_iff_eq.mpr h
    simp only [List.lookup,hb,if_pos (h.trans hk)]
   ·have hb:(g==k)=false:=beq_eq_false_iff_ne.mpr h
    simp only [List.lookup,hb,if_neg (λ e:g=f=>h (e.trans hk.symm))]
  ·rw [if_neg hk]
   by_cases h:g=k
   ·have hb:(g==k)=true:=beq_iff_eq.mpr h
    simp only [List.lookup,hb,if_neg (λ e:g=f=>hk (h.symm.trans e))]
   ·have hb:(g==k)=false:=beq_eq_false_iff_ne.mpr h
    simp only [List.lookup,hb]
    exact ih
theorem gp (f:Str) (v:V):∀fs:List (Str×V),f∈(cM f v fs).map (·.1)/\∀g,g∈fs.map (·.1)->g∈(cM f v fs).map (·.1)
 | []=>⟨by simp [cM],λ g h=>by simp at h⟩
 | (k,x)::r=>by
  obtain ⟨i1,i2⟩:=gp f v r
  rw [show cM f v ((k,x)::r)=(if k=f then (k,v)::r else (k,x)::cM f v r) from rfl]
  by_cases hk:k=f
  ·rw [if_pos hk]
   subst hk
   exact ⟨by simp,λ g h=>by simpa using h⟩
  ·rw [if_neg hk]
   refine ⟨?_,λ g h=>?_⟩
   ·rw [List.map_cons]
    exact List.mem_cons_of_mem _ i1
   ·rw [List.map_cons] at h ⊢
    rcases List.mem_cons.mp h with e | e
    ·exact List.mem_cons.mpr (.inl e)
    ·exact List.mem_cons_of_mem _ (i2 g e)
theorem gR (f:Str) (v:V):∀fs:List (Str×V),(cM f v fs).length<=fs.length+1
 | []=>by simp [cM]
 | (k,x)::r=>by
  have ih:=gR f v r
  rw [show cM f v ((k,x)::r)=(if k=f then (k,v)::r else (k,x)::cM f v r) from rfl]
  by_cases hk:k=f
  ·rw [if_pos hk,List.length_cons,List.length_cons]; omega
  ·rw [if_neg hk,List.length_cons,List.length_cons]; omega
theorem iI.some_of {v:V} {o:Option Value} (r:iI (some v) o):∃u,o=some u/\RelV v u:=by
 cases o with
 | none=>exact (show False from r).elim
 | some u=>exact ⟨u,rfl,r⟩
theorem iI.none_of {o:Option Value} (r:iI none o):o=none:=by
 cases o with
 | none=>rfl
 | some u=>exact (show False from r).elim
theorem qQ {v:V} {u:Value} (r:RelV v u):PySem.W.handedIn u=true:=by
 cases v with
 | non=>cases (show u=Value.none from r); rfl
 | bl b=>cases (show u=Value.bool b from r); rfl
 | int i=>obtain ⟨t,e⟩:=(show ∃t,u=Value.int i t from r); cases e; rfl
 | str x=>obtain ⟨t,e⟩:=(show ∃t,u=Value.str x t from r); cases e; rfl
 | byt b=>obtain ⟨t,e⟩:=(show ∃t,u=Value.bytes b t from r); cases e; rfl
 | flt b=>obtain ⟨t,e⟩:=(show ∃t,u=Value.float b t from r); cases e; rfl
 | ref a=>cases (show u=Value.ref a from r); rfl
 | ty n=>cases (show u=Value.type n from r); rfl
section
variable {P:Program} {w:World} {H H':Hp} {h h':Heap} {a C dx:Addr} {fs fs':List (Str×V)}
theorem pH (hok:HOk P w H h) (e:H a=some (.ins C dx fs)):∃mA,lU h a dx C mA/\(∀f,iI (fs.lookup f) (mA f))/\PySem.Within mA (fs.map (·.1))/\fs.length<=1000/\H dx=some (.own a):=by
 obtain ⟨d,z,ne,ob,mA,n,r,q⟩:=(show bA P w H h a (.ins C dx fs) from hok a _ e)
 exact ⟨mA,⟨ob,n,ne⟩,r,q,z,d⟩
end
structure Cls (K:PySem.W.Frag) (C:Addr):Prop where
 pg:PySem.W.plainGet K C Str.empty=true
 hd:PySem.W.hasDictIn K C=true
 po:PySem.W.plainOver K C=true
 sa:PySem.W.findIn K (.ref C) "__setattr__"=some (some (.builtin "object.__setattr__"))
theorem Cls.get {K:PySem.W.Frag} {C:Addr} (c:Cls K C) (f:Str):PySem.W.plainGet K C f=true:=c.pg
noncomputable def ef (K:PySem.W.Frag) (C:Addr) (f:Str):Prop:=PySem.W.findIn K (.ref C) f=some none
theorem ef.Cw {K:PySem.W.Frag} {C:Addr} {f:Str} (n:ef K C f):PySem.W.takerIn K C f=some none:=by
 unfold PySem.W.takerIn
 rw [show PySem.W.findIn K (.ref C) f=some none from n]
 rfl
structure Meth (K:PySem.W.Frag) (C:Addr) (m:Str) (f:Addr):Prop where
 at_:PySem.W.findIn K (.ref C) m=some (some (.ref f))
 fn:PySem.W.isFn K (.ref f)=true
 kp:PySem.W.keepIn K (.ref f)=true
section
variable {X:Cx} {pins:List (Addr×Obj)} {σ:St} {H:Hp} {s:Shared} {a C dx:Addr} {fs:List (Str×V)} {f:Str} {v:V} {A:Around} {E:Value->Shared->Prop}
theorem nK {y:V} {u:Value} {Q:Unit->Shared->Prop} (I:Inv X pins σ H s) (e:H a=some (.ins C dx fs)) (c:Cls X.K C) (n:ef X.K C f) (hl:fs.length < 1000) (ry:RelV y u)
  (h:∀s',Inv X pins σ (upd H a (.ins C dx (cM f y fs))) s'->Q () s'):wpAny (model X.prog X.w) A (setAttr (.ref a) f u) Q E s:=by
 obtain ⟨mA,O,r,wi,_,ho⟩:=pH I.hok e
 have hz:(fs.map (·.1)).length<=sizeLine:=by rw [List.length_map,sizeLine_eq]; omega
 refine wF I.kIn O c.sa c.po n.Cw c.hd wi hz λ h' O' sb=>h _ ?_
 have hd:∃o,h'.get? dx=some o:=let ⟨o,_,_,e',_⟩:=O'.ns; ⟨o,e'⟩
 refine I.write (x:=a) (e:=dx) (by rw [e]; exact True.intro) (.inr ho) (λ b q hb z=>(sb.2 b hb).trans z) hd ?_
 refine ⟨by rw [aj O.ne]; exact ho,?_,O.ne,O'.obj,_,O'.ns,λ g=>?_,λ g hg=>?_⟩
 ·have:=gR f y fs; omega
 ·show iI ((cM f y fs).lookup g) (if g=f then some u else mA g)
  rw [gQ]
  by_cases q:g=f
  ·rw [if_pos q,if_pos q]; exact ry
  ·rw [if_neg q,if_neg q]; exact r g
 ·by_cases q:g=f
  ·rw [q]; exact (gp f y fs).1
  ·refine (gp f y fs).2 g (wi g λ z=>hg ?_)
   show (if g=f then some u else mA g)=none
   rw [if_neg q]; exact z
theorem Inv.made (I:Inv X pins σ H s):Inv X pins σ (upd (upd H s.heap.objs.size (.own (s.heap.objs.size+1))) (s.heap.objs.size+1) (.ins C s.heap.objs.size []))
  {s with heap:=(s.heap.push PySem.W.emptyDict).push (PySem.W.instObj C s.heap.objs.size)}:=by
 have e1:(s.heap.push PySem.W.emptyDict).get? s.heap.objs.size=some PySem.W.emptyDict:=Heap.get?_push_size s.heap rfl
 have e2:((s.heap.push PySem.W.emptyDict).push (PySem.W.instObj C s.heap.objs.size)).get? (s.heap.objs.size+1)=some (PySem.W.instObj C s.heap.objs.size):=by
  have:=Heap.get?_push_size (s.heap.push PySem.W.emptyDict) (o:=PySem.W.instObj C s.heap.objs.size) rfl
  rwa [Heap.size_push] at this
 have e3:(s.heap.push PySem.W.emptyDict).Ns s.heap.objs.size (λ _=>none):=⟨PySem.W.emptyDict,#[],_,e1,rfl,(λ e he=>absurd he (by simp)),λ _=>rfl⟩
 have I1:=I.laid (a:=s.heap.objs.size) (o:=.own (s.heap.objs.size+1)) (h':=s.heap.push PySem.W.emptyDict) (t':=s.toks) (λ b u q=>Heap.get?_push_of_some _ q) (Nat.le_refl _) ⟨_,e1⟩
 refine I1.laid (a:=s.heap.objs.size+1) (o:=.ins C s.heap.objs.size []) (t':=s.toks) (λ b u q=>Heap.get?_push_of_some _ q) (Nat.le_of_eq (Heap.size_push _ _)) ?_
 have ne:s.heap.objs.size≠s.heap.objs.size+1:=Nat.ne_of_lt (Nat.lt_succ_self _)
 refine ⟨by rw [aj ne,aB],Nat.zero_le _,ne,e2,λ _=>none,(Heap.Ns1.of_empty e3).at λ o q=>Heap.get?_push_of_some _ q,λ _=>True.intro,λ y hy=>absurd rfl hy⟩
theorem wG {prog:Program} {w:World} {env:Env} {e:Expr} {f:Str} {pos:Pos} {s:Shared} {Q:Value->Shared->Prop} (hb:attributeBase e f env (eval e env)=eval e env)
  (h:wpAny (model prog w) A (eval e env) (λ o s₁=>wpAny (model prog w) A (getAttr o f true) Q E s₁) E s):wpAny (model prog w) A (eval (.Attribute e f pos) env) Q E s:=
 Attribute_any_ h (by rw [arm_eval_Attribute,hb])
end
noncomputable def Et (K:PySem.W.Frag) (ta tv:TE) (f:Str):TS:=λ D σ H=>tv σ H λ y H1=>ta σ H1 λ x H2=>∃a C dx fs,x=.ref a/\H2 a=some (.ins C dx fs)/\Cls K C/\ef K C f/\fs.length < 1000/\
 D.nx σ (upd H2 a (.ins C dx (cM f y fs)))
section
variable {X:Cx} {o e value:Expr} {f:Str} {pos pos' tpos:Pos} {ta tv:TE}
theorem Ai (ha:PE X o ta) (hv:PE X value tv) (hs:swapsWith value (some (.Attribute o f pos')) pos.line X.env=pure false):PS X (.Assign [.Attribute o f pos'] value pos) (Et X.K ta tv f):=by
 intro pins s σ H D I h
 refine plainObj_wpAny_Assign_Attribute (thn (hv pins s σ H _ I h) λ u s1 ⟨y,H1,I1,ry,q⟩=>thn (ha pins s1 σ H1 _ I1 q) λ ov s2 ⟨x,H2,I2,rx,a,C,dx,fs,ex,ea,c,n,l,q2⟩=>?_) hs
 subst ex
 obtain rfl:ov=Value.ref a:=rx
 exact nK I2 ea c n l ry λ s3 I3=>⟨σ,_,I3,q2⟩
end
section
variable {X:Cx} {pins:List (Addr×Obj)} {σ:St} {H:Hp} {s:Shared} {A:Around} {E:Value->Shared->Prop} {Q:Value->Shared->Prop} {c:Value} {b:Bool}
inductive ir (K:PySem.W.Frag) (H:Hp):V->Value->Prop where
 | non:ir K H .non (.type "NoneType")
 | bl (x:Bool):ir K H (.bl x) (.type "bool")
 | int (i:Int):ir K H (.int i) (.type "int")
 | str (x:Str):ir K H (.str x) (.type "str")
 | flt (x:UInt64):ir K H (.flt x) (.type "float")
 | lst {a:Addr} {xs:List V} (e:H a=some (.lst xs)):ir K H (.ref a) (.type "list")
 | frz {a:Addr} {o:Obj} {xs:List V} (e:H a=some (.frz o (.lst xs))):ir K H (.ref a) (.type "list")
 | tup {a:Addr} {xs:List V} (e:H a=some (.tup xs)):ir K H (.ref a) (.type "tuple")
 | dK {a:Addr} {kvs:List (Key×V)} (e:H a=some (.dK kvs)):ir K H (.ref a) (.type "dict")
 | dT {a:Addr} {kvs:List (List Key×V)} (e:H a=some (.dT kvs)):ir K H (.ref a) (.type "dict")
 | ins {a C dx:Addr} {fs:List (Str×V)} (e:H a=some (.ins C dx fs)) (cl:Cls K C) (ha:PySem.W.findIn K (.ref C) "__class__"=some (some (.builtin "object.__class__")))
   (hn:PySem.W.specialIn K (.builtin "object.__class__") "__get__"=some (some (.builtin "getset_descriptor.__get__"))) (htk:PySem.W.takesIn K (.builtin "object.__class__")=some true)
   (hm:PySem.W.mroIn K C (.type "object")=some true):ir K H (.ref a) (.ref C)
theorem eV {x:V} {u t:Value} (I:Inv X pins σ H s) (rx:RelV x u) (ty:ir X.K H x t) (e:PySem.W.kitOne X.K t c=some b) (h:∀tk,Q (.bool b) {s with toks:=tk}) :
  wpAny (model X.prog X.w) A (call (.builtin "isinstance") [u,c]) Q E s:=by
 cases ty with
 | non=>cases (show u=Value.none from rx); exact PySem.W.kia_one PySem.W.kitx_none I.kIn True.intro e (λ z=>nomatch z) h
 | bl y=>cases (show u=Value.bool y from rx); exact PySem.W.kia_one PySem.W.kitx_bool I.kIn True.intro e (λ z=>nomatch z) h
 | int i=>obtain ⟨t,q⟩:=(show ∃t,u=Value.int i t from rx); cases q; exact PySem.W.kia_one PySem.W.kitx_int I.kIn True.intro e (λ z=>nomatch z) h
 | str y=>obtain ⟨t,q⟩:=(show ∃t,u=Value.str y t from rx); cases q; exact PySem.W.kia_one PySem.W.kitx_str I.kIn True.intro e (λ z=>nomatch z) h
 | flt y=>obtain ⟨t,q⟩:=(show ∃t,u=Value.float y t from rx); cases q; exact PySem.W.kia_one PySem.W.kitx_float I.kIn True.intro e (λ z=>nomatch z) h
 | @lst a xs ea=>
  cases (show u=Value.ref a from rx)
  obtain ⟨_,_,n,_,h1⟩:=(show bA X.prog X.w H s.heap a (.lst xs) from I.hok a _ ea)
  exact PySem.W.kia_one PySem.W.kitx_list I.kIn ⟨_,h1,rfl⟩ e (λ z=>nomatch z) h
 | @frz a ob xs ea=>
  cases (show u=Value.ref a from rx)
  obtain ⟨_,_,_,n,_,h1⟩:=(show bA X.prog X.w H s.heap a (.frz ob (.lst xs)) from I.hok a _ ea)
  exact PySem.W.kia_one PySem.W.kitx_list I.kIn ⟨_,h1,rfl⟩ e (λ z=>nomatch z) h
 | @tup a xs ea=>
  cases (show u=Value.ref a from rx)
  obtain ⟨_,_,_,p⟩:=(show bA X.prog X.w H s.heap a (.tup xs) from I.hok a _ ea)
  obtain ⟨o,h1,h2,_⟩:=p
  exact PySem.W.kia_one PySem.W.kitx_tuple I.kIn ⟨o,h1,h2⟩ e (λ z=>nomatch z) h
 | @dK a kvs ea=>
  cases (show u=Value.ref a from rx)
  obtain ⟨_,_,vs,_,p⟩:=(show bA X.prog X.w H s.heap a (.dK kvs) from I.hok a _ ea)
  obtain ⟨o,es,ep,h1,h2,_⟩:=p
  exact PySem.W.kia_one PySem.W.kitx_dict I.kIn ⟨o,h1,h2.1⟩ e (λ z=>nomatch z) h
 | @dT a kvs ea=>
  cases (show u=Value.ref a from rx)
  obtain ⟨_,_,xs,_,o,es,ep,h1,h2,_⟩:=(show bA X.prog X.w H s.heap a (.dT kvs) from I.hok a _ ea)
  exact PySem.W.kia_one PySem.W.kitx_dict I.kIn ⟨o,h1,h2.1⟩ e (λ z=>nomatch z) h
 | @ins a C dx fs ea cl ha hn htk hm=>
  cases (show u=Value.ref a from rx)
  obtain ⟨mA,O,_⟩:=pH I.hok ea
  obtain ⟨od,J,_⟩:=O.look
  exact PySem.W.kia_one (PySem.W.kitx_own (cl.get _) cl.hd ha hn htk hm) I.kIn J e (λ z=>nomatch z) h
end
end L2
namespace L2
open PySem PySem.Spec PyProof.Rows
structure bZ (k:Nat) (A:Around):Prop where
 hd:A.handled=none
 dp:A.depth+3*k+5 < recursionLimit
 un:A.units+16*k+200 < cLine
 gd:A.guards=some []:=by rfl
theorem bZ.mono {j k:Nat} {A:Around} (r:bZ k A) (h:j<=k):bZ j A:=⟨r.hd,by have:=r.dp; omega,by have:=r.un; omega,r.gd⟩
theorem bZ.deeper {k:Nat} {A:Around} (r:bZ (k+1) A) (env:Env):bZ k (A.deeper env):=
 ⟨r.hd,by have:=r.dp; show A.depth+1+3*k+5 < _; omega,by have:=r.un; show A.units+3+16*k+200 < _; omega,r.gd⟩
theorem nM {A:Around} {C:Addr} {us:List Value} {kw:List (Str×Value)}:(A.under (.builtin "type.__call__" ⟨.ref C::us,kw⟩)).depth=A.depth+1:=by
 first | rfl | simp [Around.under,Code.weight,Code.isCreation,Code.isGuard,Code.isCaller,Code.frames,Code.isFrame,guardIds]
theorem nN {A:Around} {C:Addr} {us:List Value} {kw:List (Str×Value)}:(A.under (.builtin "type.__call__" ⟨.ref C::us,kw⟩)).units=A.units+1:=by
 first | rfl | simp [Around.under,Code.cUnits,Code.frames,Code.isFrame]
theorem lV {A:Around} {C:Addr} {us:List Value} {kw:List (Str×Value)}:(A.under (.builtin "type.__call__" ⟨.ref C::us,kw⟩)).guards=A.guards:=by
 first | rfl | (simp [Around.under,Code.guards,Code.isGuard,guardIds,pushGuards]; done) | (cases h:A.guards<;>simp [Around.under,Code.guards,Code.isGuard,guardIds,pushGuards,h])
theorem bZ.make {k:Nat} {A:Around} (r:bZ (k+1) A) (C:Addr) (us:List Value) (kw:List (Str×Value)):bZ k (A.under (.builtin "type.__call__" ⟨.ref C::us,kw⟩)):=
 ⟨r.hd,by have:=r.dp; rw [nM]; omega,by have:=r.un; rw [nN]; omega,by rw [lV]; exact r.gd⟩
theorem bZ.depth {k:Nat} {A:Around} (r:bZ k A):A.depth < recursionLimit:=by have:=r.dp; omega
theorem bZ.units {k:Nat} {A:Around} (r:bZ k A):A.units+64 < cLine:=by have:=r.un; omega
noncomputable def wH:TA:=λ _ H Q=>Q [] H
noncomputable def yL (ta:TE) (tr:TA):TA:=fun σ H Q=>ta σ H λ x H1=>tr σ H1 λ xs H2=>Q (x::xs) H2
section
variable {X:Cx} {e:Expr} {es:List Expr} {te:TE} {t:TA} {pos:Pos}
theorem dS:PA X [] wH:=λ _ _ _ _ H Q I h=>Calls.spliced_nil ⟨[],H,I,.nil,h⟩
theorem bU (ha:PE X e te) (hr:PA X es t) (hs:starEach (e::es) X.env=(false,eval e X.env)::starEach es X.env:=by rfl):PA X (e::es) (yL te t):=by
 intro pos pins s σ H Q I h
 rw [hs]
 show wpAny _ _ (spliced ((false,eval e X.env)::backTo pos (starEach es X.env))) _ _ s
 refine Calls.spliced_cons (thn (ha pins s σ H _ I h) λ u s1 ⟨x,H1,I1,r1,q1⟩=>?_)
 exact thn (hr pos pins s1 σ H1 _ I1 q1) λ us s2 ⟨xs,H2,I2,r2,q2⟩=>⟨x::xs,H2,I2,.cons r1 r2,q2⟩
noncomputable def Eu (t:TA):TE:=fun σ H Q=>t σ H λ xs H1=>xs.length<=sizeLine/\∀p,H1 p=none->Q (.ref p) (upd H1 p (.tup xs))
noncomputable def Ew (t:TA):TE:=fun σ H Q=>t σ H λ xs H1=>xs.length<=sizeLine/\∀p,H1 p=none->Q (.ref p) (upd H1 p (.lst xs))
theorem Aj {x1} (h:PA X es t):PE X (.Tuple es x1 pos) (Eu t):=by
 intro pins s σ H Q I hq
 refine wpAny_Tuple_spliced (thn (h pos pins s σ H _ I hq) λ us s1 ⟨xs,H1,I1,r,z,q⟩=>⟨by rw [<-r.length]; exact z,?_⟩)
 have hf:H1 s1.heap.objs.size=none:=I1.hok.fresh (Nat.le_refl _)
 refine ⟨.ref s1.heap.objs.size,upd H1 s1.heap.objs.size (.tup xs),I1.laid (t':=s1.toks) (λ b u e=>Heap.get?_push_of_some _ e) (Nat.le_refl _) ?_,rfl,q _ hf⟩
 exact ⟨z,us,r,⟨_,Heap.get?_push_size _ rfl,rfl,_,rfl⟩⟩
theorem Ak (h:PA X es t):PE X (.List es pos) (Ew t):=by
 intro pins s σ H Q I hq
 refine wpAny_List_spliced (thn (h pos pins s σ H _ I hq) λ us s1 ⟨xs,H1,I1,r,z,q⟩=>⟨by rw [<-r.length]; exact z,?_⟩)
 have hf:H1 s1.heap.objs.size=none:=I1.hok.fresh (Nat.le_refl _)
 refine ⟨.ref s1.heap.objs.size,upd H1 s1.heap.objs.size (.lst xs),I1.laid (t':=s1.toks) (λ b u e=>Heap.get?_push_of_some _ e) (Nat.le_refl _) ?_,rfl,q _ hf⟩
 exact ⟨z,us,0,r,Heap.get?_push_size _ rfl⟩
end
abbrev Sp:=List V->Hp->VK->XK->Prop
abbrev CXT:=List Env->Hp->Shared->XK->Value->Shared->Prop
structure nO (P:Program) (w:World) (K:PySem.W.Frag) (mg:Str->Option Value) (base:Heap) (A:Around) (outer:List Env) (s:Shared) (H:Hp):Prop where
 frames:A.frames=some outer
 mod:Mod K mg base
 bs:∀b o,base.get? b=some o->s.heap.get? b=some o/\H b=none
 bsz:base.objs.size<=s.heap.objs.size
 ig:s.heap.FunFrames base outer
 frf:∀b∈frs outer,H b=none
 hok:HOk P w H s.heap
 bare:AllBare s.gens
noncomputable def CE (outer:List Env) (P:Program) (w:World) (H:Hp) (s:Shared) (Q:VK) (u:Value) (s':Shared):Prop:=
 ∃v H',s'.os=s.os/\AllBare s'.gens/\Un (frs outer) [] H H' s.heap s'.heap/\HOk P w H' s'.heap/\RelV v u/\Q v H'
noncomputable def CR (CX:CXT) (outer:List Env) (P:Program) (w:World) (H:Hp) (s:Shared) (Q:VK) (E:XK) (r:Result) (s':Shared):Prop:=
 match r with
 | .ok (.ret u)=>CE outer P w H s Q u s'
 | .ok _=>False
 | .error e=>CX outer H s E e s'
structure dH (P:Program) (w:World) (K:PySem.W.Frag) (mg:Str->Option Value) (base:Heap) (CX:CXT) (k:Nat) (f:Addr) (fd:FuncData) (ps:List Str) (sp:Sp):Prop where
 len:∀vs H Q E,sp vs H Q E->vs.length=ps.length
 run:∀(A:Around) (outer:List Env) (s:Shared) (H:Hp) (args:Args) (us:List Value) (vs:List V) (Q:VK) (E:XK),bZ k A->nO P w K mg base A outer s H->BindsTo s fd args (ps.zip us)->Vals vs us->sp vs H Q E->
  codeAny (model P w) A (.call (.ref f) args) (CR CX outer P w H s Q E) s
theorem dH.imp {P:Program} {w:World} {K:PySem.W.Frag} {mg:Str->Option Value} {base:Heap} {CX:CXT} {k:Nat} {f:Addr} {fd:FuncData} {ps:List Str} {sp sp':Sp} (F:dH P w K mg base CX k f fd ps sp)
  (h:∀vs H Q E,sp' vs H Q E->sp vs H Q E):dH P w K mg base CX k f fd ps sp':=
 ⟨λ vs H Q E q=>F.len vs H Q E (h _ _ _ _ q),λ A outer s H args us vs Q E hr he hb hv hs=>F.run A outer s H args us vs Q E hr he hb hv (h _ _ _ _ hs)⟩
theorem nO.make {P:Program} {w:World} {K:PySem.W.Frag} {mg:Str->Option Value} {base:Heap} {A:Around} {outer:List Env} {s:Shared} {H:Hp} (e:nO P w K mg base A outer s H) (C:Addr) (us:List Value) (kw:List (Str×Value)) :
  nO P w K mg base (A.under (.builtin "type.__call__" ⟨.ref C::us,kw⟩)) outer s H:=⟨by first | exact e.frames | (simpa [Around.under,Code.envs,Code.isFrame,pushEnvs] using e.frames),e.mod,e.bs,e.bsz,e.ig,e.frf,e.hok,e.bare⟩
section
variable {X:Cx} {pins:List (Addr×Obj)} {σ:St} {H:Hp} {s s':Shared}
theorem Inv.Cy (I:Inv X pins σ H s):nO X.prog X.w X.K X.mg X.base X.A X.stack s H:=
 ⟨I.ok.frames,I.ok.mod,I.bs,Nat.le_trans I.ok.bsz I.sz,I.stack,I.pD,I.hok,I.bare⟩
theorem Inv.after {Q:VK} {u:Value} (I:Inv X pins σ H s) (h:CE X.stack X.prog X.w H s Q u s'):EP X pins σ Q u s':=by
 obtain ⟨v,H',os,bare,un,hok,r,q⟩:=h
 obtain ⟨hh,g,d,t,os'⟩:=s'
 obtain rfl:os'=s.os:=os
 exact ⟨v,H',I.call (h':=hh) (g':=g) (d':=d) (t':=t) (ch:=[]) un hok bare (λ b z=>absurd z (by simp)),r,q⟩
end
noncomputable def yM (sp:Sp) (dvs:List V) (E:XK) (t:TA):TE:=fun σ H Q=>t σ H λ vs H1=>sp (vs++dvs) H1 Q E
noncomputable def Cz (C:Addr) (sp:Sp) (dvs:List V) (E:XK) (t:TA):TE:=fun σ H Q=>t σ H λ vs H1=>∀x dx,H1 x=none->H1 dx=none->dx≠x->
 sp (.ref x::(vs++dvs)) (upd (upd H1 dx (.own x)) x (.ins C dx [])) (λ v H2=>v=.non/\Q (.ref x) H2) E
noncomputable def Binds (K:PySem.W.Frag) (fd:FuncData) (ps:List Str) (ds:List Value):Prop:=
 ∀(s:Shared) (us:List Value),K.In s.heap->(us++ds).length=ps.length->BindsTo s fd ⟨us,[]⟩ (ps.zip (us++ds))
theorem Binds.all {K:PySem.W.Frag} {fd:FuncData} {ps:List Str} (h:∀us:List Value,us.length=ps.length->bindArgs fd ⟨us,[]⟩=pure (ps.zip us)):Binds K fd ps []:=λ s us _ hl=>by
 rw [List.append_nil] at hl ⊢
 exact .of_eq (h us hl)
noncomputable def Passes (CX:CXT) (X:Cx) (E:XK):Prop:=∀(pins:List (Addr×Obj)) (σ:St) (H:Hp) (s:Shared) (e:Value) (s':Shared),Inv X pins σ H s->CX X.stack H s E e s'->X.xe e s'
section
variable {X:Cx} {CX:CXT} {k:Nat} {f C:Addr} {fd:FuncData} {ps:List Str} {sp:Sp} {dvs:List V} {ds:List Value} {E:XK} {x m:Str} {p pos apos:Pos} {e o:Expr} {es:List Expr} {ta:TE} {t:TA}
theorem kB {pins:List (Addr×Obj)} {σ:St} {H:Hp} {s:Shared} {Q:VK} {us:List Value} {vs:List V} (F:dH X.prog X.w X.K X.mg X.base CX k f fd ps sp) (hr:bZ k X.A) (hb:Binds X.K fd ps ds) (hd:Vals dvs ds) (hx:Passes CX X E)
  (I:Inv X pins σ H s) (r:Vals vs us) (h:sp (vs++dvs) H Q E):wpAny (model X.prog X.w) X.A (call (.ref f) us) (EP X pins σ Q) X.xe s:=by
 have r2:Vals (vs++dvs) (us++ds):=r.append hd
 have hl:(us++ds).length=ps.length:=by rw [<-r2.length]; exact F.len _ _ _ _ h
 refine wpAny_call (codeAny_mono (F.run X.A X.stack s H ⟨us,[]⟩ (us++ds) (vs++dvs) Q E hr I.Cy (hb s us I.kIn hl) r2 h) λ r s' hq=>?_)
 cases r with
 | error e=>exact hx pins σ H s e s' I hq
 | ok fl=>
  cases fl with
  | ret u=>exact I.after hq
  | next=>exact False.elim hq
  | brk=>exact False.elim hq
  | cont=>exact False.elim hq
theorem wI (F:dH X.prog X.w X.K X.mg X.base CX k f fd ps sp) (hr:bZ k X.A) (hg:Gl X x) (hm:X.mg x=some (.ref f)) (hk:PySem.W.keepIn X.K (.ref f)=true) (hb:Binds X.K fd ps ds) (hd:Vals dvs ds) (hx:Passes CX X E)
  (ha:PA X (e::es) t) (hdb:(x==("__debug__":Str))=false:=by decide) (he:starEach (e::es) X.env=(false,eval e X.env)::starEach es X.env:=by rfl) (hpl:(backTo pos (starEach es X.env)).any (·.1)=false:=by rfl) :
  PE X (.Call (.Name x p) (e::es) [] pos) (yM sp dvs E t):=by
 intro pins s σ H Q I h
 refine wpAny_Call_Name_kw (iC I hg hm ?_ hdb)
 refine PySem.W.callWith_K (h₀:=X.base) I.ok.mod.kin hk (thn (ha pos pins s σ H _ I h) λ us s1 ⟨vs,H1,I1,r,q⟩=>⟨I1.kIn,?_⟩) he hpl
 exact kB F hr hb hd hx I1 r q
theorem sY (F:dH X.prog X.w X.K X.mg X.base CX k f fd ps sp) (hr:bZ k X.A) (hg:Gl X x) (hm:X.mg x=some (.ref f)) (hk:PySem.W.keepIn X.K (.ref f)=true) (hb:Binds X.K fd ps ds) (hd:Vals dvs ds) (hx:Passes CX X E)
  (hdb:(x==("__debug__":Str))=false:=by decide):PE X (.Call (.Name x p) [] [] pos) (yM sp dvs E wH):=by
 intro pins s σ H Q I h
 refine wpAny_Call_Name_kw (iC I hg hm ?_ hdb)
 exact PySem.W.callWith_K0 I.kIn hk (kB (us:=[]) F hr hb hd hx I .nil h)
structure Mk (K:PySem.W.Frag) (C f:Addr):Prop where
 makes:PySem.W.makesIn K C=true
 init:PySem.W.findIn K (.ref C) "__init__"=some (some (.ref f))
 fn:PySem.W.isFn K (.ref f)=true
 kp:PySem.W.keepIn K (.ref C)=true
theorem sZ {pins:List (Addr×Obj)} {σ:St} {H:Hp} {s:Shared} {Q:VK} {us:List Value} {vs:List V} (M:Mk X.K C f) (F:dH X.prog X.w X.K X.mg X.base CX k f fd ps sp) (hr:bZ (k+1) X.A) (hb:Binds X.K fd ps ds) (hd:Vals dvs ds)
  (hx:Passes CX X E) (I:Inv X pins σ H s) (r:Vals vs us)
  (h:∀x dx,H x=none->H dx=none->dx≠x->sp (.ref x::(vs++dvs)) (upd (upd H dx (.own x)) x (.ins C dx [])) (λ v H2=>v=.non/\Q (.ref x) H2) E) :
  wpAny (model X.prog X.w) X.A (call (.ref C) us) (EP X pins σ Q) X.xe s:=by
 have hq:=h (s.heap.objs.size+1) s.heap.objs.size (I.hok.fresh (Nat.le_succ _)) (I.hok.fresh (Nat.le_refl _)) (Nat.ne_of_lt (Nat.lt_succ_self _))
 have I2:=Inv.made (C:=C) I
 have r2:Vals (V.ref (s.heap.objs.size+1)::(vs++dvs)) (Value.ref (s.heap.objs.size+1)::(us++ds)):=.cons rfl (r.append hd)
 have hl:(Value.ref (s.heap.objs.size+1)::us++ds).length=ps.length:=by
  have e:=r2.length
  rw [F.len _ _ _ _ hq] at e
  exact e.symm
 refine wpAny_call (sX (f:=f) I.kIn M.makes M.init (beq_iff_eq.mp M.fn) (codeAny_mono (F.run _ X.stack _ _ ⟨Value.ref (s.heap.objs.size+1)::us,[]⟩ (Value.ref (s.heap.objs.size+1)::(us++ds)) _ _ E (hr.make C us [])
  (I2.Cy.make C us []) (hb _ (Value.ref (s.heap.objs.size+1)::us) I2.kIn hl) r2 hq) λ r s' hq'=>?_))
 cases r with
 | error e=>exact hx pins σ _ _ e s' I2 hq'
 | ok fl=>
  cases fl with
  | ret u=>
   obtain ⟨v,H',I3,rv,ev,q3⟩:=I2.after hq'
   subst ev
   exact ⟨rv,⟨V.ref (s.heap.objs.size+1),H',I3,rfl,q3⟩⟩
  | next=>exact False.elim hq'
  | brk=>exact False.elim hq'
  | cont=>exact False.elim hq'
theorem wJ (M:Mk X.K C f) (F:dH X.prog X.w X.K X.mg X.base CX k f fd ps sp) (hr:bZ (k+1) X.A) (hg:Gl X x) (hm:X.mg x=some (.ref C)) (hb:Binds X.K fd ps ds) (hd:Vals dvs ds) (hx:Passes CX X E)
  (ha:PA X (e::es) t) (hdb:(x==("__debug__":Str))=false:=by decide) (he:starEach (e::es) X.env=(false,eval e X.env)::starEach es X.env:=by rfl) (hpl:(backTo pos (starEach es X.env)).any (·.1)=false:=by rfl) :
  PE X (.Call (.Name x p) (e::es) [] pos) (Cz C sp dvs E t):=by
 intro pins s σ H Q I h
 refine wpAny_Call_Name_kw (iC I hg hm ?_ hdb)
 refine PySem.W.callWith_K (h₀:=X.base) I.ok.mod.kin M.kp (thn (ha pos pins s σ H _ I h) λ us s1 ⟨vs,H1,I1,r,q⟩=>⟨I1.kIn,?_⟩) he hpl
 exact sZ M F hr hb hd hx I1 r q
end
noncomputable def PK (X:Cx) (kws:List Keyword) (t:TA):Prop:=
 ∀(pos:Pos) (pins:List (Addr×Obj)) (s:Shared) (σ:St) (H:Hp) (Q:List V->Hp->Prop),Inv X pins σ H s->t σ H Q->wpAny (model X.prog X.w) X.A (evalAll ((backToKw pos (keywordEach kws X.env)).map (·.2))) (AP X pins σ Q) X.xe s
section
variable {X:Cx} {CX:CXT} {k:Nat} {f C:Addr} {fd:FuncData} {ps ks:List Str} {sp:Sp} {E:XK} {x m:Str} {p pos apos kpos:Pos} {e o:Expr} {es:List Expr} {kws:List Keyword} {te ta:TE} {t tk:TA} {nm:Option Str}
theorem Al:PK X [] wH:=λ _ _ _ _ H Q I h=>wpAny_evalAll_nil ⟨[],H,I,.nil,h⟩
theorem wK (ha:PE X e te) (hr:PK X kws t):PK X (⟨nm,e,kpos⟩::kws) (yL te t):=by
 intro pos pins s σ H Q I h
 show wpAny _ _ (evalAll ((do let v <-eval e X.env; standAt pos; pure v)::(backToKw pos (keywordEach kws X.env)).map (·.2))) _ _ s
 refine wpAny_evalAll_cons (wpAny_bind (thn (ha pins s σ H _ I h) λ u s1 ⟨x,H1,I1,r1,q1⟩=>wpAny_bind (wpAny_standAt (wpAny_pure ?_))))
 exact thn (hr pos pins s1 σ H1 _ I1 q1) λ us s2 ⟨xs,H2,I2,r2,q2⟩=>⟨x::xs,H2,I2,.cons r1 r2,q2⟩
variable {g:List Value->List Value->List Value} {gV:List V->List V->List V}
end
structure iD (N P:List Str) (sc:Scope):Prop where
 kind:sc.kind=.function
 co:sc.isCoroutine=false
 gen:sc.isGenerator=false
 nd:N.Nodup
 pre:N.take P.length=P
 par:∀x∈P,sc.names.lookup x=some .local\/sc.names.lookup x=some .cell
 nofree:∀y∈sc.names,y.2≠.free
theorem jV {kindOf:Str->Option NameKind} {x:Str}:∀{binds:List (Str×Value)} {m:Str->Option Value},(∀v,(x,v)∉binds)->bindL kindOf binds m x=m x
 | [],_,_=>rfl
 | (n,v)::r,m,h=>by
  unfold bindL
  rw [jV λ w hw=>h w (List.mem_cons_of_mem _ hw)]
  split
  ·have:x≠n:=by rintro rfl; exact h v List.mem_cons_self
   simp [this]
  ·rfl
theorem jW {kindOf:Str->Option NameKind} {x:Str}:∀{binds:List (Str×Value)} {m:Str->Option Value},(∀v,(x,v)∉binds)->bindC kindOf binds m x=m x
 | [],_,_=>rfl
 | (n,v)::r,m,h=>by
  unfold bindC
  rw [jW λ w hw=>h w (List.mem_cons_of_mem _ hw)]
  split
  ·rfl
  ·have:x≠n:=by rintro rfl; exact h v List.mem_cons_self
   simp [this]
theorem jX {kindOf:Str->Option NameKind} {x:Str} {v:Value}:∀{P:List Str} {vs:List Value} {i:Nat} {m:Str->Option Value},P.Nodup->P[i]?=some x->vs[i]?=some v->kindOf x=some .local->
  bindL kindOf (P.zip vs) m x=some v
 | [],_,_,_,_,h,_,_=>by simp at h
 | _::_,[],_,_,_,_,h,_=>by simp at h
 | p::P,w::vs,0,m,nd,h1,h2,hk=>by
  simp at h1 h2; subst h1; subst h2
  show bindL kindOf ((p,w)::P.zip vs) m p=_
  unfold bindL
  rw [jV λ v hv=>(List.nodup_cons.mp nd).1 (List.of_mem_zip hv).1,if_pos hk]
  simp
 | p::P,w::vs,i+1,m,nd,h1,h2,hk=>by
  show bindL kindOf ((p,w)::P.zip vs) m x=_
  unfold bindL
  exact jX (i:=i) (List.nodup_cons.mp nd).2 (by simpa using h1) (by simpa using h2) hk
theorem jY {kindOf:Str->Option NameKind} {x:Str} {v:Value}:∀{P:List Str} {vs:List Value} {i:Nat} {m:Str->Option Value},P.Nodup->P[i]?=some x->vs[i]?=some v->kindOf x≠some .local->
  bindC kindOf (P.zip vs) m x=some v
 | [],_,_,_,_,h,_,_=>by simp at h
 | _::_,[],_,_,_,_,h,_=>by simp at h
 | p::P,w::vs,0,m,nd,h1,h2,hk=>by
  simp at h1 h2; subst h1; subst h2
  show bindC kindOf ((p,w)::P.zip vs) m p=_
  unfold bindC
  rw [jW λ v hv=>(List.nodup_cons.mp nd).1 (List.of_mem_zip hv).1,if_neg hk]
  simp
 | p::P,w::vs,i+1,m,nd,h1,h2,hk=>by
  show bindC kindOf ((p,w)::P.zip vs) m x=_
  unfold bindC
  exact jY (i:=i) (List.nodup_cons.mp nd).2 (by simpa using h1) (by simpa using h2) hk
noncomputable def start (N:List Str) (vs:List V):St:=vs.map some++List.replicate (N.length - vs.length) none
noncomputable def nP (CX:CXT) (P:Program) (w:World) (K:PySem.W.Frag) (mg:Str->Option Value) (base:Heap) (N:List Str) (qual:Str) (scope:Scope) (f:Addr) (cd:Value) (A:Around) (outer:List Env) (s:Shared) (H:Hp) (E:XK):Cx where
 prog:=P
 w:=w
 K:=K
 mg:=mg
 base:=base
 A:=A.deeper (envOfC qual scope s.heap.objs.size f cd)
 N:=N
 s₀:=s
 H₀:=H
 env:=envOfC qual scope s.heap.objs.size f cd
 outer:=outer
 stack:=envOfC qual scope s.heap.objs.size f cd::outer
 ex:=[]
 calm:=true
 fn:=λ _=>true
 pn:=[]
 xe:=λ e s'=>wpAny (model P w) (A.deeper (envOfC qual scope s.heap.objs.size f cd)) (leaving (envOfC qual scope s.heap.objs.size f cd) e) (λ _ s''=>CX outer H s E e s'') (λ e' s''=>CX outer H s E e' s'') s'
theorem lW {sc:Scope} {n:Nat} {x:Str} (h:sc.names.lookup x=some .cell):∃c,(cellsFrom n sc.names []).lookup x=some c:=by
 have q:=PySem.W.cellsFrom_some sc.names n [] (.inl h)
 exact Option.isSome_iff_exists.mp q
theorem qR {CX:CXT} {P:Program} {w:World} {K:PySem.W.Frag} {mg:Str->Option Value} {base:Heap} {N ps:List Str} {qual:Str} {scope:Scope} {f:Addr} {cd:Value} {A:Around} {outer:List Env} {s s1:Shared} {H:Hp} {E:XK} {us:List Value} {vs:List V}
  (S:iD N ps scope) (hd:A.handled=none) (e0:nO P w K mg base A outer s H) (hl:vs.length=ps.length) (r:Vals vs us)
  (x:InCallC s s.heap.objs.size (bindL (envOfC qual scope s.heap.objs.size f cd).kindOf (ps.zip us) λ _=>none) (cellsFrom (s.heap.objs.size+1) scope.names []) (bindC (envOfC qual scope s.heap.objs.size f cd).kindOf (ps.zip us) λ _=>none) s1) :
  Inv (nP CX P w K mg base N qual scope f cd A outer s H E) [] (start N vs) H s1:=by
 have hpl:ps.length<=N.length:=by have:=congrArg List.length S.pre; rw [List.length_take] at this; omega
 obtain ⟨h1,tk,rfl,hk⟩:=x.done
 have noA:∀b:Addr,b∉(nP CX P w K mg base N qual scope f cd A outer s H E).ex:=λ b z=>absurd (show b∈([]:List Addr) from z) (by simp)
 refine ⟨⟨e0.mod,S.kind,rfl,rfl,Nat.le_refl _,λ y z c h1 h2=>?_,λ y hy=>?_,λ y c _ h=>?_,λ _=>hd,Around.frames_deeper e0.frames,.inr ⟨rfl,rfl⟩,λ b z=>absurd z (noA b),e0.bs,e0.bsz,λ b _ _=>noA b,λ b z=>absurd z (noA b),e0.ig,e0.frf⟩,
  rfl,e0.bare,Un.kept hk,⟨_,x.toInCall.ns,λ i y v h1 h2 h3=>?_⟩,λ y c h=>⟨_,x.cell y c h⟩,e0.hok.fresh (Nat.le_refl _),λ y c h=>?_,λ p hp=>absurd (show p∈([]:List (Addr×Obj)) from hp) (by simp),e0.hok.kept hk,?_⟩
 ·exact name_of_addr x.apart (PySem.mem_of_lookup h1) (PySem.mem_of_lookup h2)
 ·have hy:scope.names.lookup y=some .cell\/scope.names.lookup y=some .free:=hy
  rcases hy with hy | hy
  ·exact lW hy
  ·exact absurd rfl (S.nofree _ (PySem.mem_of_lookup hy))
 ·exact Nat.le_of_lt (x.above y c (PySem.mem_of_lookup h))
 ·have hi:i < vs.length:=by
   unfold start at h2
   by_cases hi:i < vs.length
   ·exact hi
   ·rw [List.getElem?_append_right (by simpa using hi)] at h2
    rw [List.getElem?_replicate] at h2
    split at h2<;>cases h2
  have ha:vs[i]?=some v:=by
   unfold start at h2
   rw [List.getElem?_append_left (by simpa using hi),List.getElem?_map] at h2
   cases e:vs[i]? with
   | none=>rw [e] at h2; cases h2
   | some a=>rw [e] at h2; cases h2; rfl
  obtain ⟨u,hu,rv⟩:=r.get ha
  have hp:ps[i]?=some y:=by
   rw [<-S.pre,List.getElem?_take_of_lt (by omega)]; exact h1
  have ndP:ps.Nodup:=by rw [<-S.pre]; exact S.nd.sublist (List.take_sublist _ _)
  refine ⟨u,rv,?_⟩
  rcases S.par y (List.mem_of_getElem? hp) with k | k
  ·exact .inl ⟨k,jX ndP hp hu k⟩
  ·obtain ⟨c,e⟩:=lW (n:=s.heap.objs.size+1) k
   refine .inr ⟨.inl k,c,e,?_⟩
   have q:=x.cell y c e
   rw [jY ndP hp hu (by show scope.names.lookup y≠_; rw [k]; decide)] at q
   exact q
 ·exact e0.hok.fresh (Nat.le_of_lt (x.above y c (PySem.mem_of_lookup h)))
 ·unfold start
  show _=N.length
  rw [List.length_append,List.length_map,List.length_replicate]
  omega
theorem CA {CX:CXT} {P:Program} {w:World} {K:PySem.W.Frag} {mg:Str->Option Value} {base:Heap} {k:Nat} {f:Addr} {name qual:Str} {params:Arguments} {body:List Stmt} {scope:Scope} {dV kV doc pm cdv ct oc:Value} {an od:Option Addr}
  {osl:Array (Option Value)} {N ps:List Str} {sp:Sp} (lk:K.lookup f=some ⟨oc,od,.func (PySem.W.fnOf name qual params body scope dV kV doc pm an cdv ct),osl⟩) (hcd:PySem.W.codeIn K cdv qual=true) (S:iD N ps scope)
  (len:∀vs H Q E,sp vs H Q E->vs.length=ps.length)
  (hbody:∀(A:Around) (outer:List Env) (s:Shared) (H:Hp) (vs:List V) (Q:VK) (E:XK),bZ k (A.deeper (envOfC qual scope s.heap.objs.size f cdv))->sp vs H Q E->
   ∃t,PSs (nP CX P w K mg base N qual scope f cdv A outer s H E) body t/\t {nx:=λ _ H'=>Q .non H',rt:=Q} (start N vs) H) :
  dH P w K mg base CX (k+1) f (PySem.W.fnOf name qual params body scope dV kV doc pm an cdv ct) ps sp:=by
 refine ⟨len,λ A outer s H args us vs Q E hr e0 hb r hsp=>?_⟩
 have hl:=len _ _ _ _ hsp
 have KX:K.In s.heap:=e0.mod.kin.keeps λ b o e=>(e0.bs b o e).1
 have lim:s.heap.NoLimit:=e0.mod.nolimit.keeps λ b o e=>(e0.bs b o e).1
 have hkind:∀y∈ps.zip us,scope.names.lookup y.1=some .local\/(scope.names.lookup y.1=some .cell/\((cellsFrom (s.heap.objs.size+1) scope.names []).lookup y.1).isSome=true):=λ ⟨n,v⟩ hy=>by
  rcases S.par n (List.of_mem_zip hy).1 with q | q
  ·exact .inl q
  ·exact .inr ⟨q,PySem.W.cellsFrom_some _ _ _ (.inl q)⟩
 refine codeAny_call_function hr.depth (KX _ _ lk) rfl S.co S.gen rfl (PySem.W.codeRec_of KX hcd) (hb _ _ _ _ ?_)
 refine wpAny_newFunctionEnv_cells S.kind hkind λ env he s1 x=>?_
 subst he
 refine ⟨lim.keeps x.toInCall.keep,codeAny_func ?_⟩
 obtain ⟨t,ht,hq⟩:=hbody A outer s H vs Q E (hr.deeper _) hsp
 have I:Inv (nP CX P w K mg base N qual scope f cdv A outer s H E) [] (start N vs) H s1:=qR S hr.hd e0 hl r x
 refine wpAny_mono (ht [] s1 (start N vs) H _ I hq) (λ fl s' hs=>?_) λ e s' hs=>hs
 have fin:∀{σ':St} {H':Hp} {v:V} {u:Value},Inv (nP CX P w K mg base N qual scope f cdv A outer s H E) [] σ' H' s'->RelV v u->Q v H'->CE outer P w H s Q u s':=
  λ {σ' H' v u} J rv q=>⟨v,H',J.os,J.bare,J.base,J.hok,rv,q⟩
 cases fl with
 | ret u=>
  obtain ⟨v,σ',H',J,rv,q⟩:=hs
  exact fin J rv q
 | next=>
  obtain ⟨σ',H',J,q⟩:=hs
  exact fin (v:=V.non) (u:=Value.none) J rfl q
 | brk=>
  obtain ⟨_,_,_,q⟩:=hs
  exact False.elim q
 | cont=>
  obtain ⟨_,_,_,q⟩:=hs
  exact False.elim q
end L2
namespace L2
open PySem PySem.Spec PyProof.Rows
section
variable {X:Cx} {x:Str} {p pos:Pos} {e:Expr} {es:List Expr} {t:TA} {id T:String} {r:List V->Hp->VK->Prop}
noncomputable def tCB (r:List V->Hp->VK->Prop) (t:TA):TE:=fun σ H Q=>t σ H λ vs H1=>r vs H1 Q
theorem iP (hc:bL X (.builtin id) r) (hg:Gl X x) (hm:X.mg x=none) (hv:bootBuiltins x=some (.builtin id)) (ha:PA X (e::es) t) (hn:x≠"__name__":=by decide) (hdb:(x==("__debug__":Str))=false:=by decide)
  (he:starEach (e::es) X.env=(false,eval e X.env)::starEach es X.env:=by rfl) (hpl:(backTo pos (starEach es X.env)).any (·.1)=false:=by rfl):PE X (.Call (.Name x p) (e::es) [] pos) (tCB r t):=by
 intro pins s σ H Q I h
 refine wpAny_Call_Name_kw (dD I hg hm hv ?_ hn hdb)
 exact PyProof.Rows.callWith_builtin1 (thn (ha pos pins s σ H _ I h) λ us s1 ⟨vs,H1,I1,r1,q1⟩=>hc pins s1 σ H1 vs us Q I1 r1 q1) he hpl
theorem jZ (hc:bL X (.type T) r) (hg:Gl X x) (hm:X.mg x=none) (hv:bootBuiltins x=some (.type T)) (ha:PA X (e::es) t) (hn:x≠"__name__":=by decide) (hdb:(x==("__debug__":Str))=false:=by decide)
  (he:starEach (e::es) X.env=(false,eval e X.env)::starEach es X.env:=by rfl) (hpl:(backTo pos (starEach es X.env)).any (·.1)=false:=by rfl):PE X (.Call (.Name x p) (e::es) [] pos) (tCB r t):=by
 intro pins s σ H Q I h
 refine wpAny_Call_Name_kw (dD I hg hm hv ?_ hn hdb)
 exact PyProof.Rows.callWith_type1 (thn (ha pos pins s σ H _ I h) λ us s1 ⟨vs,H1,I1,r1,q1⟩=>hc pins s1 σ H1 vs us Q I1 r1 q1) he hpl
theorem nQ (hc:bL X (.type T) r) (hg:Gl X x) (hm:X.mg x=none) (hv:bootBuiltins x=some (.type T)) (hn:x≠"__name__":=by decide) (hdb:(x==("__debug__":Str))=false:=by decide) :
  PE X (.Call (.Name x p) [] [] pos) (tCB r wH):=by
 intro pins s σ H Q I h
 refine wpAny_Call_Name_kw (dD I hg hm hv ?_ hn hdb)
 exact PyProof.Rows.callWith_type0 (hc pins s σ H [] [] Q I .nil h)
end
end L2
namespace HT
open PySem PyProof.Rows
noncomputable def lexLt:List Int->List Int->Bool
 | [],[]=>false
 | [],_::_=>true
 | _::_,[]=>false
 | x::xs,y::ys=>if x=y then lexLt xs ys else decide (x < y)
theorem fL (x y:Int) (xs ys:List Int):lexLt (x::xs) (y::ys)=if x=y then lexLt xs ys else decide (x < y):=rfl
theorem jA:lexLt [] []=false:=rfl
theorem iQ (y:Int) (ys:List Int):lexLt [] (y::ys)=true:=rfl
theorem iR (x:Int) (xs:List Int):lexLt (x::xs) []=false:=rfl
theorem s8 (A:Around) (s:Shared) (a:Int) (t:Tok) (c:Int) (u:Tok):∃e,SeqAt.EqAt A s (.int a t) (.int c u) e/\(e=true↔a=c):=
 ⟨(a==c),SeqAt.EqAt.int_int a t c u,by simp⟩
theorem s9 (A:Around) (s:Shared) (a:Int) (t:Tok) (c:Int) (u:Tok) (prog:Program) (w:World) (E:Value->Shared->Prop) (Q:Value->Shared->Prop) (h:Q (.bool (decide (a < c))) s) :
  wpAny (model prog w) A (richCompare .Lt (.int a t) (.int c u)) Q E s:=
 (PyProof.Rows.lt_int h:wpAny (model prog w) A (compareOp .Lt (.int a t) (.int c u)) Q E s)
section
open PySem.SeqAt
open PySem.AutoSeq1 (wpAny_loadPart')
open PySem.MeetsSeq PySem.MeetsSeq2 PySem.MeetsSeq3
theorem jB (l b:Addr) (items items2:Array Value) (n n2:Nat) (dd dd2:Option Addr) (sl sl2:Array (Option Value)) (ns ms:List Int) (hi:IntsAre items.toList ns) (hj:IntsAre items2.toList ms) :
  Meets (Builtin.«tuple.__lt__» ⟨[.ref l,.ref b],[]⟩)
   (λ _ R s=>s.heap.get? l=some {cls:=.type "tuple",dict:=dd,data:=.seq items n,slots:=sl}/\s.heap.get? b=some {cls:=.type "tuple",dict:=dd2,data:=.seq items2 n2,slots:=sl2}/\
    R (.ok (.ret (.bool (lexLt ns ms)))) s):=
 .of_wp λ prog w A R s h=>by
  obtain ⟨hp,g,d,tk,os⟩:=s; obtain ⟨hl,hb,h⟩:=h
  have f2:=AutoSeq1.sub_tuple_tuple
  have z1:items.size=ns.length:=by rw [<-hi.length]; simp
  have z2:items2.size=ms.length:=by rw [<-hj.length]; simp
  wp_walk using wpAny_loadPart' hl,wpAny_loadPart' hb,wpAny_forIn_list _ (λ rest b s'=>b.1=none/\s'=⟨hp,g,d,tk,os⟩/\∃(vs ws:List Value) (ns' ms':List Int),rest=vs.zip ws/\
   IntsAre vs ns'/\IntsAre ws ms'/\ns'.length+items2.size=ms'.length+items.size/\R (.ok (.ret (.bool (lexLt ns' ms')))) ⟨hp,g,d,tk,os⟩) _
  case turn=>
   rintro ⟨y,x⟩ rest b s' ⟨hb',rfl,vs,ws,ns',ms',hz,hvi,hwi,hlen,hR⟩
   cases hvi with
   | nil=>rw [List.zip_nil_left] at hz; cases hz
   | cons a t hvi'=>
    cases hwi with
    | nil=>rw [List.zip_nil_right] at hz; cases hz
    | cons c u hwi'=>
     rw [List.zip_cons_cons] at hz
     injection hz with hyx hrest
     injection hyx with hy hx
     subst hy hx
     rw [fL] at hR
     simp only [List.length_cons] at hlen
     obtain ⟨e,he,hiff⟩:=s8 A.in1 ⟨hp,g,d,tk,os⟩ a t c u
     refine wpAny_bind (he prog w _ _ ?_)
     cases e with
     | true=>
      rw [if_pos (hiff.mp rfl)] at hR
      wp_walk
      exact ⟨rfl,rfl,_,_,_,_,hrest,hvi',hwi',by omega,hR⟩
     | false=>
      rw [if_neg (λ q=>absurd (hiff.mpr q) Bool.false_ne_true)] at hR
      have hri:=s9 A.in1 ⟨hp,g,d,tk,os⟩ a t c u prog w
      wp_walk using hri
      exact ⟨_,rfl,by simpa using hR⟩
  case fin=>
   rintro ⟨b1,b2⟩ s' ⟨hb',rfl,vs,ws,ns',ms',hz,hvi,hwi,hlen,hR⟩
   simp only at hb'
   subst hb'
   have hv:lexLt ns' ms'=decide (items.size < items2.size):=by
    cases hvi with
    | nil=>
     cases hwi with
     | nil=>
      simp only [List.length_nil] at hlen
      rw [jA]
      exact (decide_eq_false (by omega)).symm
     | cons c u hw=>
      simp only [List.length_nil,List.length_cons] at hlen
      rw [iQ]
      exact (decide_eq_true (by omega)).symm
    | cons a t hv=>
     cases hwi with
     | nil=>
      simp only [List.length_nil,List.length_cons] at hlen
      rw [iR]
      exact (decide_eq_false (by omega)).symm
     | cons c u hw=>
      rw [List.zip_cons_cons] at hz
      cases hz
   rw [hv] at hR
   wp_walk
   exact ⟨_,rfl,by simpa [Builtin.Tuple.tupleCompareSizes] using hR⟩
  case h=>
   exact ⟨rfl,rfl,items.toList,items2.toList,ns,ms,rfl,hi,hj,by omega,h⟩
end
section
variable {prog:Program} {w:World} {A:Around} {E:Value->Shared->Prop} {s:Shared}
theorem nR {l b:Addr} {items items2:Array Value} {ns ms:List Int} {Q:Value->Shared->Prop} (hl:IsTup s.heap l items) (hb:IsTup s.heap b items2) (hi:IntsAre items.toList ns) (hj:IntsAre items2.toList ms)
  (hu:A.units < cLine) (h:Q (.bool (lexLt ns ms)) s):wpAny (model prog w) A (compareOp .Lt (.ref l) (.ref b)) Q E s:=by
 obtain ⟨⟨cls,dd,data,sl⟩,ho,hc,n,hd⟩:=id hl
 obtain ⟨⟨cls2,dd2,data2,sl2⟩,ho2,hc2,n2,hd2⟩:=id hb
 simp only at hc hd hc2 hd2
 subst hc hd hc2 hd2
 exact richCompare_meets_room (op:=.Lt) ⟨_,ho,rfl⟩ ⟨_,ho2,rfl⟩ PySem.F.slot_tuple_lt PySem.F.entry_tuple_lt (PySem.F.args_tuple_lt_2 _ _) (jB l b items items2 n n2 dd dd2 sl sl2 ns ms hi hj)
  ⟨ho,ho2,show Value.bool (lexLt ns ms)≠Value.notImplemented/\Q (.bool (lexLt ns ms)) s from ⟨(λ x=>nomatch x),h⟩⟩ hu
theorem wL {t b:Addr} {vs ws:List Value} {Q:Value->Shared->Prop} (ht:IsTup s.heap t vs.toArray) (hb:IsTup s.heap b ws.toArray) (hv:vs≠[])
  (h1:ws=[]->Q (.ref t) s) (h2:ws≠[]->Q (.ref s.heap.objs.size) {s with heap:=s.heap.push {cls:=.type "tuple",data:=.seq (vs++ws).toArray}})
  (hsz:vs.length+ws.length<=sizeLine):wpAny (model prog w) A (binaryOp .Add (.ref t) (.ref b)) Q E s:=by
 obtain ⟨⟨cls,dd,data,sl⟩,ho,hc,n,hd⟩:=id ht
 obtain ⟨⟨cls2,dd2,data2,sl2⟩,ho2,hc2,n2,hd2⟩:=id hb
 simp only at hc hd hc2 hd2
 subst hc hd hc2 hd2
 have e:vs.toArray++ws.toArray=(vs++ws).toArray:=by simp
 by_cases hw:ws=[]
 ·exact concat_meets ⟨_,ho,rfl⟩ ⟨_,ho2,rfl⟩ noFill_tuple_add seq_tuple_add PySem.F.slot_tuple_add PySem.F.entry_tuple_add (PySem.F.args_tuple_add_2 _ _)
   (tuple_addW1 t b vs.toArray ws.toArray n n2 dd dd2 sl sl2 (by simpa using hv) (by simp [hw])) ⟨ho,ho2,h1 hw⟩
 ·refine concat_meets ⟨_,ho,rfl⟩ ⟨_,ho2,rfl⟩ noFill_tuple_add seq_tuple_add PySem.F.slot_tuple_add PySem.F.entry_tuple_add (PySem.F.args_tuple_add_2 _ _)
   (tuple_addW2 t b vs.toArray ws.toArray n n2 dd dd2 sl sl2 (by simpa using hv) (by simpa using hw) (by rw [List.size_toArray,List.size_toArray]; exact hsz)) ⟨ho,ho2,?_⟩
  rw [e]
  exact h2 hw
noncomputable def sIx (n d:Nat):Option Int->Nat
 | none=>d
 | some v=>if v < 0 then (v+(n:Int)).toNat else min v.toNat n
theorem Am (n d:Nat) (hd:d<=n) (o:Option Int):sIx n d o<=n:=by
 cases o with
 | none=>exact hd
 | some v=>
  show (if v < 0 then (v+(n:Int)).toNat else min v.toNat n)<=n
  by_cases hv:v < 0
  ·rw [if_pos hv]; omega
  ·rw [if_neg hv]; exact Nat.min_le_right _ _
theorem pI (v:Int) (n d:Nat):(if v < 0 then max (v+(n:Int)) 0 else min v (n:Int))=((sIx n d (some v):Nat):Int):=by
 show (if v < 0 then max (v+(n:Int)) 0 else min v (n:Int))=(((if v < 0 then (v+(n:Int)).toNat else min v.toNat n):Nat):Int)
 by_cases hv:v < 0
 ·simp only [if_pos hv]; omega
 ·simp only [if_neg hv]; omega
theorem nT (lo hi:Option Int) (n:Nat):Builtin.Slice.sliceAdjust lo hi 1 (n:Int)=(((sIx n 0 lo:Nat):Int),((sIx n n hi:Nat):Int)):=by
 have h1:¬((1:Int) < 0):=by omega
 unfold Builtin.Slice.sliceAdjust
 simp only [h1,if_false]
 refine Prod.ext ?_ ?_
 ·cases lo with
  | none=>rfl
  | some v=>exact pI v n 0
 ·cases hi with
  | none=>rfl
  | some v=>exact pI v n n
theorem nV (i j:Nat):Builtin.Slice.slicePlaces (i:Int) (j:Int) 1=j - i:=by
 unfold Builtin.Slice.slicePlaces
 have h1:(1:Int)>0:=by omega
 simp only [h1,if_true,Int.ediv_one]
 split<;>omega
theorem iS {v:Value} {o:Option Int} {Q:Option Int->Shared->Prop} (p:IsPart v o) (h:Q o s):wpAny (model prog w) A (Builtin.Slice.slicePartIndex v) Q E s:=by
 cases p with
 | none=>exact slicePart_none h
 | int i t=>exact slicePart_int h
theorem dI {sl:Addr} {vl vu:Value} {lo hi:Option Int} {n:Nat} {Q:Int×Int×Nat->Shared->Prop} (hs:s.heap.IsSliceOf sl vl vu .none) (pl:IsPart vl lo) (pu:IsPart vu hi)
  (h:Q (((sIx n 0 lo:Nat):Int),1,sIx n n hi - sIx n 0 lo) s):wpAny (model prog w) A (Builtin.Slice.sliceApplied (.ref sl) (pure (n:Int))) Q E s:=by
 obtain ⟨os,hos,hcs,hds⟩:=id hs
 unfold Builtin.Slice.sliceApplied Builtin.Slice.sliceFields
 refine wpAny_bind (wpAny_bind (wpAny_field hos hds (x:=vl) rfl (wpAny_bind (wpAny_field hos hds (x:=vu) rfl (wpAny_bind (wpAny_field hos hds (x:=.none) rfl (wpAny_pure ?_)))))))
 refine wpAny_bind (slicePart_none ?_)
 show wpAny _ _ (if ((1:Int)==0)=true then _ else _) _ _ s
 rw [if_neg (by decide)]
 refine wpAny_bind (iS pl (wpAny_bind (iS pu (wpAny_bind (wpAny_pure ?_)))))
 show wpAny _ _ (match Builtin.Slice.sliceAdjust lo hi 1 (n:Int) with | (lo,hi)=>pure (lo,(1:Int),Builtin.Slice.slicePlaces lo hi 1)) _ _ s
 rw [nT lo hi n]
 show wpAny _ _ (pure (((sIx n 0 lo:Nat):Int),(1:Int),Builtin.Slice.slicePlaces ((sIx n 0 lo:Nat):Int) ((sIx n n hi:Nat):Int) 1)) _ _ s
 rw [nV]
 exact wpAny_pure h
theorem tu (xs:Array Value) (i k:Nat):((List.range k).filterMap λ (m:Nat)=>xs[((i:Int)+(m:Int)*1).toNat]?).toArray=((xs.toList.drop i).take k).toArray:=by
 have e:(λ (m:Nat)=>xs[((i:Int)+(m:Int)*1).toNat]?)=λ m=>xs[i+m]?:=by
  funext m
  have:((i:Int)+(m:Int)*1).toNat=i+m:=by omega
  rw [this]
 rw [e]
 have:=pick_run xs i k
 rw [List.filterMap_map] at this
 have e2:((λ x=>xs[x]?)∘λ x=>i+x)=λ m=>xs[i+m]?:=rfl
 rw [e2] at this
 rw [this]
theorem fW {t sl:Addr} {items:Array Value} {vl vu:Value} {lo hi:Option Int} {Q:Value->Shared->Prop} (ht:IsTup s.heap t items) (hs:s.heap.IsSliceOf sl vl vu .none) (pl:IsPart vl lo) (pu:IsPart vu hi)
  (hw:¬(sIx items.size 0 lo=0/\sIx items.size items.size hi=items.size))
  (h:Q (.ref s.heap.objs.size) {s with heap:=s.heap.push {cls:=.type "tuple",data:=.seq ((items.toList.drop (sIx items.size 0 lo)).take (sIx items.size items.size hi - sIx items.size 0 lo)).toArray}})
  (hsz:items.size<=sizeLine):wpAny (model prog w) A (getItem (.ref t) (.ref sl)) Q E s:=by
 have pJ:sizeOk (.seq ((items.toList.drop (sIx items.size 0 lo)).take (sIx items.size items.size hi - sIx items.size 0 lo)).toArray):=by
  show ((items.toList.drop (sIx items.size 0 lo)).take (sIx items.size items.size hi - sIx items.size 0 lo)).toArray.size<=sizeLine
  rw [List.size_toArray,List.length_take,List.length_drop,Array.length_toList]
  omega
 have hj:sIx items.size items.size hi<=items.size:=Am _ _ (Nat.le_refl _) hi
 obtain ⟨os,hos,hcs,hds⟩:=id hs
 have hTs:s.TypeIs (.ref sl) "slice":=⟨os,hos,hcs⟩
 unfold getItem
 try with_reducible refine wpAny_holding ?_
 first | refine wpAny_bind (wpAny_pure ?_) | skip
 refine wpAny_bind (wpAny_sequenceKey ht.typeIs (by decide) ?_)
 refine wpAny_bind (wpAny_callSpecial?_slot (name:=Str.ofString "__getitem__") ht.typeIs PyProof.Rows.slot_tuple_getitem
  (wpAny_call_entry PyProof.Rows.slot_tuple_getitem ht.typeIs entry_tuple_getitem ?_ (args_tuple_getitem _ _)))
 show wpAny _ _ (Builtin.Tuple.tupleItemsOf (.ref t) >>= _) _ _ s
 refine wpAny_bind (tupleItemsOf_ ht ?_)
 refine wpAny_bind (wpAny_typeOf hTs ?_)
 rw [if_pos (by decide)]
 refine wpAny_bind (dI hs pl pu ?_)
 have hno:¬((((sIx items.size 0 lo:Nat):Int)==0&&(1:Int)==1&&(sIx items.size items.size hi - sIx items.size 0 lo)==items.size)=true):=by
  intro q
  rw [Bool.and_eq_true,Bool.and_eq_true] at q
  have q1:((sIx items.size 0 lo:Nat):Int)=0:=eq_of_beq q.1.1
  have q2:sIx items.size items.size hi - sIx items.size 0 lo=items.size:=eq_of_beq q.2
  exact hw ⟨by omega,by omega⟩
 show wpAny _ _ (if (((sIx items.size 0 lo:Nat):Int)==0&&(1:Int)==1&&(sIx items.size items.size hi - sIx items.size 0 lo)==items.size)=true then _ else _) _ _ s
 rw [if_neg hno,tu]
 first
  | exact wpAny_bind (m:=Builtin.Tuple.tupleExact _) (wpAny_newObj_type (wpAny_pure ⟨_,rfl,wpAny_pure h⟩) pJ)
  | exact wpAny_bind (m:=Builtin.Tuple.tupleExact _) (wpAny_newObj_type (wpAny_bind (wpAny_pure (wpAny_pure ⟨_,rfl,wpAny_pure h⟩))) pJ)
  | exact wpAny_bind (wpAny_bind (m:=Builtin.Tuple.tupleExact _) (wpAny_newObj_type (wpAny_pure (wpAny_pure ⟨_,rfl,wpAny_pure h⟩)) pJ))
  | exact wpAny_bind (wpAny_bind (m:=Builtin.Tuple.tupleExact _) (wpAny_newObj_type (wpAny_pure ⟨_,rfl,wpAny_pure h⟩) pJ))
end
end HT
namespace L2
open PySem PySem.Spec PyProof.Rows
abbrev TO:=St->Hp->(Option Int->Hp->Prop)->Prop
noncomputable def PO (X:Cx) (e:Option Expr) (t:TO):Prop:=
 ∀(pins:List (Addr×Obj)) (s:Shared) (σ:St) (H:Hp) (Q:Option Int->Hp->Prop),Inv X pins σ H s->t σ H Q->
  wpAny (model X.prog X.w) X.A (evalPart e X.env) (λ u s'=>∃o H',Inv X pins σ H' s'/\IsPart u o/\Q o H') X.xe s
noncomputable def wM:TO:=λ _ H Q=>Q none H
noncomputable def CB (t:TE):TO:=fun σ H Q=>t σ H λ x H1=>∃i,x=.int i/\Q (some i) H1
theorem intsAre_of {ns:List Int}:∀{us:List Value},Vals (ns.map V.int) us->IntsAre us ns:=by
 induction ns with
 | nil=>intro us r; rw [List.map_nil] at r; cases r; exact .nil
 | cons n ns ih=>
  intro us r
  rw [List.map_cons] at r
  cases r with
  | cons r1 r2=>
   obtain ⟨t,e⟩:=r1
   subst e
   exact .cons n t (ih r2)
section
variable {X:Cx} {e:Expr} {te:TE} {lo hi:Option Expr} {tl th:TO} {pos p2:Pos}
theorem wN:PO X none wM:=by
 intro pins s σ H Q I h
 rw [evalPart_none]
 exact wpAny_pure ⟨none,H,I,.none,h⟩
theorem wO (h:PE X e te):PO X (some e) (CB te):=by
 intro pins s σ H Q I hw
 rw [evalPart_some]
 refine thn (h pins s σ H _ I hw) λ u s1 ⟨x,H1,I1,r1,q1⟩=>?_
 obtain ⟨i,rfl,q⟩:=q1
 obtain ⟨t,rfl⟩:=r1
 exact ⟨some i,H1,I1,.int i t,q⟩
noncomputable def SlR (X:Cx) (r:V->Option Int->Option Int->Hp->VK->Prop):Prop:=
 ∀(pins:List (Addr×Obj)) (s:Shared) (σ:St) (H:Hp) (x:V) (v vl vu:Value) (lo hi:Option Int) (sl:Addr) (Q:VK),Inv X pins σ H s->RelV x v->s.heap.IsSliceOf sl vl vu .none->IsPart vl lo->IsPart vu hi->r x lo hi H Q->
  ∃T id,typeLookup (.type T) "__getitem__"=pure (some (.builtin id))/\s.TypeIs v T/\wpAny (model X.prog X.w) X.A (getItem v (.ref sl)) (EP X pins σ Q) X.xe s
noncomputable def tSl (r:V->Option Int->Option Int->Hp->VK->Prop) (te:TE) (tl th:TO):TE:=fun σ H Q=>te σ H λ x H1=>tl σ H1 λ l H2=>th σ H2 λ u H3=>r x l u H3 Q
theorem tw {r:V->Option Int->Option Int->Hp->VK->Prop} (hr:SlR X r) (he:PE X e te) (hl:PO X lo tl) (hu:PO X hi th):PE X (.Subscript e (.Slice lo hi none p2) pos) (tSl r te tl th):=by
 intro pins s σ H Q I h
 refine Subscript_ (thn (he pins s σ H _ I h) λ v s1 ⟨x,H1,I1,r1,q1⟩=>?_)
 refine wpAny_Slice (thn (hl pins s1 σ H1 _ I1 q1) λ vl s2 ⟨l,H2,I2,pl,q2⟩=>thn (hu pins s2 σ H2 _ I2 q2) λ vu s3 ⟨u,H3,I3,pu,q3⟩=>?_)
 rw [evalPart_none]
 refine wpAny_pure ?_
 have I4:Inv X pins σ H3 {s3 with heap:=s3.heap.push {cls:=.type "slice",data:=.fields #[vl,vu,.none]}}:=I3.kept (t':=s3.toks) λ b ob q=>Heap.get?_push_of_some _ q
 obtain ⟨T,id,hT,ht,hg⟩:=hr pins {s3 with heap:=s3.heap.push {cls:=.type "slice",data:=.fields #[vl,vu,.none]}} σ H3 x v vl vu l u s3.heap.objs.size Q I4 r1 (Heap.IsSliceOf.new ..) pl pu q3
 show wpAny (model X.prog X.w) X.A (subscriptTail e (.Slice lo hi none p2) v (.ref s3.heap.objs.size)) (EP X pins σ Q) X.xe {s3 with heap:=s3.heap.push {cls:=.type "slice",data:=.fields #[vl,vu,.none]}}
 exact tail_any (ops:=[.ref s3.heap.objs.size,v]) ht hT hg (by with_unfolding_all rfl)
noncomputable def kC (xs:List V) (lo hi:Option Int):List V:=(xs.drop (HT.sIx xs.length 0 lo)).take (HT.sIx xs.length xs.length hi - HT.sIx xs.length 0 lo)
theorem gW (xs:List V) (lo hi:Option Int):(kC xs lo hi).length<=xs.length:=by
 unfold kC
 rw [List.length_take,List.length_drop]
 omega
noncomputable def Ex (K:PySem.W.Frag):V->Option Int->Option Int->Hp->VK->Prop:=λ x lo hi H Q=>∃a xs,x=.ref a/\SqT K H a xs/\
 ¬(HT.sIx xs.length 0 lo=0/\HT.sIx xs.length xs.length hi=xs.length)/\∀p,H p=none->Q (.ref p) (upd H p (.tup (kC xs lo hi)))
theorem An:SlR X (Ex X.K):=by
 intro pins s σ H x v vl vu lo hi sl Q I rx hs pl pu h
 obtain ⟨a,xs,rfl,hx,hw,q⟩:=h
 cases rx
 obtain ⟨its,r,ht,hz⟩:=I.tuple hx
 have hlen:its.toArray.size=xs.length:=by rw [List.size_toArray]; exact r.length.symm
 refine ⟨"tuple",_,PyProof.Rows.slot_tuple_getitem.lookup,ht.typeIs,?_⟩
 refine HT.fW ht hs pl pu (by rw [hlen]; exact hw) ?_ (by rw [hlen]; exact hz)
 rw [hlen]
 refine ⟨.ref s.heap.objs.size,_,I.laid (t':=s.toks) (o:=.tup (kC xs lo hi)) (λ b ob q=>Heap.get?_push_of_some _ q) (Nat.le_refl _) ?_,rfl,q _ (I.hok.fresh (Nat.le_refl _))⟩
 exact ⟨Nat.le_trans (gW xs lo hi) hz,_,(r.drop (HT.sIx xs.length 0 lo)).take (HT.sIx xs.length xs.length hi - HT.sIx xs.length 0 lo),IsTup.new _ _⟩
noncomputable def CC (K:PySem.W.Frag):R2:=λ x y H Q=>∃a b xs ys,x=.ref a/\y=.ref b/\SqT K H a xs/\SqT K H b ys/\xs≠[]/\xs.length+ys.length<=sizeLine/\
 (ys=[]->Q (.ref a) H)/\(ys≠[]->∀p,H p=none->Q (.ref p) (upd H p (.tup (xs++ys))))
theorem Vals.kD {xs:List V} {us:List Value} (r:Vals xs us):us=[]↔xs=[]:=by
 cases r with
 | nil=>simp
 | cons _ _=>simp
theorem wQ:OpR X (binaryOp .Add) (CC X.K):=by
 intro pins s σ H x y v u Q I rx ry h
 obtain ⟨a,b,xs,ys,rfl,rfl,ha,hb,hx,hz,q1,q2⟩:=h
 cases rx
 cases ry
 obtain ⟨its,r1,p1,_⟩:=I.tuple ha
 obtain ⟨its2,r2,p2,_⟩:=I.tuple hb
 refine HT.wL p1 p2 (λ z=>hx (r1.kD.mp z)) (λ z=>⟨.ref a,H,I,rfl,q1 (r2.kD.mp z)⟩) (λ z=>?_) (by rw [<-r1.length,<-r2.length]; exact hz)
 refine ⟨.ref s.heap.objs.size,_,I.laid (t':=s.toks) (o:=.tup (xs++ys)) (λ b ob q=>Heap.get?_push_of_some _ q) (Nat.le_refl _) ?_,rfl,q2 (λ w=>z (r2.kD.mpr w)) _ (I.hok.fresh (Nat.le_refl _))⟩
 exact ⟨by rw [List.length_append]; exact hz,_,r1.append r2,IsTup.new _ _⟩
end
end L2
namespace L2
open PySem PySem.Spec PyProof.Rows
noncomputable def ixN (n:Nat) (i:Int):Option Nat:=if 0<=i then (if i < n then some i.toNat else none) else if -(n:Int)<=i then some (i+n).toNat else none
noncomputable def atI {α:Type} (xs:List α) (i:Int):Option α:=(ixN xs.length i).bind λ j=>xs[j]?
theorem pK {n:Nat} {i:Int} {j:Nat} (h:ixN n i=some j):seqIndex? i n=some j/\j < n/\-(n:Int)<=i/\i < n:=by
 unfold ixN at h
 by_cases h0:0<=i
 ·rw [if_pos h0] at h
  by_cases h1:i < n
  ·rw [if_pos h1] at h
   have e:i.toNat=j:=Option.some.inj h
   exact ⟨by rw [seqIndex_of h0 h1,e],by omega,by omega,h1⟩
  ·rw [if_neg h1] at h; cases h
 ·rw [if_neg h0] at h
  by_cases h1:-(n:Int)<=i
  ·rw [if_pos h1] at h
   have e:(i+n).toNat=j:=Option.some.inj h
   exact ⟨by rw [seqIndex_neg (by omega) h1,e],by omega,h1,by omega⟩
  ·rw [if_neg h1] at h; cases h
theorem kE {α:Type} {xs:List α} {i:Int} {v:α} (h:atI xs i=some v):∃j,seqIndex? i xs.length=some j/\xs[j]?=some v/\j < xs.length/\-(xs.length:Int)<=i/\i < xs.length:=by
 unfold atI at h
 cases e:ixN xs.length i with
 | none=>rw [e] at h; cases h
 | some j=>
  rw [e] at h
  obtain ⟨h1,h2,h3,h4⟩:=pK e
  exact ⟨j,h1,h,h2,h3,h4⟩
noncomputable def kF (b:Expr):Prop:=∀o i,subscripted b false o i=operate [o,i] (getItem o i)
noncomputable def IxR (X:Cx) (r:R2):Prop:=
 ∀(value slice:Expr) (pins:List (Addr×Obj)) (s:Shared) (σ:St) (H:Hp) (x y:V) (v u:Value) (Q:VK),Inv X pins σ H s->RelV x v->RelV y u->r x y H Q->
  subscripted slice false v u=operate [v,u] (getItem v u)->wpAny (model X.prog X.w) X.A (subscriptTail value slice v u) (EP X pins σ Q) X.xe s
noncomputable def MtR (X:Cx) (id:String) (r:V->List V->Hp->VK->Prop):Prop:=
 ∀(pins:List (Addr×Obj)) (s:Shared) (σ:St) (H:Hp) (x:V) (xs:List V) (v:Value) (us:List Value) (Q:VK),Inv X pins σ H s->RelV x v->Vals xs us->r x xs H Q->
  wpAny (model X.prog X.w) X.A (call (.builtin id) (v::us)) (EP X pins σ Q) X.xe s
section
variable {X:Cx} {a b:Expr} {ta tb:TE} {pos:Pos}
theorem CD {r:R2} (hr:IxR X r) (ha:PE X a ta) (hb:PE X b tb) (hs:kF b):PE X (.Subscript a b pos) (tOp r ta tb):=by
 intro pins s σ H Q I h
 exact Subscript_ (zZ ha hb I h λ v u s2 x y H2 I2 rx ry q=>hr a b pins s2 σ H2 x y v u Q I2 rx ry q (hs _ _))
noncomputable def Ey (K:PySem.W.Frag):R2:=λ x y H Q=>∃p xs i v,x=.ref p/\y=.int i/\SqL K H p xs/\atI xs i=some v/\Q v H
noncomputable def Ez (K:PySem.W.Frag):R2:=λ x y H Q=>∃p xs i v,x=.ref p/\y=.int i/\SqT K H p xs/\atI xs i=some v/\Q v H
noncomputable def EA:R2:=λ x y H Q=>∃z i c,x=.str z/\y=.int i/\z.length<=sizeLine/\atI z.cps.toList i=some c/\Q (.str ⟨#[c]⟩) H
theorem wR:IxR X (Ey X.K):=by
 intro value slice pins s σ H x y v u Q I rx ry h hs
 obtain ⟨p,xs,i,z,rfl,rfl,hq,he,q⟩:=h
 cases rx
 obtain ⟨t,rfl⟩:=ry
 obtain ⟨its,r,pl,hz⟩:=I.list hq
 obtain ⟨j,h1,h2,h3,h4,h5⟩:=kE he
 obtain ⟨w,ew,rw'⟩:=r.get h2
 have hl:=r.length
 have hn:=fK
 have fin:EP X pins σ Q w s:=⟨z,H,I,rw',q⟩
 by_cases h0:0<=i
 ·have hj:i.toNat=j:=by
   rw [seqIndex_of h0 h5] at h1
   exact Option.some.inj h1
  exact item_listR pl.isList h0 (by omega) (by rw [hj]; simpa using ew) fin hs
 ·have hj:(i+(its.toArray.size:Int)).toNat=j:=by
   rw [seqIndex_neg (by omega) h4] at h1
   rw [List.size_toArray,<-hl]
   exact Option.some.inj h1
  exact subscriptTail_builtinR (x:=w) pl.isList.typeIs slot_list_getitem.lookup
   (wpAny_getItem_list_neg (Q:=λ r s'=>r=w/\EP X pins σ Q r s') pl.isList (by omega) (by rw [List.size_toArray]<;>omega) (by omega) (by rw [hj]; simpa using ew) ⟨rfl,fin⟩) hs
theorem Ao:IxR X (Ez X.K):=by
 intro value slice pins s σ H x y v u Q I rx ry h hs
 obtain ⟨p,xs,i,z,rfl,rfl,hq,he,q⟩:=h
 cases rx
 obtain ⟨t,rfl⟩:=ry
 obtain ⟨its,r,pl,hz⟩:=I.tuple hq
 obtain ⟨j,h1,h2,h3,h4,h5⟩:=kE he
 obtain ⟨w,ew,rw'⟩:=r.get h2
 have hl:=r.length
 have hn:=fK
 have fin:EP X pins σ Q w s:=⟨z,H,I,rw',q⟩
 exact subscriptTail_builtinR (x:=w) pl.typeIs slot_tuple_getitem.lookup
  (getItem_tuple (j:=j) (Q:=λ r s'=>r=w/\EP X pins σ Q r s') pl (by omega) (by omega) (by rw [List.size_toArray,<-hl]; exact h1) (by simpa using ew) ⟨rfl,fin⟩) hs
theorem Aq:IxR X EA:=by
 intro value slice pins s σ H x y v u Q I rx ry h hs
 obtain ⟨z,i,c,rfl,rfl,hz,he,q⟩:=h
 obtain ⟨t,rfl⟩:=rx
 obtain ⟨t',rfl⟩:=ry
 obtain ⟨j,h1,h2,h3,h4,h5⟩:=kE he
 have hl:z.cps.toList.length=z.length:=by simp [Str.length]
 rw [hl] at h1 h4 h5
 have hn:=fK
 exact tail_any (typeIs_str s z t) slot_str_getitem.lookup (getItem_str (c:=c) (by
  have e1:decide (i < -(2^63:Int))=false:=decide_eq_false (by omega)
  have e2:decide (i≥2^63)=false:=decide_eq_false (by omega)
  rw [e1,e2,Bool.or_false]) (by rw [h1]; simpa using h2) ⟨.str ⟨#[c]⟩,H,I.tok _,⟨_,rfl⟩,q⟩) hs
theorem nW (its:List Value) (n j:Nat) (u:Value):Obj.mapSeq (·.setIfInBounds j u) {cls:=.type "list",data:=.seq its.toArray n}={cls:=.type "list",data:=.seq (its.set j u).toArray n}:=by
 simp [Obj.mapSeq]
theorem Inv.lst {pins:List (Addr×Obj)} {σ:St} {H:Hp} {s:Shared} {p:Addr} {xs:List V} (I:Inv X pins σ H s) (h:H p=some (.lst xs)) :
  ∃(its:List Value) (n:Nat),Vals xs its/\s.heap.get? p=some {cls:=.type "list",data:=.seq its.toArray n}/\xs.length<=sizeLine:=by
 obtain ⟨z,its,n,r,e⟩:=I.hok p _ h
 exact ⟨its,n,r,e,z⟩
theorem Inv.Ar {pins:List (Addr×Obj)} {σ:St} {H:Hp} {s:Shared} {p:Addr} {xs ys:List V} {its its':List Value} {n n':Nat} {f:Obj->Obj} (I:Inv X pins σ H s) (h:H p=some (.lst xs))
  (ho:s.heap.get? p=some {cls:=.type "list",data:=.seq its.toArray n}) (hf:f {cls:=.type "list",data:=.seq its.toArray n}={cls:=.type "list",data:=.seq its'.toArray n'}) (r:Vals ys its') (hz:ys.length<=sizeLine) (t:Nat) :
  Inv X pins σ (upd H p (.lst ys)) {s with heap:=s.heap.update p f,toks:=t}:=by
 have e:(s.heap.update p f).get? p=some {cls:=.type "list",data:=.seq its'.toArray n'}:=by
  rw [Heap.get?_update_self f ho (by rw [hf]<;>rfl),hf]
 refine I.write (x:=p) (e:=p) (by rw [h]; trivial) (.inl rfl) (λ b u hb q=>(Heap.get?_update_other _ _ (Ne.symm hb)).trans q) ⟨_,e⟩ ?_
 exact ⟨hz,its',n',r,e⟩
noncomputable def CG:V->V->V->Hp->(Hp->Prop)->Prop:=λ o i v H Q=>∃p xs k j,o=.ref p/\i=.int k/\H p=some (.lst xs)/\ixN xs.length k=some j/\Q (upd H p (.lst (xs.set j v)))
theorem set_list:zR X CG:=by
 intro pins s σ H o i v ov iv u Q I ro ri rv h
 obtain ⟨p,xs,k,j,rfl,rfl,hp,hj,q⟩:=h
 cases ro
 obtain ⟨t,rfl⟩:=ri
 obtain ⟨its,n,r,ho,hz⟩:=I.lst hp
 obtain ⟨h1,h2,h3,h4⟩:=pK hj
 have hl:=r.length
 have hn:=fK
 have I':Inv X pins σ (upd H p (.lst (xs.set j v))) {s with heap:=s.heap.update p (Obj.mapSeq (·.setIfInBounds j u))}:=
  I.Ar hp ho (nW its n j u) (r.set rv j) (by rw [List.length_set]; exact hz) s.toks
 by_cases h0:0<=k
 ·have hk:k.toNat=j:=by
   rw [seqIndex_of h0 h4] at h1
   exact Option.some.inj h1
  exact PySem.W.ki_setAt ho h0 (by omega) (by rw [List.size_toArray,<-hl]; exact h4) (by rw [hk]; exact ⟨_,I',q⟩)
 ·have hk:(k+(its.toArray.size:Int)).toNat=j:=by
   rw [seqIndex_neg (by omega) h3] at h1
   rw [List.size_toArray,<-hl]
   exact Option.some.inj h1
  exact PySem.W.ki_setBack ho (by omega) (by rw [List.size_toArray,<-hl]; exact h3) (by omega) (by rw [hk]; exact ⟨_,I',q⟩)
theorem kG (lo hi:Option Int) (n:Nat):(sliceBounds lo hi none n).1=((HT.sIx n 0 lo:Nat):Int)/\(sliceBounds lo hi none n).2.1=((HT.sIx n n hi:Nat):Int)/\(sliceBounds lo hi none n).2.2=1:=by
 refine ⟨?_,?_,rfl⟩
 ·cases lo with
  | none=>simp [sliceBounds,HT.sIx]
  | some i=>
   simp only [sliceBounds,HT.sIx,Option.getD_none,show (1:Int)>0 by decide,if_true]
   by_cases h:i < 0
   ·simp only [h,if_true]<;>omega
   ·simp only [h,if_false]<;>omega
 ·cases hi with
  | none=>simp [sliceBounds,HT.sIx]
  | some i=>
   simp only [sliceBounds,HT.sIx,Option.getD_none,show (1:Int)>0 by decide,if_true]
   by_cases h:i < 0
   ·simp only [h,if_true]<;>omega
   ·simp only [h,if_false]<;>omega
theorem jC (its:List Value) (lo hi:Option Int):slicePick its.toArray lo hi none=((its.drop (HT.sIx its.length 0 lo)).take (HT.sIx its.length its.length hi - HT.sIx its.length 0 lo)).toArray:=by
 obtain ⟨h1,h2,h3⟩:=kG lo hi its.toArray.size
 unfold slicePick
 rw [h1,h2,h3]
 simp only [sliceRange_one,pick_run,List.size_toArray]<;>rfl
noncomputable def EB (K:PySem.W.Frag):V->Option Int->Option Int->Hp->VK->Prop:=λ x lo hi H Q=>∃a xs,x=.ref a/\SqL K H a xs/\∀p,H p=none->Q (.ref p) (upd H p (.lst (kC xs lo hi)))
theorem wU:SlR X (EB X.K):=by
 intro pins s σ H x v vl vu lo hi sl Q I rx hs pl pu h
 obtain ⟨a,xs,rfl,hx,q⟩:=h
 cases rx
 obtain ⟨its,r,ht,hz⟩:=I.list hx
 have hlen:=r.length
 refine ⟨"list",_,slot_list_getitem.lookup,ht.isList.typeIs,?_⟩
 refine wpAny_getItem_list_slice ht.isList hs pl pu .none (by simp) ?_ (by rw [List.size_toArray]<;>omega)
 rw [jC,<-hlen]
 refine ⟨.ref s.heap.objs.size,_,I.laid (t':=s.toks) (o:=.lst (kC xs lo hi)) (λ b ob q=>Heap.get?_push_of_some _ q) (Nat.le_refl _) ?_,rfl,q _ (I.hok.fresh (Nat.le_refl _))⟩
 exact ⟨Nat.le_trans (gW xs lo hi) hz,_,0,(r.drop (HT.sIx xs.length 0 lo)).take (HT.sIx xs.length xs.length hi - HT.sIx xs.length 0 lo),Heap.get?_push_size _ rfl⟩
theorem kH:bL X (.builtin "len") (λ xs H Q=>∃p ys,xs=[.ref p]/\(SqL X.K H p ys\/SqT X.K H p ys)/\Q (.int ys.length) H):=by
 intro pins s σ H xs us Q I r h
 obtain ⟨p,ys,rfl,hq,q⟩:=h
 obtain ⟨u,rfl,rx⟩:=vals1 r
 cases rx
 have hn:=fK
 rcases hq with hq | hq
 ·obtain ⟨its,r',pl,hz⟩:=I.list hq
  have hlen:=r'.length
  exact Calls.call_len_list pl.isList (by simp only [List.size_toArray]<;>omega) ⟨.int ys.length,H,I.tok _,⟨s.toks+1,by rw [List.size_toArray,hlen]⟩,q⟩
 ·obtain ⟨its,r',pl,hz⟩:=I.tuple hq
  have hlen:=r'.length
  exact len_tuple pl (by simp only [List.size_toArray]<;>omega) ⟨.int ys.length,H,I.tok _,⟨s.toks+1,by rw [List.size_toArray,hlen]⟩,q⟩
theorem kI:bL X (.builtin "len") (λ xs H Q=>∃z,xs=[.str z]/\z.length<=sizeLine/\Q (.int z.length) H):=by
 intro pins s σ H xs us Q I r h
 obtain ⟨z,rfl,hz,q⟩:=h
 obtain ⟨u,rfl,t,rfl⟩:=vals1 r
 have hn:=fK
 exact len_str (by omega) ⟨.int z.length,H,I.tok _,⟨_,rfl⟩,q⟩
theorem kJ:bL X (.type "list") (λ xs H Q=>∃p ys,xs=[.ref p]/\(SqL X.K H p ys\/SqT X.K H p ys)/\∀l,H l=none->Q (.ref l) (upd H l (.lst ys))):=by
 intro pins s σ H xs us Q I r h
 obtain ⟨p,ys,rfl,hq,q⟩:=h
 obtain ⟨u,rfl,rx⟩:=vals1 r
 cases rx
 have fin:∀(its:List Value),Vals ys its->ys.length<=sizeLine->∀(h':Heap) (c':Nat),(∀b o',s.heap.get? b=some o'->h'.get? b=some o')->
   h'.get? s.heap.objs.size=some {cls:=.type "list",dict:=none,data:=.seq its.toArray c',slots:=#[]}->EP X pins σ Q (.ref s.heap.objs.size) {s with heap:=h'}:=λ its r' hz h' c' kp e=>
  ⟨.ref s.heap.objs.size,_,I.laid (t':=s.toks) kp (Nat.le_refl _) (show bA X.prog X.w _ h' _ (.lst ys) from ⟨hz,its,c',r',e⟩),rfl,q _ (I.hok.fresh (Nat.le_refl _))⟩
 rcases hq with hq | hq
 ·obtain ⟨its,r',pl,hz⟩:=I.list hq
  have hlen:=r'.length
  obtain ⟨o,ho,hc,n,hd⟩:=pl.isList
  exact call_list_seq p (.inl rfl) ho hc hd (λ h' c' kp e=>fin its r' hz h' c' kp e) (by simp only [List.size_toArray]<;>omega)
 ·obtain ⟨its,r',pl,hz⟩:=I.tuple hq
  have hlen:=r'.length
  obtain ⟨o,ho,hc,n,hd⟩:=pl
  exact call_list_seq p (.inr rfl) ho hc hd (λ h' c' kp e=>fin its r' hz h' c' kp e) (by simp only [List.size_toArray]<;>omega)
theorem jD:bL X (.type "tuple") (λ xs H Q=>∃p ys,xs=[.ref p]/\((SqL X.K H p ys/\∀l,H l=none->Q (.ref l) (upd H l (.tup ys)))\/(SqT X.K H p ys/\Q (.ref p) H))):=by
 intro pins s σ H xs us Q I r h
 obtain ⟨p,ys,rfl,h⟩:=h
 obtain ⟨u,rfl,rx⟩:=vals1 r
 cases rx
 rcases h with ⟨hq,q⟩ | ⟨hq,q⟩
 ·obtain ⟨its,r',pl,hz⟩:=I.list hq
  have hlen:=r'.length
  refine call_tuple_list pl.isList (λ h' kp=>?_) (by simp only [List.size_toArray]<;>omega)
  have I1:Inv X pins σ H {s with heap:=h'}:=I.kept (t':=s.toks) kp
  have I2:Inv X pins σ (upd H h'.objs.size (.tup ys)) {s with heap:=h'.push {cls:=.type "tuple",data:=.seq its.toArray}}:=
   I1.laid (t':=s.toks) (λ b o e=>Heap.get?_push_of_some _ e) (Nat.le_refl _) (show bA X.prog X.w _ _ _ (.tup ys) from ⟨hz,its,r',IsTup.new _ _⟩)
  exact ⟨.ref h'.objs.size,_,I2,rfl,q _ (I1.hok.fresh (Nat.le_refl _))⟩
 ·obtain ⟨its,r',pl,hz⟩:=I.tuple hq
  exact call_tuple_same pl ⟨.ref p,H,I,rfl,q⟩
noncomputable def tyV (K:PySem.W.Frag) (T:String) (x:V) (H:Hp):Prop:=match x with
 | .str _=>T="str"
 | .int _=>T="int"
 | .ref p=>(T="list"/\∃xs,SqL K H p xs)\/(T="tuple"/\∃o,K.lookup p=some o/\o.cls=.type "tuple"/\o.dict=none)\/
   (T="dict"/\((∃kvs,H p=some (.dK kvs))\/∃kvs,H p=some (.dT kvs)))\/(T="set"/\∃S n,H p=some (.set S n))
 | _=>False
theorem tB {pins:List (Addr×Obj)} {σ:St} {H:Hp} {s:Shared} {T:String} {x:V} {v:Value} (I:Inv X pins σ H s) (r:RelV x v) (ty:tyV X.K T x H) :
  s.TypeIs v T/\∀a,v=.ref a->∃ob,s.heap.get? a=some ob/\ob.dict=none:=by
 cases x with
 | str z=>
  obtain ⟨t,rfl⟩:=r
  cases (show T="str" from ty)
  exact ⟨typeIs_str s z t,λ _ e=>nomatch e⟩
 | int i=>
  obtain ⟨t,rfl⟩:=r
  cases (show T="int" from ty)
  exact ⟨typeIs_int s i t,λ _ e=>nomatch e⟩
 | ref p=>
  cases r
  rcases ty with ⟨rfl,xs,hq⟩ | ⟨rfl,o,hk,hc,hd⟩ | ⟨rfl,hk⟩ | ⟨rfl,S,n,hk⟩
  ·obtain ⟨its,_,pl,_⟩:=I.list hq
   refine ⟨pl.isList.typeIs,λ a e=>?_⟩
   cases e
   obtain ⟨o,n,e,c,hd,_⟩:=pl
   exact ⟨o,e,hd⟩
  ·refine ⟨⟨o,I.kIn p o hk,hc⟩,λ a e=>?_⟩
   cases e
   exact ⟨o,I.kIn _ o hk,hd⟩
  ·have z:∃o,s.heap.get? p=some o/\o.ExactDict:=by
    rcases hk with ⟨kvs,hk⟩ | ⟨kvs,hk⟩
    ·obtain ⟨_,_,_,_,o,_,_,e,ex,_⟩:=I.hok p _ hk
     exact ⟨o,e,ex⟩
    ·obtain ⟨_,_,_,_,o,_,_,e,ex,_⟩:=I.hok p _ hk
     exact ⟨o,e,ex⟩
   obtain ⟨o,e,ex⟩:=z
   refine ⟨⟨o,e,ex.1⟩,λ a e2=>?_⟩
   cases e2
   exact ⟨o,e,ex.2.1⟩
  ·obtain ⟨o,_,_,_,e,ex,_⟩:=I.hok p _ hk
   refine ⟨⟨o,e,ex.1⟩,λ a e2=>?_⟩
   cases e2
   exact ⟨o,e,ex.2.1⟩
 | _=>exact False.elim ty
variable {o e:Expr} {es:List Expr} {to:TE} {t:TA} {name:Str} {apos cpos:Pos} {T id:String} {r:V->List V->Hp->VK->Prop}
end
end L2
namespace L2
open PySem PySem.Spec PyProof.Rows
noncomputable def MtM (X:Cx) (id:String) (r:V->List V->Hp->VK->Prop):Prop:=
 ∀(pins:List (Addr×Obj)) (s:Shared) (σ:St) (H:Hp) (x:V) (xs:List V) (v:Value) (us:List Value) (Q:VK),Inv X pins σ H s->RelV x v->Vals xs us->r x xs H Q->
  wpAny (model X.prog X.w) X.A (call (.builtin id) (v::us)) (EP X pins σ Q) X.xe s
theorem Vals.one:∀{x:V} {us:List Value},Vals [x] us->∃u,us=[u]/\RelV x u
 | _,_,.cons r .nil=>⟨_,rfl,r⟩
theorem Vals.zero:∀{us:List Value},Vals [] us->us=[]
 | _,.nil=>rfl
theorem Vals.dropLast {xs:List V} {us:List Value} (h:Vals xs us):Vals xs.dropLast us.dropLast:=by
 induction h with
 | nil=>exact .nil
 | cons r t ih=>
  cases t with
  | nil=>exact .nil
  | cons q t'=>exact .cons r ih
theorem Vals.eraseIdx:∀{xs:List V} {us:List Value} (i:Nat),Vals xs us->Vals (xs.eraseIdx i) (us.eraseIdx i)
 | _,_,_,.nil=>.nil
 | _,_,0,.cons _ t=>t
 | _,_,i+1,.cons r t=>.cons r (Vals.eraseIdx i t)
theorem Vals.reverse {xs:List V} {us:List Value} (h:Vals xs us):Vals xs.reverse us.reverse:=by
 induction h with
 | nil=>exact .nil
 | cons r t ih=>rw [List.reverse_cons,List.reverse_cons]; exact Vals.append ih (.cons r .nil)
theorem nX {α:Type} (l:List α):l.eraseIdx (l.length - 1)=l.dropLast:=by
 induction l with
 | nil=>rfl
 | cons a r ih=>
  cases r with
  | nil=>rfl
  | cons b r=>
   have e:(a::b::r).length - 1=((b::r).length - 1)+1:=by
    have h1:(a::b::r).length=r.length+2:=rfl
    have h2:(b::r).length=r.length+1:=rfl
    omega
   rw [e,List.eraseIdx_cons_succ,ih]
   all_goals rfl
theorem j0 {α:Type}:∀(l:List α) (i:Nat),(l.eraseIdx i).length<=l.length
 | [],_=>Nat.le_refl _
 | _::_,0=>Nat.le_succ _
 | _::r,i+1=>Nat.succ_le_succ (j0 r i)
section
variable {X:Cx} {pins:List (Addr×Obj)} {σ:St} {H:Hp} {s:Shared} {l b:Addr} {xs ys zs:List V}
theorem Inv.iT {its its':List Value} {n:Nat} {f:Array Value->Array Value} {t':Nat} (I:Inv X pins σ H s) (hH:H l=some (.lst xs))
  (e:s.heap.get? l=some {cls:=.type "list",data:=.seq its.toArray n}) (hf:f its.toArray=its'.toArray) (hv:Vals ys its') (hz:ys.length<=sizeLine) :
  Inv X pins σ (upd H l (.lst ys)) {s with heap:=s.heap.update l (Obj.mapSeq f),toks:=t'}:=by
 have q:=PySem.IsL.update e f
 rw [hf] at q
 refine I.write (x:=l) (e:=l) (by rw [hH]; exact trivial) (.inl rfl) (λ b' u hb hu=>(Heap.get?_update_other s.heap (Obj.mapSeq f) (Ne.symm hb)).trans hu) ⟨_,q⟩ ?_
 exact ⟨hz,its',_,hv,q⟩
theorem Inv.CH {its:List Value} {t':Nat} (I:Inv X pins σ H s) (hv:Vals ys its) (hz:ys.length<=sizeLine) :
  Inv X pins σ (upd H s.heap.objs.size (.lst ys)) {s with heap:=s.heap.push {cls:=.type "list",data:=.seq its.toArray},toks:=t'}:=
 I.laid (λ _ _ q=>Heap.get?_push_of_some _ q) (Nat.le_refl _) ⟨hz,its,0,hv,Heap.get?_push_size _ rfl⟩
theorem Inv.fresh (I:Inv X pins σ H s):H s.heap.objs.size=none:=I.hok.fresh (Nat.le_refl _)
theorem Inv.tD (I:Inv X pins σ H s) (hH:H l=some (.lst xs)):xs.length<=sizeLine/\∃(its:List Value) (n:Nat),Vals xs its/\xs.length=its.length/\s.heap.get? l=some {cls:=.type "list",data:=.seq its.toArray n}:=by
 obtain ⟨z,its,n,r,e⟩:=I.hok l _ hH
 exact ⟨z,its,n,r,r.length,e⟩
end
section
variable {X:Cx}
noncomputable def wV:V->List V->Hp->VK->Prop:=λ x vs H Q=>∃l xs y,x=.ref l/\vs=[y]/\H l=some (.lst xs)/\xs.length < sizeLine/\Q .non (upd H l (.lst (xs++[y])))
theorem j3:MtM X "list.append" wV:=by
 intro pins s σ H x vs v us Q I rx rv h
 obtain ⟨l,xs,y,rfl,rfl,hH,hz,q⟩:=h
 cases rx
 obtain ⟨u,rfl,ru⟩:=rv.one
 obtain ⟨z,its,n,r,hl,e⟩:=I.tD hH
 refine call_meets F.slot_list_append ⟨_,e,rfl⟩ F.entry_list_append (F.args_list_append_2 _ _) (PySem.list_append l its.toArray n u (by rw [List.size_toArray]; omega)) ⟨e,?_⟩
 refine ⟨.non,_,I.iT (its':=its++[u]) hH e (by simp) (r.append (.cons ru .nil)) ?_,rfl,q⟩
 rw [List.length_append,List.length_singleton]
 omega
noncomputable def EC:V->List V->Hp->VK->Prop:=λ x vs H Q=>∃l xs y,x=.ref l/\vs=[]/\H l=some (.lst xs)/\xs[xs.length - 1]?=some y/\Q y (upd H l (.lst xs.dropLast))
theorem Au:MtM X "list.pop" EC:=by
 intro pins s σ H x vs v us Q I rx rv h
 obtain ⟨l,xs,y,rfl,rfl,hH,hy,q⟩:=h
 cases rx
 have hus:=rv.zero
 subst hus
 obtain ⟨z,its,n,r,hl,e⟩:=I.tD hH
 obtain ⟨u,hu,ru⟩:=r.get hy
 have hy':its.toArray[its.toArray.size - 1]?=some u:=by
  show its.toArray[its.length - 1]?=some u
  rw [<-Array.getElem?_toList,<-hl]
  exact hu
 refine call_meets F.slot_list_pop ⟨_,e,rfl⟩ F.entry_list_pop (F.args_list_pop_1 _) (MeetsSeq.list_pop_last l its.toArray n u hy' (by rw [List.size_toArray]; omega)) ⟨e,?_⟩
 refine ⟨y,_,I.iT (its':=its.dropLast) hH e ?_ r.dropLast ?_,ru,q⟩
 ·show its.toArray.eraseIdxIfInBounds (its.toArray.size - 1)=its.dropLast.toArray
  rw [List.size_toArray,List.eraseIdxIfInBounds_toArray,nX]
 ·rw [List.length_dropLast]
  omega
noncomputable def Av:V->List V->Hp->VK->Prop:=λ x vs H Q=>∃l xs i k y,x=.ref l/\vs=[.int i]/\H l=some (.lst xs)/\-(2^63)<=i/\i < 2^63/\seqIndex? i xs.length=some k/\xs[k]?=some y/\Q y (upd H l (.lst (xs.eraseIdx k)))
theorem tE:MtM X "list.pop" Av:=by
 intro pins s σ H x vs v us Q I rx rv h
 obtain ⟨l,xs,i,k,y,rfl,rfl,hH,h1,h2,hk,hy,q⟩:=h
 cases rx
 obtain ⟨u,rfl,ru⟩:=rv.one
 obtain ⟨t,rfl⟩:=ru
 obtain ⟨z,its,n,r,hl,e⟩:=I.tD hH
 obtain ⟨w,hw,rw'⟩:=r.get hy
 refine call_meets F.slot_list_pop ⟨_,e,rfl⟩ F.entry_list_pop (F.args_list_pop_2 _ _)
  (MeetsSeq.list_pop_at l its.toArray n i t k w (fitsIndex_both h1 h2) (by rw [List.size_toArray,<-hl]; exact hk) (by rw [<-Array.getElem?_toList]; exact hw) (by rw [List.size_toArray]; omega)) ⟨e,?_⟩
 refine ⟨y,_,I.iT (its':=its.eraseIdx k) hH e ?_ (r.eraseIdx k) ?_,rw',q⟩
 ·show its.toArray.eraseIdxIfInBounds k=(its.eraseIdx k).toArray
  rw [List.eraseIdxIfInBounds_toArray]
 ·have:=j0 xs k
  omega
noncomputable def tF:V->List V->Hp->VK->Prop:=λ x vs H Q=>∃l xs,x=.ref l/\vs=[]/\H l=some (.lst xs)/\Q .non (upd H l (.lst xs.reverse))
theorem nY:MtM X "list.reverse" tF:=by
 intro pins s σ H x vs v us Q I rx rv h
 obtain ⟨l,xs,rfl,rfl,hH,q⟩:=h
 cases rx
 have hus:=rv.zero
 subst hus
 obtain ⟨z,its,n,r,hl,e⟩:=I.tD hH
 refine call_meets F.slot_list_reverse ⟨_,e,rfl⟩ F.entry_list_reverse (F.args_list_reverse_1 _) (AutoSeq1.list_reverse_list_0 l its.toArray n (by rw [List.size_toArray]; omega)) ⟨e,?_⟩
 refine ⟨.non,_,I.iT (its':=its.reverse) hH e (by simp) r.reverse ?_,rfl,q⟩
 rw [List.length_reverse]
 omega
noncomputable def Aw:V->List V->Hp->VK->Prop:=λ x vs H Q=>∃l xs,x=.ref l/\vs=[]/\H l=some (.lst xs)/\Q .non (upd H l (.lst []))
theorem tG:MtM X "list.clear" Aw:=by
 intro pins s σ H x vs v us Q I rx rv h
 obtain ⟨l,xs,rfl,rfl,hH,q⟩:=h
 cases rx
 have hus:=rv.zero
 subst hus
 obtain ⟨z,its,n,r,hl,e⟩:=I.tD hH
 refine call_meets F.slot_list_clear ⟨_,e,rfl⟩ F.entry_list_clear (F.args_list_clear_1 _) (AutoSeq1.list_clear_list_0 l its.toArray n (by rw [List.size_toArray]; omega)) ⟨e,?_⟩
 exact ⟨.non,_,I.iT (its':=[]) (ys:=[]) hH e rfl .nil (Nat.zero_le _),rfl,q⟩
end
section
variable {prog:Program} {w:World} {A:Around} {E:Value->Shared->Prop} {s:Shared}
end
section
variable {X:Cx}
end
end L2
namespace L2
open PySem PySem.Spec PyProof.Rows
section
variable {κ:Type} [DecidableEq κ]
end
section
variable {P:Program} {w:World} {H:Hp} {h:Heap} {a:Addr}
end
section
variable {X:Cx} {pins:List (Addr×Obj)} {σ:St} {H:Hp} {s:Shared} {a:Addr} {y v:V} {u r:Value} {o:Option V} {A:Around} {E:Value->Shared->Prop}
end
section
variable {X:Cx} {pins:List (Addr×Obj)} {σ:St} {H:Hp} {s:Shared} {a:Addr} {kvs:List (Key×V)} {k:Key} {u:Value} {A:Around} {E:Value->Shared->Prop}
end
section
variable {X:Cx} {o i e value:Expr} {pos pos' tpos:Pos} {td ty tv:TE}
end
section
variable {X:Cx} {pos:Pos}
end
section
variable {X:Cx} {pins:List (Addr×Obj)} {σ:St} {H:Hp} {s:Shared} {a:Addr} {y d:V} {u r:Value} {o:Option V} {A:Around} {E:Value->Shared->Prop}
end
section
variable {X:Cx} {o e f:Expr} {apos cpos:Pos} {td ty tx:TE}
end
section
variable {X:Cx} {pins:List (Addr×Obj)} {σ:St} {H:Hp} {s:Shared} {a:Addr} {kvs:List (Key×V)} {A:Around} {E:Value->Shared->Prop}
end
section
variable {X:Cx} {pins:List (Addr×Obj)} {σ:St} {H:Hp} {s:Shared} {a:Addr} {y:V} {u:Value} {A:Around} {E:Value->Shared->Prop}
end
end L2
namespace Att
open PySem PySem.W PySem.Calls PyProof.Rows
theorem iu {P:Params} {h:Heap}:∀(ns:List Int) (vs:List Value),WellAll P h vs (ns.map WData.int)->IntsAre vs ns:=by
 intro ns
 induction ns with
 | nil=>
  intro vs w
  rw [List.map_nil] at w
  cases w
  exact .nil
 | cons n ns ih=>
  intro vs w
  rw [List.map_cons] at w
  cases w with
  | cons a b=>
   cases a
   exact .cons _ _ (ih _ b)
theorem qS {l:OpenLaw} {n:Nat} (hn:l.most=some n) {P:Params} {h:Heap} {args:List WData} {vals:List Value}
  (hpre:l.row.toRowW.claim.pre args=true) (hwl:WellAll P h vals args) :
  ∃a vs ns,vals=[Value.ref a]/\args=[WData.list (ns.map WData.int)]/\h.get? a=some {cls:=.type "list",data:=.seq vs.toArray}/\IntsAre vs ns/\ns.length<=n:=by
 have hsh:WShape.hasAll [] args [.list .int]=true:=(pre_splitW hpre).1
 have hc:l.pre.holds [] {args:=args}=true:=(pre_splitW hpre).2
 obtain ⟨d,r,rfl,h1,h2⟩:=hasAllW_cons hsh
 obtain rfl:=hasAllW_nil h2
 obtain ⟨xs,rfl,h3⟩:=hasW_list h1
 obtain ⟨ns,rfl⟩:=items_int h3
 have hlen:ns.length<=n:=by
  unfold OpenLaw.pre at hc
  have h4:(WTm.not (.lt (.lit (.int (n:Int))) (.len (.arg 0)))).holds [] {args:=[.list (ns.map .int)]}=true:=by
   have h4:=(holds_andW hc).1
   rw [hn] at h4
   exact h4
  have h5:=condW_of h4 (w_not (w_lt w_lit (w_len_list (w_arg rfl))))
  rw [List.length_map] at h5
  refine Nat.le_of_not_lt λ q=>?_
  have q':(n:Int) < ((ns.length:Nat):Int):=by omega
  first
   | (rw [decide_eq_true q'] at h5; exact absurd h5 (by decide))
   | (simp at h5; omega)
 cases hwl with
 | cons w1 w2=>
  cases w2
  cases w1 with
  | list ho hall=>exact ⟨_,_,ns,rfl,rfl,ho,iu ns _ hall,hlen⟩
theorem qT (l:OpenLaw) (args:List WData):l.row.toRowW.claim.post args (.bool true) args=true:=
 postW_of (r:=l.row.toRowW) (X:=(true==true))
  (show WShape.has [] (.bool true) .bool=true by first | rfl | decide | simp [WShape.has,WShape.arms,WShape.armsAll])
  (show (WTm.eq .res (.lit (.bool true))).value [] {args:=args,res:=some (.bool true),after:=args}=some (.bool (true==true)) from w_eq_bool (w_res rfl) w_lit) rfl
theorem lX {l:OpenLaw} {n:Nat} {q:Program} {loose:List Str} {XP:(Str->Option Value)->Heap->Prop} {YP:World->Heap->Prop} {d:DefRec}
  (hn:l.most=some n) (hdf:d.params.defaults=[])
  (call:∀(w:World) (s₀ s₁:Shared) (mg mb:Str->Option Value) (fa:Addr) (o:Obj) (pm cd doc:Value) (a:Addr) (vs:List Value) (ns:List Int),
   Ground q loose [] XP w s₀ mg mb s₁.heap->YP w s₁.heap->
   s₁.heap.get? fa=some o->o.data=.func (docDef d.name d.params d.body d.scope pm cd doc)->s₁.heap.CodeRec cd d.name->mg d.name=some (.ref fa)->
   s₁.heap.get? a=some {cls:=.type "list",data:=.seq vs.toArray}->IntsAre vs ns->ns.length<=n->s₁.gens=#[]->
   codeAny (model l.prog w) callerA (.call (.ref fa) ⟨[.ref a],[]⟩) (λ r s'=>r=.ok (.ret (.bool true))/\OldK s₁.heap s'.heap/\s'.os=s₁.os/\AllBare s'.gens) s₁) :
  WalkO q loose XP YP l.row.toRowW d [] (λ f vs=>PySem.call f vs):=by
 intro w s₀ s₁ mg mb G Y fa o pm cd doc dV kV ho hd hcd hD hmg hg args vals as hpre hlay hrd hwl hlo
 obtain rfl:dV=.none:=Dflts.none hD hdf
 obtain rfl:kV=.none:=Dflts.noKw hD
 obtain ⟨a,vs,ns,rfl,rfl,hobj,hints,hlen⟩:=qS hn hpre hwl
 refine enter_call (codeAny_mono (call w s₀ s₁ mg mb fa o pm cd doc a vs ns G Y ho (fd_plain hd) hcd hmg hobj hints hlen hg) λ r s' hq=>?_)
 obtain ⟨rfl,h2,h3,h4⟩:=hq
 exact ⟨.inl ⟨.bool true,.bool true,[],rfl,λ _=>rfl,.bool true,qT l _,λ _=>⟨List.Pairwise.nil,λ _ hm=>(nomatch hm)⟩⟩,h2,h3,h4⟩
section
variable {prog:Program} {w:World} {A:Around} {E:Value->Shared->Prop} {s:Shared} {K:Frag}
end
end Att
namespace L2
open PySem PySem.Spec PyProof.Rows
theorem j4:∀{vs:List Value} {ns:List Int},IntsAre vs ns->Vals (ns.map V.int) vs
 | _,_,.nil=>.nil
 | _,_,.cons n t h=>.cons ⟨t,rfl⟩ (j4 h)
noncomputable def Ax (H:Hp):Prop:=∀b,H b=none\/∃o xs,H b=some (.frz o (.lst xs))
theorem tH {P:Program} {w:World} {K:PySem.W.Frag} {mg mb:Str->Option Value} {CX:CXT} {k:Nat} {fa a:Addr} {fd:FuncData} {x:Str} {sp:Sp} {s₁:Shared} {vs:List Value} {ns:List Int}
  (KX:K.In s₁.heap) (hns:s₁.heap.Ns mainGlobals mg) (hb:s₁.heap.Ns builtinsNs mb) (hbb:∀x:Str,x≠"__name__"->mb x=bootBuiltins x) (hlim:s₁.heap.NoLimit) (hg:s₁.gens=#[])
  (ha:s₁.heap.get? a=some {cls:=.type "list",data:=.seq vs.toArray}) (hi:IntsAre vs ns) (hl:ns.length<=sizeLine) (hr:bZ k callerA)
  (F:∀base:Heap,K.In base->base.Ns mainGlobals mg->dH P w K mg base CX k fa fd [x] sp) (hbind:∀(s:Shared) (u:Value),BindsTo s fd ⟨[u],[]⟩ [(x,u)])
  (hsp:∀H:Hp,Ax H->SqL K H a (ns.map V.int)->sp [.ref a] H (λ v _=>v=.bl true) λ _ _ _=>False)
  (hCX:∀H e s',CX [] H s₁ (λ _ _ _=>False) e s'->False) :
  codeAny (model P w) callerA (.call (.ref fa) ⟨[.ref a],[]⟩) (λ r s'=>r=.ok (.ret (.bool true))/\OldK s₁.heap s'.heap/\s'.os=s₁.os/\AllBare s'.gens) s₁:=by
 have rv:=j4 hi
 have ED:=hi.length
 have core:∀H:Hp,Ax H->SqL K H a (ns.map V.int)->HOk P w H s₁.heap->(∀b,H b≠none->b=a)->(H a≠none->K.lookup a=none)->
   codeAny (model P w) callerA (.call (.ref fa) ⟨[.ref a],[]⟩) (λ r s'=>r=.ok (.ret (.bool true))/\OldK s₁.heap s'.heap/\s'.os=s₁.os/\AllBare s'.gens) s₁:=by
  intro H hO hS hok hA hK
  have pL:∀{b:Addr} {o:Obj},s₁.heap.get? b=some o->H b=none->(ki s₁.heap H).get? b=some o:=λ e n=>sG e n
  have noA:∀{b:Addr} {o:Obj} {es:Array DictEntry} {ep:Nat},s₁.heap.get? b=some o->o.data=.dict es ep->H b=none:=λ {b o es ep} e d=>by
   cases q:H b with
   | none=>rfl
   | some u=>
    have e':b=a:=hA b (by rw [q]; simp)
    subst e'
    rw [ha] at e; cases e
    have d':Data.seq vs.toArray _=Data.dict es ep:=d
    cases d'
  have nsK:∀{b:Addr} {m:Str->Option Value},s₁.heap.Ns b m->(ki s₁.heap H).Ns b m:=λ {b m} ⟨o,es,ep,e,d,r⟩=>⟨o,es,ep,pL e (noA e d),d,r⟩
  have hKb:K.In (ki s₁.heap H):=λ b o e=>pL (KX b o e) (by
   cases q:H b with
   | none=>rfl
   | some u=>
    have e':b=a:=hA b (by rw [q]; simp)
    subst e'
    rw [hK (by rw [q]; simp)] at e; cases e)
  have hM:Mod K mg (ki s₁.heap H):=⟨hKb,nsK hns,⟨mb,nsK hb,hbb⟩,let ⟨mc,h1,h2⟩:=hlim; ⟨mc,nsK h1,h2⟩⟩
  have e0:nO P w K mg (ki s₁.heap H) callerA [] s₁ H:=⟨rfl,hM,λ b o e=>vX e,Nat.le_of_eq (qG _ _),trivial,λ b hb=>absurd (show b∈([]:List Addr) from hb) (by simp),hok,.of_eq hg⟩
  refine codeAny_mono ((F _ hKb (nsK hns)).run callerA [] s₁ H ⟨[.ref a],[]⟩ [.ref a] [.ref a] _ _ hr e0 (hbind s₁ (.ref a)) (.cons rfl .nil) (hsp H hO hS)) λ r s' h=>?_
  cases r with
  | error e=>exact (hCX H e s' h).elim
  | ok fl=>
   cases fl with
   | next=>exact False.elim h
   | brk=>exact False.elim h
   | cont=>exact False.elim h
   | ret u=>
    obtain ⟨v,H',os,bare,un,hok',r',q⟩:=h
    have q':v=.bl true:=q
    subst q'
    obtain rfl:u=Value.bool true:=r'
    refine ⟨rfl,OldK.of_keep λ b o e=>?_,os,bare⟩
    cases q:H b with
    | none=>exact un.keep b o e q (by intro z; exact absurd (show b∈([]:List Addr) from z) (by simp)) (by simp)
    | some u=>
     rcases hO b with z | ⟨ob,xs,z⟩
     ·rw [q] at z; cases z
     ·have z2:=un.ie b ob _ z
      obtain ⟨e1,_⟩:=hok b _ z
      obtain ⟨e2,_⟩:=hok' b _ z2
      rw [e] at e1; cases e1
      exact e2
 cases hk:K.lookup a with
 | some o=>
  have e:=KX a o hk
  rw [ha] at e
  cases e
  refine core (λ _=>none) (λ _=>.inl rfl) (.inr ⟨_,vs.toArray,_,hk,rfl,rfl,rfl,by rw [List.size_toArray,ED]; exact hl,by simpa using rv⟩) (λ b u z=>by have z':(none:Option HO)=some u:=z; cases z') (λ b z=>absurd rfl z) λ z=>absurd rfl z
 | none=>
  refine core (λ b=>if b=a then some (.frz {cls:=.type "list",data:=.seq vs.toArray} (.lst (ns.map V.int))) else none) (λ b=>?_) (.inl (.inr ⟨{cls:=.type "list",data:=.seq vs.toArray},if_pos rfl⟩)) (λ b u z=>?_) (λ b z=>?_) λ _=>hk
  ·by_cases hb:b=a
   ·exact .inr ⟨_,_,if_pos hb⟩
   ·exact .inl (if_neg hb)
  ·by_cases hb:b=a
   ·have z':=(if_pos hb).symm.trans z
    cases z'
    subst hb
    exact ⟨ha,by rw [List.length_map]; exact hl,vs,_,rv,ha⟩
   ·have z':=(if_neg hb).symm.trans z
    cases z'
  ·by_cases hb:b=a
   ·exact hb
   ·exact absurd (if_neg hb) z
end L2
namespace L2
open PySem PySem.Spec PyProof.Rows
theorem wW {l:PySem.W.OpenLaw} {n k:Nat} {q:Program} {loose:List Str} {XP:(Str->Option Value)->Heap->Prop} {YP:World->Heap->Prop} {d:DefRec} {K:Params->PySem.W.Frag} {CX:World->CXT} {sp:World->Sp} {x:Str}
  (hn:l.most=some n) (hn2:n<=sizeLine) (hdf:d.params.defaults=[]) (hr:bZ k callerA)
  (hY:∀(w:World) (h:Heap),YP w h->(K w.params).In h)
  (F:∀(w:World) (mg:Str->Option Value) (fa:Addr) (h:Heap),(K w.params).In h->h.Ns mainGlobals mg->mg d.name=some (.ref fa)->
   ∃fd:FuncData,(∀(s:Shared) (u:Value),BindsTo s fd ⟨[u],[]⟩ [(x,u)])/\
    ∀base:Heap,(K w.params).In base->base.Ns mainGlobals mg->dH l.prog w (K w.params) mg base (CX w) k fa fd [x] (sp w))
  (hsp:∀(w:World) (H:Hp) (a:Addr) (ns:List Int),ns.length<=n->Ax H->SqL (K w.params) H a (ns.map V.int)->sp w [.ref a] H (λ v _=>v=.bl true) λ _ _ _=>False)
  (hCX:∀(w:World) (H:Hp) (s:Shared) (e:Value) (s':Shared),CX w [] H s (λ _ _ _=>False) e s'->False) :
  PySem.W.WalkO q loose XP YP l.row.toRowW d [] (λ f vs=>PySem.call f vs):=by
 refine Att.lX hn hdf λ w s₀ s₁ mg mb fa o pm cd doc a vs ns G Y ho hd hcd hmg hobj hints hlen hg=>?_
 have KX:=hY w _ Y
 obtain ⟨fd,hb,hF⟩:=F w mg fa _ KX G.T.g hmg
 exact tH KX G.T.g G.T.b G.T.builtins G.T.nolimit hg hobj hints (Nat.le_trans hlen hn2) hr hF hb (λ H hO hS=>hsp w H a ns hlen hO hS) λ H e s'=>hCX w H s₁ e s'
end L2
namespace L2
open PySem PySem.Spec PyProof.Rows
noncomputable def inClass (s:Stmt) (j:Nat):Stmt:=match s with
 | .ClassDef _ _ _ body _ _ _ _ _ _ _=>body.getD j (.Pass ⟨0,0,0,0⟩)
 | _=>.Pass ⟨0,0,0,0⟩
noncomputable def eX (s:Stmt):Arguments:=match s with
 | .FunctionDef _ a _ _ _ _ _ _ _ _=>a
 | _=>{posonlyargs:=[],args:=[],vararg:=none,kwonlyargs:=[],kw_defaults:=[],kwarg:=none,defaults:=[]}
noncomputable def cN (s:Stmt):List Stmt:=match s with
 | .FunctionDef _ _ b _ _ _ _ _ _ _=>b
 | _=>[]
noncomputable def aO (s:Stmt):Scope:=match s with
 | .FunctionDef _ _ _ _ _ _ sc _ _ _=>sc
 | _=>{kind:=.function,names:=[],isGenerator:=false,isCoroutine:=false}
abbrev CX0:CXT:=λ _ _ _ _ _ _=>False
abbrev E0:XK:=λ _ _ _=>False
theorem lY {X:Cx}:Passes CX0 X E0:=λ _ _ _ _ _ _ _ h=>h.elim
structure Fun (K:PySem.W.Frag) (x qual:Str) (st:Stmt) (f:Addr) (fd:FuncData):Prop where
 ex:∃(oc:Value) (od:Option Addr) (kV doc pm:Value) (an:Option Addr) (cdv ct:Value) (osl:Array (Option Value)),
  fd=PySem.W.fnOf x qual (eX st) (cN st) (aO st) .none kV doc pm an cdv ct/\K.lookup f=some ⟨oc,od,.func fd,osl⟩/\PySem.W.codeIn K cdv qual=true
 kp:PySem.W.keepIn K (.ref f)=true
section
variable {P:Program} {w:World} {K:PySem.W.Frag} {mg:Str->Option Value} {base:Heap}
theorem Fun.ok {x qual:Str} {st:Stmt} {f:Addr} {fd:FuncData} {N ps:List Str} {k:Nat} {sp:Sp} (F:Fun K x qual st f fd) (S:iD N ps (aO st)) (len:∀vs H Q E,sp vs H Q E->vs.length=ps.length)
  (hbody:∀(cdv:Value) (A:Around) (outer:List Env) (s:Shared) (H:Hp) (vs:List V) (Q:VK) (E:XK),bZ k (A.deeper (envOfC qual (aO st) s.heap.objs.size f cdv))->sp vs H Q E->
   ∃t,PSs (nP CX0 P w K mg base N qual (aO st) f cdv A outer s H E).nox (cN st) t/\t {nx:=λ _ H'=>Q .non H',rt:=Q} (start N vs) H):dH P w K mg base CX0 (k+1) f fd ps sp:=by
 obtain ⟨oc,od,kV,doc,pm,an,cdv,ct,osl,rfl,lk,hcd⟩:=F.ex
 refine CA lk hcd S len λ A outer s H vs Q E hr hsp=>?_
 obtain ⟨t,h,q⟩:=hbody cdv A outer s H vs Q E hr hsp
 exact ⟨t,h.nox,q⟩
theorem Ay {x qual:Str} {st:Stmt} {f:Addr} {oc:Value} {od an:Option Addr} {osl:Array (Option Value)} {kV doc pm cdv ct:Value} (l:K.lookup f=some ⟨oc,od,.func (PySem.W.fnOf x qual (eX st) (cN st) (aO st) .none kV doc pm an cdv ct),osl⟩)
  (c:PySem.W.codeIn K cdv qual=true) (k:PySem.W.keepIn K (.ref f)=true):Fun K x qual st f (PySem.W.fnOf x qual (eX st) (cN st) (aO st) .none kV doc pm an cdv ct):=⟨⟨oc,od,kV,doc,pm,an,cdv,ct,osl,rfl,l,c⟩,k⟩
end
section
variable {X:Cx}
end
section
variable {κ:Type} [DecidableEq κ]
end
end L2
end
section
namespace L2
open PySem PySem.Spec PyProof.Rows
section
variable {prog:Program} {w:World} {A:Around} {R:Result->Shared->Prop} {s:Shared}
end
noncomputable def clr:List Nat->St->St
 | [],σ=>σ
 | j::r,σ=>clr r (σ.set j none)
theorem pM:∀(js:List Nat) (σ:St),(clr js σ).length=σ.length
 | [],_=>rfl
 | j::r,σ=>by rw [clr,pM r,List.length_set]
theorem lZ:∀{js:List Nat} {σ:St} {i:Nat} {v:V},(clr js σ)[i]?=some (some v)->σ[i]?=some (some v)/\i∉js
 | [],_,_,_,h=>⟨h,by simp⟩
 | j::r,σ,i,v,h=>by
  obtain ⟨h1,h2⟩:=lZ (js:=r) h
  by_cases e:j=i
  ·subst e
   rw [List.getElem?_set] at h1
   rw [if_pos rfl] at h1
   split at h1<;>cases h1
  ·rw [List.getElem?_set_ne e] at h1
   exact ⟨h1,λ hm=>(List.mem_cons.mp hm).elim (λ q=>e q.symm) h2⟩
noncomputable def cj (env:Env):List (Str×NameKind)->List (Str×Addr)->List (Str×Addr)
 | [],acc=>acc
 | (n,k)::r,acc=>cj env r (if k==.free then (match env.cells.lookup n with | some c=>(n,c)::acc | none=>acc) else acc)
theorem fD {env:Env}:∀(names:List (Str×NameKind)) (acc:List (Str×Addr)),(∀y∈names,y.2=.free->∃c,env.cells.lookup y.1=some c)->
  (forIn (m:=Sem) names acc λ x r=>match x with | (name,kind)=>if (kind==NameKind.free)=true then do let a <-cellOf env name; pure (ForInStep.yield ((name,a)::r)) else pure (ForInStep.yield r))=pure (cj env names acc)
 | [],acc,_=>rfl
 | (n,k)::r,acc,h=>by
  rw [List.forIn_cons]
  have hr:=λ acc=>fD r acc λ y hy=>h y (List.mem_cons_of_mem _ hy)
  by_cases hk:k=.free
  ·subst hk
   obtain ⟨c,e⟩:=h (n,.free) List.mem_cons_self rfl
   have e:env.cells.lookup n=some c:=e
   simp only [beq_self_eq_true,if_true,cellOf,e,pure_bind,cj]
   exact hr _
  ·have hb:(k==NameKind.free)=false:=by simpa using hk
   simp only [hb,Bool.false_eq_true,if_false,pure_bind,cj]
   exact hr _
theorem jE {scope:Scope} {env:Env} (h:∀y∈scope.names,y.2=.free->∃c,env.cells.lookup y.1=some c):closureFor scope env=pure (cj env scope.names []):=by
 have q:=fD (env:=env) scope.names [] h
 simp only [closureFor]
 first
  | (rw [q]; rfl)
  | (simp only [pure_bind,bind_pure_comp,map_pure] at q ⊢; rw [q]; rfl)
  | exact (congrArg (· >>= pure) q)
  | trace_state
theorem gr {env:Env} {x:Str} {c:Addr}:∀(names:List (Str×NameKind)) (acc:List (Str×Addr)),(∀c,acc.lookup x=some c->env.cells.lookup x=some c)->(cj env names acc).lookup x=some c->env.cells.lookup x=some c
 | [],acc,h,e=>h _ e
 | (n,k)::r,acc,h,e=>by
  refine gr r _ ?_ e
  intro c' e'
  split at e'
  ·split at e'
   ·rename_i c2 e2
    by_cases hx:x=n
    ·subst hx
     simp only [List.lookup_cons,beq_self_eq_true] at e'
     cases e'
     exact e2
    ·have hb:(x==n)=false:=by simpa using hx
     simp only [List.lookup_cons,hb] at e'
     exact h _ e'
   ·exact h _ e'
  ·exact h _ e'
theorem j5 {env:Env} {x:Str}:∀(names:List (Str×NameKind)) (acc:List (Str×Addr)),(∃c,acc.lookup x=some c)->∃c,(cj env names acc).lookup x=some c
 | [],acc,h=>h
 | (n,k)::r,acc,h=>by
  refine j5 r _ ?_
  split
  ·split
   ·rename_i c2 e2
    by_cases hx:x=n
    ·subst hx
     exact ⟨c2,by simp [List.lookup_cons]⟩
    ·have hb:(x==n)=false:=by simpa using hx
     obtain ⟨c,e⟩:=h
     exact ⟨c,by simp only [List.lookup_cons,hb]; exact e⟩
   ·exact h
  ·exact h
theorem gv {env:Env} {x:Str}:∀(names:List (Str×NameKind)) (acc:List (Str×Addr)),(x,NameKind.free)∈names->(∃c,env.cells.lookup x=some c)->∃c,(cj env names acc).lookup x=some c
 | (n,k)::r,acc,hm,⟨c,e⟩=>by
  rcases List.mem_cons.mp hm with q | q
  ·cases q
   refine j5 r _ ⟨c,?_⟩
   simp only [beq_self_eq_true,if_true,e,List.lookup_cons]
  ·exact gv r _ q ⟨c,e⟩
structure fM (N:List Str) (js:List Nat) (scope osc:Scope):Prop where
 kind:scope.kind=.function
 cell:∀y∈scope.names,y.2=.cell->scope.names.lookup y.1=some .cell
 loc:∀y∈scope.names,y.2=.local->scope.names.lookup y.1=some .local
 own:∀p∈N.zipIdx,(scope.names.lookup p.1=some .local\/scope.names.lookup p.1=some .cell)->p.2∈js
 free:∀y∈scope.names,y.2=.free->osc.names.lookup y.1=some .cell\/osc.names.lookup y.1=some .free
theorem cW {env:Env}:∀{names:List (Str×NameKind)} {x:Str} {k':NameKind},
  (names.map λ (n,k)=>if (k==NameKind.free&&env.scope.kind==.function&&env.kindOf n==some .cell) then (n,NameKind.cell) else (n,k)).lookup x=some k'->
  ∃k,names.lookup x=some k/\(k'=k\/(k=.free/\k'=.cell))
 | [],_,_,h=>by simp at h
 | (n,k)::r,x,k',h=>by
  have ih:=@cW env r x k'
  have h:List.lookup x ((if (k==NameKind.free&&env.scope.kind==.function&&env.kindOf n==some .cell)=true then (n,NameKind.cell) else (n,k))::(r.map λ (n,k)=>if (k==NameKind.free&&env.scope.kind==.function&&env.kindOf n==some .cell) then (n,NameKind.cell) else (n,k)))=some k':=h
  by_cases hc:(k==NameKind.free&&env.scope.kind==.function&&env.kindOf n==some .cell)=true
  ·rw [if_pos hc] at h
   have hk:k=.free:=by
    simp only [Bool.and_eq_true] at hc
    simpa using hc.1.1
   cases hx:x==n with
   | true=>
    simp only [List.lookup_cons,hx] at h
    cases h
    exact ⟨k,by simp [List.lookup_cons,hx],.inr ⟨hk,rfl⟩⟩
   | false=>
    simp only [List.lookup_cons,hx] at h
    obtain ⟨k2,e,r2⟩:=ih h
    exact ⟨k2,by simp only [List.lookup_cons,hx]; exact e,r2⟩
  ·rw [if_neg hc] at h
   cases hx:x==n with
   | true=>
    simp only [List.lookup_cons,hx] at h
    cases h
    exact ⟨k,by simp [List.lookup_cons,hx],.inl rfl⟩
   | false=>
    simp only [List.lookup_cons,hx] at h
    obtain ⟨k2,e,r2⟩:=ih h
    exact ⟨k2,by simp only [List.lookup_cons,hx]; exact e,r2⟩
abbrev Cx.comp (X:Cx) (scope:Scope) (cl:List (Str×Addr)) (s₀:Shared) (H₀:Hp) (fp:List Addr) (pins:List (Addr×Obj)):Cx:=
 {X with s₀:=s₀,H₀:=H₀,env:=compEnvC scope cl s₀.heap.objs.size X.env,outer:=X.stack,stack:=X.stack,ex:=fp,fn:=λ x=>scope.names.lookup x==some .cell,pn:=X.pn++pins,xe:=λ _ _=>False}
section
variable {X:Cx} {pins:List (Addr×Obj)} {σ:St} {H:Hp} {s:Shared} {scope:Scope} {js:List Nat} {fp:List Addr}
theorem iV (ok:fM X.N js scope X.env.scope) {x:Str} (hx:(relabel scope X.env).names.lookup x=some .cell\/(relabel scope X.env).names.lookup x=some .free) :
  scope.names.lookup x=some .cell\/(scope.names.lookup x=some .free/\(x,NameKind.free)∈scope.names/\(X.env.kindOf x=some .cell\/X.env.kindOf x=some .free)):=by
 have k:∃k',(relabel scope X.env).names.lookup x=some k'/\(k'=.cell\/k'=.free):=by
  rcases hx with h | h
  ·exact ⟨_,h,.inl rfl⟩
  ·exact ⟨_,h,.inr rfl⟩
 obtain ⟨k',h,hk⟩:=k
 obtain ⟨k,e,r⟩:=cW h
 have fr:k=.free->scope.names.lookup x=some .cell\/(scope.names.lookup x=some .free/\(x,NameKind.free)∈scope.names/\(X.env.kindOf x=some .cell\/X.env.kindOf x=some .free)):=λ hf=>by
  subst hf
  exact .inr ⟨e,PySem.mem_of_lookup e,ok.free _ (PySem.mem_of_lookup e) rfl⟩
 rcases r with r | r
 ·subst r
  rcases hk with z | z
  ·subst z; exact .inl e
  ·exact fr z
 ·exact fr r.1
theorem Az {x:Str}:∀{names:List (Str×NameKind)} {n:Nat} {acc:List (Str×Addr)},(∀y∈names,y.2=.cell->y.1≠x)->(cellsFrom n names acc).lookup x=acc.lookup x:=by
 intro names
 induction names with
 | nil=>intro n acc _; rw [cellsFrom.eq_def]
 | cons y r ih=>
  intro n acc h
  rw [cellsFrom.eq_def]
  obtain ⟨nm,k⟩:=y
  have hr:=λ y hy=>h y (List.mem_cons_of_mem _ hy)
  by_cases hk:k=.cell
  ·have hb:(k==NameKind.cell)=true:=by simpa using hk
   simp only [hb,if_true]
   rw [ih hr]
   have:=h (nm,k) List.mem_cons_self hk
   have hx:(x==nm)=false:=by simpa using this.symm
   simp only [List.lookup_cons,hx]
  ·have hb:(k==NameKind.cell)=false:=by simpa using hk
   simp only [hb,Bool.false_eq_true,if_false]
   exact ih hr
structure tK (n:Nat) (h:Heap) (cells:List (Str×Addr)):Prop where
 below:∀x c,cells.lookup x=some c->c < n
 inj:∀x y c,cells.lookup x=some c->cells.lookup y=some c->x=y
 cell:∀x c,cells.lookup x=some c->∃v,h.IsCell c v
theorem CI {lo:Nat} {base:List (Str×Addr)}:∀{names:List (Str×NameKind)} {h:Heap} {acc:List (Str×Addr)},tK h.objs.size h acc->lo<=h.objs.size->(∀x c,acc.lookup x=some c->base.lookup x=some c\/lo<=c)->
  tK (pushCells h names).objs.size (pushCells h names) (cellsFrom h.objs.size names acc)/\∀x c,(cellsFrom h.objs.size names acc).lookup x=some c->base.lookup x=some c\/lo<=c:=by
 intro names
 induction names with
 | nil=>intro h acc F _ hb; rw [cellsFrom.eq_def,pushCells.eq_def]; exact ⟨F,hb⟩
 | cons y r ih=>
  intro h acc F hlo hb
  rw [cellsFrom.eq_def,pushCells.eq_def]
  obtain ⟨nm,k⟩:=y
  by_cases hk:k=.cell
  ·have hbk:(k==NameKind.cell)=true:=by simpa using hk
   simp only [hbk,if_true]
   have hsz:(h.push {cls:=.type "cell",data:=.cell none}).objs.size=h.objs.size+1:=Heap.size_push ..
   rw [<-hsz]
   refine ih ⟨λ x c e=>?_,λ x y c e1 e2=>?_,λ x c e=>?_⟩ (by rw [hsz]; omega) λ x c e=>?_
   ·rw [hsz]
    by_cases hx:x=nm
    ·subst hx; simp only [List.lookup_cons,beq_self_eq_true] at e; cases e; exact Nat.lt_succ_self _
    ·have hx:(x==nm)=false:=by simpa using hx
     simp only [List.lookup_cons,hx] at e
     exact Nat.lt_succ_of_lt (F.below x c e)
   ·by_cases hx:x=nm
    ·by_cases hy:y=nm
     ·exact hx.trans hy.symm
     ·subst hx
      have hy:(y==x)=false:=by simpa using hy
      simp only [List.lookup_cons,beq_self_eq_true] at e1
      simp only [List.lookup_cons,hy] at e2
      cases e1
      exact absurd (F.below y _ e2) (Nat.lt_irrefl _)
    ·have hx':(x==nm)=false:=by simpa using hx
     simp only [List.lookup_cons,hx'] at e1
     by_cases hy:y=nm
     ·subst hy
      simp only [List.lookup_cons,beq_self_eq_true] at e2
      cases e2
      exact absurd (F.below x _ e1) (Nat.lt_irrefl _)
     ·have hy:(y==nm)=false:=by simpa using hy
      simp only [List.lookup_cons,hy] at e2
      exact F.inj x y c e1 e2
   ·by_cases hx:x=nm
    ·subst hx; simp only [List.lookup_cons,beq_self_eq_true] at e; cases e
     exact ⟨none,_,Heap.get?_push_size _ rfl,rfl⟩
    ·have hx:(x==nm)=false:=by simpa using hx
     simp only [List.lookup_cons,hx] at e
     obtain ⟨v,o,ho,hd⟩:=F.cell x c e
     exact ⟨v,o,Heap.get?_push_of_some _ ho,hd⟩
   ·by_cases hx:x=nm
    ·subst hx; simp only [List.lookup_cons,beq_self_eq_true] at e; cases e; exact .inr hlo
    ·have hx:(x==nm)=false:=by simpa using hx
     simp only [List.lookup_cons,hx] at e
     exact hb x c e
  ·have hbk:(k==NameKind.cell)=false:=by simpa using hk
   simp only [hbk,Bool.false_eq_true,if_false]
   exact ih F hlo hb
theorem AA {x:Str} {lo:Nat}:∀{names:List (Str×NameKind)} {n:Nat} {acc:List (Str×Addr)} {c:Addr},lo<=n->((x,NameKind.cell)∈names\/∀c,acc.lookup x=some c->lo<=c)->(cellsFrom n names acc).lookup x=some c->lo<=c:=by
 intro names
 induction names with
 | nil=>intro n acc c _ h e; rw [cellsFrom.eq_def] at e; exact (h.resolve_left (by simp)) c e
 | cons y r ih=>
  intro n acc c hn h e
  rw [cellsFrom.eq_def] at e
  obtain ⟨nm,k⟩:=y
  by_cases hk:k=.cell
  ·have hb:(k==NameKind.cell)=true:=by simpa using hk
   simp only [hb,if_true] at e
   refine ih (Nat.le_succ_of_le hn) ?_ e
   by_cases hx:x=nm
   ·subst hx
    refine .inr λ c e=>?_
    simp only [List.lookup_cons,beq_self_eq_true] at e
    cases e; exact hn
   ·rcases h with h | h
    ·rcases List.mem_cons.mp h with q | q
     ·cases q; exact absurd rfl hx
     ·exact .inl q
    ·refine .inr λ c e=>h c ?_
     have hx:(x==nm)=false:=by simpa using hx
     simpa only [List.lookup_cons,hx] using e
  ·have hb:(k==NameKind.cell)=false:=by simpa using hk
   simp only [hb,Bool.false_eq_true,if_false] at e
   refine ih hn ?_ e
   rcases h with h | h
   ·rcases List.mem_cons.mp h with q | q
    ·cases q; exact absurd rfl hk
    ·exact .inl q
   ·exact .inr h
structure CF (X:Cx) (scope:Scope) (n:Nat) (h:Heap) (cells:List (Str×Addr)):Prop where
 inj:∀x y c,cells.lookup x=some c->cells.lookup y=some c->x=y
 cell:∀x c,cells.lookup x=some c->∃v,h.IsCell c v
 old:∀x c,cells.lookup x=some c->X.env.cells.lookup x=some c\/n < c
 has:∀x,scope.names.lookup x=some .cell->∃c,cells.lookup x=some c
 out:∀x,scope.names.lookup x=some .free->cells.lookup x=(cj X.env scope.names []).lookup x
 own:∀x c,scope.names.lookup x=some .cell->cells.lookup x=some c->n<=c
theorem Inv.comp (I:Inv X pins σ H s) (ok:fM X.N js scope X.env.scope) (hf:∀b∈fp,fu X pins H b) {h₁:Heap} {m₁:Str->Option Value} {tk:Nat} {cells:List (Str×Addr)}
  (hfs:∀b∈fp,b < s.heap.objs.size) (hn:h₁.Ns s.heap.objs.size m₁) (hk:∀b o,s.heap.get? b=some o->h₁.get? b=some o) (hm:∀x,m₁ x=none) (F:CF X scope s.heap.objs.size h₁ cells) :
  Inv (X.comp scope cells s H fp pins) [] (clr js σ) H {s with heap:=h₁,toks:=tk}:=by
 have has:∀x,(x,NameKind.free)∈scope.names->∃c,X.env.cells.lookup x=some c:=λ x hx=>I.ok.has x (ok.free _ hx rfl)
 have sub:∀x c,(cj X.env scope.names []).lookup x=some c->X.env.cells.lookup x=some c:=λ x c e=>gr _ _ (by simp) e
 have stk:=I.ko
 have hlt:=I.lt
 refine ⟨⟨I.mod,ok.kind,I.ok.glob,I.ok.blt,Nat.le_refl _,F.inj,λ x hx=>?_,λ x c z e=>F.own x c (by simpa using z) e,I.ok.hd,I.ok.frames,.inl rfl,λ b hb=>⟨Nat.ne_of_lt (hfs b hb),λ x c e=>?_⟩,
  λ b o e=>I.bs b o e,Nat.le_trans I.ok.bsz I.sz,λ b o e hb=>?_,λ b hb z=>?_,I.stack,λ b hb=>I.pD b hb⟩,rfl,I.bare,Un.kept hk,⟨m₁,hn,λ i x v e1 e2 e3=>?_⟩,λ x c e=>F.cell x c e,I.hok.fresh (Nat.le_refl _),λ x c e=>?_,λ p hp=>?_,I.hok.kept hk,?_⟩
 ·rcases iV ok hx with h1 | ⟨h1,h2,h3⟩
  ·exact F.has x h1
  ·show ∃c,cells.lookup x=some c
   rw [F.out x h1]
   exact gv _ _ h2 (has x h2)
 ·rcases F.old x c e with e | e
  ·exact (hf b hb).2.2.2.2.1 x c e
  ·exact Nat.ne_of_gt (Nat.lt_trans (hfs b hb) e)
 ·have q:=(hf b hb).2.2.2.1
  rcases q with q | q
  ·exact I.ok.noex b o e q
  ·exact absurd (Heap.lt_size e) (Nat.not_lt.mpr (Nat.le_trans I.ok.bsz q))
 ·rcases List.mem_cons.mp (stk b z) with q | q
  ·exact (hf b hb).2.1 q
  ·exact (hf b hb).2.2.1 q
 ·obtain ⟨c1,c2⟩:=lZ e2
  have e3:(relabel scope X.env).names.lookup x=some .local\/(relabel scope X.env).names.lookup x=some .cell\/(relabel scope X.env).names.lookup x=some .free:=e3
  have yN:∀{P:Prop},(scope.names.lookup x=some .local\/scope.names.lookup x=some .cell)->P:=λ ek=>absurd (ok.own (x,i) (by rw [List.mem_zipIdx_iff_getElem?]; exact e1) ek) c2
  rcases e3 with e3 | e3
  ·obtain ⟨k,ek,r⟩:=cW e3
   have:k=.local:=by
    rcases r with r | ⟨_,r⟩
    ·exact r.symm
    ·cases r
   subst this
   exact yN (.inl ek)
  ·rcases iV ok e3 with h1 | ⟨h1,h2,h3⟩
   ·exact yN (.inr h1)
   obtain ⟨m,hm0,hl⟩:=I.loc
   obtain ⟨u,ru,lu⟩:=hl i x v e1 c1 (.inr h3)
   refine ⟨u,ru,.inr ⟨e3,?_⟩⟩
   rcases lu with ⟨q,_⟩ | ⟨_,c,q1,q2⟩
   ·rcases h3 with z | z<;>(rw [z] at q; cases q)
   ·obtain ⟨c',ec⟩:=gv _ [] h2 (has x h2)
    have:=sub _ _ ec
    rw [q1] at this
    cases this
    exact ⟨c,(F.out x h1).trans ec,q2.keeps hk⟩
 ·rcases F.old x c e with e | e
  ·exact I.freeC x c e
  ·exact I.hok.fresh (Nat.le_of_lt e)
 ·rw [List.append_nil] at hp
  obtain ⟨h1,h2,h3,h4,h5⟩:=I.pin p hp
  refine ⟨hk _ _ h1,h2,Nat.ne_of_lt (Heap.lt_size h1),λ z=>?_,h5⟩
  rcases List.mem_cons.mp (stk _ z) with q | q
  ·exact h3 q
  ·exact h4 q
 ·rw [pM]; exact I.len
theorem Inv.enter (I:Inv X pins σ H s) (ok:fM X.N js scope X.env.scope) (hf:∀b∈fp,fu X pins H b) (hfs:∀b∈fp,b < s.heap.objs.size) {Q:Env->Shared->Prop} {E:Value->Shared->Prop}
  (h:∀(cells:List (Str×Addr)) (h₁:Heap),(∀b o,s.heap.get? b=some o->h₁.get? b=some o)->CF X scope s.heap.objs.size h₁ cells->Inv (X.comp scope cells s H fp pins) [] (clr js σ) H {s with heap:=h₁}->
   Q {scope:=scope,locals:=s.heap.objs.size,globals:=X.env.globals,cells:=cells,qual:=X.env.qual,func:=none,code:=X.env.code,frame:=X.env.frame,builtins:=X.env.builtins} {s with heap:=h₁}) :
  wpAny (model X.prog X.w) X.A (newFunctionEnv scope X.env.globals (cj X.env scope.names []) [] X.env.qual none .none (some X.env)) Q E s:=by
 unfold newFunctionEnv
 refine wpAny_bind (wpAny_alloc ?_)
 refine wpAny_bind (wpAny_layCells _ (λ _ _ _=>rfl) _ _ _ _ ?_)
 refine wpAny_bind (wpAny_pure (wpAny_pure ?_))
 have hsz:(s.heap.push {cls:=.type (if (some X.env).isSome=true then "dict" else "frame"),data:=.dict #[]}).objs.size=s.heap.objs.size+1:=Heap.size_push ..
 have sub:∀x c,(cj X.env scope.names []).lookup x=some c->X.env.cells.lookup x=some c:=λ x c e=>gr _ _ (by simp) e
 have cl:∀x c,(cj X.env scope.names []).lookup x=some c->∃v,s.heap.IsCell c v:=λ x c e=>I.cell x c (sub x c e)
 have F0:tK (s.heap.push {cls:=.type (if (some X.env).isSome=true then "dict" else "frame"),data:=.dict #[]}).objs.size (s.heap.push {cls:=.type (if (some X.env).isSome=true then "dict" else "frame"),data:=.dict #[]}) (cj X.env scope.names []):=by
  refine ⟨λ x c e=>?_,λ x y c e1 e2=>I.ok.inj x y c (sub _ _ e1) (sub _ _ e2),λ x c e=>?_⟩
  ·obtain ⟨v,o,ho,_⟩:=cl x c e
   rw [hsz]; exact Nat.lt_succ_of_lt (Heap.lt_size ho)
  ·obtain ⟨v,o,ho,hd⟩:=cl x c e
   exact ⟨v,o,Heap.get?_push_of_some _ ho,hd⟩
 obtain ⟨F1,F2⟩:=CI (lo:=s.heap.objs.size+1) (base:=X.env.cells) (names:=scope.names) F0 (by rw [hsz]; exact Nat.le_refl _) (λ x c e=>.inl (sub x c e))
 have old:∀b o,s.heap.get? b=some o->(pushCells (s.heap.push {cls:=.type (if (some X.env).isSome=true then "dict" else "frame"),data:=.dict #[]}) scope.names).get? b=some o:=λ b o e=>pushCells_keeps _ _ _ _ (Heap.get?_push_of_some _ e)
 have own:∀x,scope.names.lookup x=some .cell->∀c,(cellsFrom (s.heap.push {cls:=.type (if (some X.env).isSome=true then "dict" else "frame"),data:=.dict #[]}).objs.size scope.names (cj X.env scope.names [])).lookup x=some c->s.heap.objs.size<=c:=λ x hx c e=>AA (by rw [hsz]; exact Nat.le_succ _) (.inl (PySem.mem_of_lookup hx)) e
 have F:CF X scope s.heap.objs.size (pushCells (s.heap.push {cls:=.type (if (some X.env).isSome=true then "dict" else "frame"),data:=.dict #[]}) scope.names) (cellsFrom (s.heap.push {cls:=.type (if (some X.env).isSome=true then "dict" else "frame"),data:=.dict #[]}).objs.size scope.names (cj X.env scope.names [])):=by
  refine ⟨F1.inj,F1.cell,λ x c e=>?_,λ x hx=>?_,λ x hx=>?_,λ x c hx e=>own x hx c e⟩
  ·rcases F2 x c e with q | q
   ·exact .inl q
   ·exact .inr q
  ·have:=PySem.W.cellsFrom_some scope.names (s.heap.push {cls:=.type (if (some X.env).isSome=true then "dict" else "frame"),data:=.dict #[]}).objs.size (cj X.env scope.names []) (.inl hx)
   exact Option.isSome_iff_exists.mp this
  ·refine Az λ y hy hk e=>?_
   have:=ok.cell y hy hk
   rw [e,hx] at this
   cases this
 have hns:(pushCells (s.heap.push {cls:=.type (if (some X.env).isSome=true then "dict" else "frame"),data:=.dict #[]}) scope.names).Ns s.heap.objs.size λ _=>none:=by
  have g:(s.heap.push {cls:=.type (if (some X.env).isSome=true then "dict" else "frame"),data:=.dict #[]}).get? s.heap.objs.size=some {cls:=.type (if (some X.env).isSome=true then "dict" else "frame"),data:=.dict #[]}:=Heap.get?_push_size _ rfl
  refine ⟨_,_,_,pushCells_keeps _ _ _ _ g,rfl,?_,?_⟩
  ·intro e he; simp at he
  ·intro nm; rfl
 exact h _ _ old F (I.comp (tk:=s.toks) ok hf hfs hns old (λ _=>rfl) F)
theorem HOk.off {P:Program} {w:World} {H:Hp} {h h':Heap} {C:Addr} (x:HOk P w H h) (hn:H C=none) (k:∀b o,b≠C->h.get? b=some o->h'.get? b=some o):HOk P w H h':=λ a o e=>
 (x a o e).stay (λ b u hb q=>k b u (by
  rintro rfl
  rcases hb with z | z
  ·rw [z,e] at hn; cases hn
  ·rw [z] at hn; cases hn) q) (λ _ q=>q) λ _ _ q=>q
theorem Inv.AB (I:Inv X pins σ H s) {σ':St} {H':Hp} {s':Shared} {cl:List (Str×Addr)} (hf:∀b∈fp,fu X pins H b) (J:Inv (X.comp scope cl s H fp pins) [] σ' H' s') {h':Heap}
  (hk:∀b o,b≠s.heap.objs.size->s'.heap.get? b=some o->h'.get? b=some o):Inv X pins σ H' {s' with heap:=h'}:=by
 have nC:H' s.heap.objs.size=none:=J.free
 have nb:∀b o,s.heap.get? b=some o->b≠s.heap.objs.size:=λ b o e=>Nat.ne_of_lt (Heap.lt_size e)
 have u:=J.base
 refine I.BZ (ch:=fp) J.os ⟨λ b o e n h1 h2=>hk b o (nb b o e) (u.keep b o e n h1 h2),λ b o e n h1 h2=>?_,u.free,λ b o e h2=>?_,u.tups,u.ie,u.iJ⟩ (J.hok.off nC hk) J.bare λ b hb=>⟨(hf b hb).2.2.2.1,(hf b hb).2.1,(hf b hb).2.2.2.2.1,(hf b hb).2.2.2.2.2⟩
 ·obtain ⟨sl,q⟩:=u.slot b o e n h1 h2
  exact ⟨sl,hk _ _ (nb b o e) q⟩
 ·obtain ⟨o',q⟩:=u.there b o e h2
  exact ⟨o',hk _ _ (nb b o e) q⟩
end
noncomputable def jF (X:Cx) (ifs:List Expr) (t:TT):Prop:=
 ∀(pins:List (Addr×Obj)) (s:Shared) (σ:St) (H:Hp) (Q:Bool->Hp->Prop),Inv X pins σ H s->t σ H Q->
  wpAny (model X.prog X.w) X.A (forIn ifs true λ c r=>if r=true then do let ok <-isTrue c X.env (eval c X.env); pure (ForInStep.yield ok) else pure (ForInStep.yield r)) (TP X pins σ Q) X.xe s
noncomputable def EE:TT:=λ _ H Q=>Q true H
theorem tL {X:Cx}:jF X [] EE:=λ pins s σ H Q I h=>wpAny_tests_nil ⟨H,I,h⟩
theorem tM {X:Cx} {c:Expr} {t:TT} (h:PT X c t):jF X [c] t:=λ pins s σ H Q I q=>wpAny_tests_one (h pins s σ H Q I q)
end L2
end
section
namespace L2
open PySem PySem.Spec PyProof.Rows
mutual
inductive Dt (K:PySem.W.Frag) (H:Hp):V->PyData->Prop
 | non:Dt K H .non .none
 | bl (b):Dt K H (.bl b) (.bool b)
 | int (i):Dt K H (.int i) (.int i)
 | str (x):Dt K H (.str x) (.str x)
 | lst {a xs ds}:SqL K H a xs->Dts K H xs ds->Dt K H (.ref a) (.list ds)
 | tup {a xs ds}:SqT K H a xs->Dts K H xs ds->Dt K H (.ref a) (.tuple ds)
inductive Dts (K:PySem.W.Frag) (H:Hp):List V->List PyData->Prop
 | nil:Dts K H [] []
 | cons {x xs d ds}:Dt K H x d->Dts K H xs ds->Dts K H (x::xs) (d::ds)
end
section
variable {X:Cx} {pins:List (Addr×Obj)} {σ:St} {H:Hp} {s:Shared}
mutual
theorem Inv.reads (I:Inv X pins σ H s):∀{v:V} {d:PyData} {u:Value},Dt X.K H v d->RelV v u->∃as,Reads s.heap u d as
 | _,_,_,.non,r=>by cases r; exact ⟨_,.none⟩
 | _,_,_,.bl b,r=>by cases r; exact ⟨_,.bool b⟩
 | _,_,_,.int i,r=>by obtain ⟨t,rfl⟩:=r; exact ⟨_,.int i t⟩
 | _,_,_,.str x,r=>by obtain ⟨t,rfl⟩:=r; exact ⟨_,.str x t⟩
 | _,_,_,.lst h t,r=>by
  cases r
  obtain ⟨its,rv,p,hz⟩:=I.list h
  obtain ⟨o,ho,hc,n,hd⟩:=p.isList
  obtain ⟨as,ra⟩:=I.readsAll t rv
  exact ⟨_,.list ho hc hd (by simpa using ra)⟩
 | _,_,_,.tup h t,r=>by
  cases r
  obtain ⟨its,rv,p,hz⟩:=I.tuple h
  obtain ⟨o,ho,hc,n,hd⟩:=p
  obtain ⟨as,ra⟩:=I.readsAll t rv
  exact ⟨_,.tuple ho hc hd (by simpa using ra)⟩
theorem Inv.readsAll (I:Inv X pins σ H s):∀{v:List V} {d:List PyData} {u:List Value},Dts X.K H v d->Vals v u->∃as,ReadsAll s.heap u d as
 | _,_,_,.nil,.nil=>⟨_,.nil⟩
 | _,_,_,.cons h t,.cons r rs=>by
  obtain ⟨as,a⟩:=I.reads h r
  obtain ⟨bs,b⟩:=I.readsAll t rs
  exact ⟨_,.cons a b⟩
end
theorem qU (hg:X.A.guards=some []) (hu:X.A.units+64 < cLine):bL X (.builtin "repr") (λ xs H Q=>∃a d,xs=[.ref a]/\Dt X.K H (.ref a) d/\d.layable0=true/\d.intsShort 13=true/\d.showable=true/\d.hasDict=false/\d.depth<=60/\Q (.str d.shown) H):=by
 intro pins s σ H xs us Q I r h
 obtain ⟨a,d,rfl,hd,h1,h2,h3,h4,h5,q⟩:=h
 obtain ⟨u,rfl,rx⟩:=vals1 r
 obtain ⟨as,ra⟩:=I.reads hd rx
 cases rx
 refine repr_of_reads' ra h3 (by rw [h4]; simp) hg (by omega) (λ _ _ e=>e) (λ h' u tk hk=>⟨.str d.shown,H,I.kept hk,⟨_,rfl⟩,q⟩) ?_
 have:=shown_le13 h1 h2
 exact Nat.le_trans this (by decide)
noncomputable def EF (K:PySem.W.Frag):R2:=λ x y H Q=>∃d e,Dt K H x d/\Dt K H y e/\d.canLay0=true/\e.canLay0=true/\d.depth<=60/\Q (.bl (PyData.eqv d e)) H
noncomputable def EG (K:PySem.W.Frag):R2:=λ x y H Q=>∃d e,Dt K H x d/\Dt K H y e/\d.canLay0=true/\e.canLay0=true/\d.depth<=60/\Q (.bl (!PyData.eqv d e)) H
theorem AD (hu:X.A.units+64 < cLine):OpR X (compareOp .Eq) (EF X.K):=by
 intro pins s σ H x y v u Q I rx ry h
 obtain ⟨d,e,h1,h2,h3,h4,h5,q⟩:=h
 obtain ⟨as,ra⟩:=I.reads h1 rx
 obtain ⟨bs,rb⟩:=I.reads h2 ry
 exact PySem.SeqAt.compareEq_reads ra rb h3 h4 (by have:min d.depth e.depth<=d.depth:=Nat.min_le_left _ _; omega) ⟨.bl _,H,I,rfl,q⟩
theorem AE (hu:X.A.units+64 < cLine):OpR X (compareOp .NotEq) (EG X.K):=by
 intro pins s σ H x y v u Q I rx ry h
 obtain ⟨d,e,h1,h2,h3,h4,h5,q⟩:=h
 obtain ⟨as,ra⟩:=I.reads h1 rx
 obtain ⟨bs,rb⟩:=I.reads h2 ry
 exact PySem.SeqAt.compareNe_reads ra rb h3 h4 (by have:min d.depth e.depth<=d.depth:=Nat.min_le_left _ _; omega) ⟨.bl _,H,I,rfl,q⟩
end
end L2
end
section
namespace L2
open PySem PySem.Spec PyProof.Rows
section
variable {X:Cx}
theorem tN (bs:List Bool):((List.range bs.length).all λ i=>bs.getD i true)=bs.all id:=by
 induction bs with
 | nil=>rfl
 | cons b r ih=>
  rw [List.length_cons,List.range_succ_eq_map,List.all_cons,List.all_map,List.all_cons]
  show (b&&_)=(b&&_)
  rw [<-ih]
  rfl
theorem tO (hh:X.A.handled=none):bL X (.builtin "all") (λ xs H Q=>∃(p:Addr) (bs:List Bool),xs=[.ref p]/\SqL X.K H p (bs.map V.bl)/\Q (.bl (bs.all id)) H):=by
 intro pins s σ H xs us Q I r h
 obtain ⟨p,bs,rfl,hq,q⟩:=h
 obtain ⟨u,rfl,rx⟩:=vals1 r
 cases rx
 obtain ⟨its,rv,pl,hz⟩:=I.list hq
 have hl:=pl.isList
 have hlt:p < s.heap.objs.size:=by obtain ⟨_,e,_⟩:=hl; exact Heap.lt_size e
 have len:=rv.length
 rw [List.length_map] at len
 refine call_all_walk (wpAny_pyIter_list hl ?_)
 refine ⟨_,_,_,_,_,_,(λ i=>bs.getD i true),rfl,Walks.list (A:=X.A.in1) hh s.heap.objs.size p (Nat.ne_of_lt hlt) its.toArray,⟨⟨_,Heap.get?_push_size _ rfl,rfl,rfl⟩,hl.push _⟩,?_,?_⟩
 ·intro i v s' Q' E' hv hq'
  have hv:its[i]?=some v:=by simpa using hv
  have hi:i < its.length:=(List.getElem?_eq_some_iff.mp hv).1
  have hb:i < bs.length:=by omega
  have e:(bs.map V.bl)[i]?=some (V.bl (bs[i])):=by simp [hb]
  obtain ⟨u,hu,ru⟩:=rv.get e
  rw [hv] at hu
  cases hu
  cases ru
  have:bs.getD i true=bs[i]:=by simp [List.getD,hb]
  dsimp only at hq'
  rw [this] at hq'
  exact wpAny_truthy_bool hq'
 ·intro h' tk hk
  have e:((List.range its.toArray.size).all λ i=>bs.getD i true)=bs.all id:=by
   rw [List.size_toArray,<-len]
   exact tN bs
  rw [e]
  refine ⟨.bl _,H,I.kept (t':=tk) λ b o eb=>hk b o (λ z=>?_) (Heap.get?_push_of_some _ eb),rfl,q⟩
  rw [List.mem_singleton] at z
  exact Nat.ne_of_lt (Heap.lt_size eb) z
theorem nZ {ns:List Str}:∀{us:List Value},Vals (ns.map V.str) us->StrsAre us ns:=by
 induction ns with
 | nil=>intro us r; cases r; exact .nil
 | cons n r ih=>intro us rv; cases rv with | cons q t=>obtain ⟨k,rfl⟩:=q; exact .cons _ _ (ih t)
noncomputable def rJoin (K:PySem.W.Frag):V->List V->Hp->VK->Prop:=λ x vs H Q=>∃z l ys,x=.str z/\vs=[.ref l]/\SqL K H l (ys.map V.str)/\(ys.map (·.length)).sum+ys.length*z.length<=16777216/\Q (.str (Txt.join z ys)) H
theorem wX:MtM X "str.join" (rJoin X.K):=by
 intro pins s σ H x vs v us Q I rx rv h
 obtain ⟨z,l,ys,rfl,rfl,hq,hz,q⟩:=h
 obtain ⟨t,rfl⟩:=rx
 obtain ⟨u,rfl,ru⟩:=rv.one
 cases ru
 obtain ⟨its,r,pl,hl⟩:=I.list hq
 exact join_list pl.isList (by simpa using nZ r) hz λ t' k=>⟨.str _,H,I.tok _,⟨_,rfl⟩,q⟩
end
end L2
end
section
namespace L2
open PySem PySem.Spec PyProof.Rows
noncomputable def asc (z:Str):Bool:=z.cps.all (· < 128)
noncomputable def Its (z:Str):It:=⟨λ i _=>i < z.cps.size,λ i H x H'=>H'=H/\∃c,z.cps[i]?=some c/\x=.str ⟨#[c]⟩,λ i _=>z.cps.size<=i⟩
theorem tP {P:Program} {w:World} {K:PySem.W.Frag} {tg:Expr} (z:Str) (t:Tok) (it:Addr):Turn P w K tg (Its z) [it] it (λ i h=>h.IsStrIter it "str_ascii_iterator" z t i) where
 mem:=by simp
 obj:=λ i h st b hb=>by
  obtain rfl:b=it:=by simpa using hb
  obtain ⟨o,e,c,d⟩:=st
  exact ⟨o,e,λ v q=>by rw [d] at q; cases q⟩
 keep:=λ i h h' st k=>let ⟨o,e,r⟩:=st; ⟨o,k it (by simp) o e,r⟩
 item:=by
  intro X hP hw hK hc i pins s σ H E I hf st hg
  subst hP hw hK
  have hg:i < z.cps.size:=hg
  obtain ⟨f0,f1,f2,f3,f4,f5⟩:=hf it (by simp)
  refine wpAny_pyNext_ascii_item st (c:=z.cps[i]) (by simp [hg]) λ h' st' sb=>?_
  have I1:Inv X pins σ H {s with heap:=h',toks:=s.toks+1}:=I.turned (λ b o hb e=>(sb.2 b hb).trans e) f0 f1 f3 f4 f5
  obtain ⟨o,e,c,d⟩:=id st'
  exact ⟨_,rfl,pG (s:={s with heap:=h',toks:=s.toks+1}) e c d (by decide) ⟨.str ⟨#[z.cps[i]]⟩,H,I1,⟨_,rfl⟩,⟨rfl,_,by simp [hg],rfl⟩,st',λ b hb=>(hf b hb).1⟩⟩
 done:=by
  intro X hP hw hK hc i pins s σ H E I hf st hg
  subst hP hw hK
  have hg:z.cps.size<=i:=hg
  obtain ⟨f0,f1,f2,f3,f4,f5⟩:=hf it (by simp)
  exact wpAny_pyNext_ascii_end (I.ok.hd hc) st (by simp [hg]) λ h' eb=>⟨rfl,I.turned (t':=s.toks) (λ b o hb e=>eb b o hb e) f0 f1 f3 f4 f5⟩
 self:=λ _ _ _ _ _ st h=>wpAny_pyIter_striter_ascii st h
section
variable {X:Cx} {tg:Expr}
noncomputable def EH (tl:TE):TI:=fun σ H R=>tl σ H λ x H1=>∃z,x=.str z/\asc z=true/\R (Its z) H1
theorem AF {l:Expr} {tl:TE} (hl:PE X l tl):PI X tg l (EH tl):=by
 intro pins s σ H R I h
 refine thn (hl pins s σ H _ I h) λ v s1 ⟨x,H1,I1,r1,q1⟩=>?_
 obtain ⟨z,rfl,ha,q⟩:=q1
 obtain ⟨t,rfl⟩:=r1
 refine wpAny_pyIter_ascii ha ?_
 refine ⟨s1.heap.objs.size,[s1.heap.objs.size],_,_,H1,rfl,I1.kept (t':=s1.toks) λ b o e=>Heap.get?_push_of_some _ e,tP z t _,⟨_,Heap.get?_push_size _ rfl,rfl,rfl⟩,λ b hb=>?_,q⟩
 obtain rfl:b=s1.heap.objs.size:=by simpa using hb
 exact I1.ku (Nat.le_refl _) (I1.hok.fresh (Nat.le_refl _))
end
noncomputable def Iel (K:PySem.W.Frag) (a:Addr):It:=
 ⟨λ i H=>∃xs x,SqL K H a xs/\xs[i]?=some x,λ i H x H'=>∃p v,H p=none/\x=.ref p/\H'=upd H p (.tup [.int i,v])/\∀xs,SqL K H a xs->xs[i]?=some v,λ i H=>∃xs,SqL K H a xs/\xs.length<=i⟩
theorem qV {P:Program} {w:World} {K:PySem.W.Frag} {elts:List Expr} {x1} {pos:Pos} (a e it:Addr) (hne:e≠it) :
  Turn P w K (.Tuple elts x1 pos) (Iel K a) [e,it] e (λ i h=>(∃old,IsEnum h e it (i:Int) old)/\h.IsListIter it a i) where
 mem:=by simp
 obj:=λ i h st b hb=>by
  obtain ⟨⟨old,he⟩,o,ho,hc,hd⟩:=st
  rcases List.mem_cons.mp hb with rfl | hb
  ·refine ⟨_,he,λ v q=>?_⟩
   have q':Data.fields _=Data.cell v:=q
   cases q'
  ·obtain rfl:b=it:=by simpa using hb
   exact ⟨o,ho,λ v q=>by rw [hd] at q; cases q⟩
 keep:=λ i h h' st k=>by
  obtain ⟨⟨old,he⟩,o,ho,r⟩:=st
  exact ⟨⟨old,k e (by simp) _ he⟩,o,k it (by simp) o ho,r⟩
 item:=by
  intro X hP hw hK hc i pins s σ H E I hf st hg
  subst hP hw hK
  obtain ⟨xs,x,hq,hx⟩:=hg
  obtain ⟨⟨old,he⟩,hit⟩:=st
  obtain ⟨its,rv,p,hz⟩:=I.list hq
  obtain ⟨u,hu,ru⟩:=rv.get hx
  obtain ⟨f0,f1,f2,f3,f4,f5⟩:=hf e (by simp)
  obtain ⟨g0,g1,g2,g3,g4,g5⟩:=hf it (by simp)
  refine wpAny_pyNext_enum_item he hit p.isList (x:=u) (by simpa using hu) hne λ h1 ho hi ht hs k1=>⟨_,rfl,?_⟩
  have he':e < s.heap.objs.size:=Heap.lt_size he
  have hi':it < s.heap.objs.size:=by obtain ⟨o,q,_⟩:=hit; exact Heap.lt_size q
  refine wpAny_letOwnedTupleGo_enum (s:={s with heap:=h1,toks:=s.toks+1}) ho λ h2 hE sb=>?_
  have k2:∀b o,b≠e->b≠it->s.heap.get? b=some o->h2.get? b=some o:=λ b o n1 n2 q=>sb.extBut b o n1 (k1 b o n1 n2 q)
  have ht2:h2.get? s.heap.objs.size=some {cls:=.type "tuple",data:=.seq #[.int i s.toks,u]}:=sb.extBut _ _ (Nat.ne_of_gt he') ht
  have hsz2:h2.objs.size=s.heap.objs.size+1:=by rw [sb.1]; exact hs
  have hHs:H s.heap.objs.size=none:=I.hok.fresh (Nat.le_refl _)
  have nt:∀b o,H b=some o->b≠e/\b≠it:=λ b o q=>⟨(λ z=>by rw [z,f0] at q; cases q),(λ z=>by rw [z,g0] at q; cases q)⟩
  have hok:HOk X.prog X.w (upd H s.heap.objs.size (.tup [.int i,x])) h2:=by
   have lift:∀b o,H b=some o->bA X.prog X.w (upd H s.heap.objs.size (.tup [.int i,x])) h2 b o:=λ b o q=>
    (I.hok b o q).stay (λ c v hcv r=>k2 c v (by
     rcases hcv with z | z
     ·rw [z]; exact (nt b o q).1
     ·exact (nt c _ z).1) (by
     rcases hcv with z | z
     ·rw [z]; exact (nt b o q).2
     ·exact (nt c _ z).2) r) (λ c r=>by rw [aj (ak r hHs)]; exact r) λ c ys r=>by rw [aj (ak r hHs)]; exact r
   intro b o q
   by_cases eb:b=s.heap.objs.size
   ·subst eb
    rw [aB] at q
    cases q
    exact ⟨by show 2<=sizeLine; decide,[.int i s.toks,u],.cons ⟨_,rfl⟩ (.cons ru .nil),⟨_,ht2,rfl,_,rfl⟩⟩
   ·rw [aj eb] at q
    exact lift b o q
  have I2:Inv X pins σ (upd H s.heap.objs.size (.tup [.int i,x])) {s with heap:=h2,toks:=s.toks+1}:=by
   refine I.step (g':=s.gens) (d':=s.drawn) (ch:=[e,it]) (λ b hb=>?_) (λ b o hL hb hcb q n=>?_) (λ b o hL hb hcb q n=>?_) (λ b o hcb q n=>?_) (λ b o hcb q=>?_) (λ b ys q=>by rw [aj (ak q hHs)]; exact q) (λ b o u q=>by rw [aj (ak q hHs)]; exact q)
    (λ b ps q=>⟨#[],by rw [aj (ak q hHs),q]; simp⟩) (λ m hm=>?_) hok I.bare
   ·rcases List.mem_cons.mp hb with rfl | hb
    ·exact ⟨f3,f1,f4,f5⟩
    ·obtain rfl:b=it:=by simpa using hb
     exact ⟨g3,g1,g4,g5⟩
   ·simp only [List.mem_cons,List.not_mem_nil,or_false,not_or] at hcb
    exact k2 b o hcb.1 hcb.2 q
   ·simp only [List.mem_cons,List.not_mem_nil,or_false,not_or] at hcb
    exact ⟨o.slots,k2 b o hcb.1 hcb.2 q⟩
   ·rw [aj (Nat.ne_of_lt (Heap.lt_size q))]; exact n
   ·simp only [List.mem_cons,List.not_mem_nil,or_false,not_or] at hcb
    exact ⟨o,k2 b o hcb.1 hcb.2 q⟩
   ·obtain ⟨o,es,ep,q,r⟩:=hm
    exact ⟨o,es,ep,k2 _ o (Ne.symm f1) (Ne.symm g1) q,r⟩
  refine ⟨.ref s.heap.objs.size,_,I2,rfl,⟨_,x,hHs,rfl,rfl,λ ys hy=>by rw [I.iL hy hq]; exact hx⟩,⟨⟨_,by have:=hE; rw [show ((i:Int)+1)=((i+1:Nat):Int) by omega] at this; exact this⟩,?_⟩,λ b hb=>?_⟩
  ·obtain ⟨o,q,r⟩:=hi
   exact ⟨o,sb.extBut _ _ (Ne.symm hne) q,r⟩
  ·rcases List.mem_cons.mp hb with rfl | hb
   ·rw [aj (Nat.ne_of_lt he')]; exact f0
   ·obtain rfl:b=it:=by simpa using hb
    rw [aj (Nat.ne_of_lt hi')]; exact g0
 done:=by
  intro X hP hw hK hc i pins s σ H E I hf st hg
  subst hP hw hK
  obtain ⟨xs,hq,hx⟩:=hg
  obtain ⟨⟨old,he⟩,hit⟩:=st
  obtain ⟨its,rv,p,hz⟩:=I.list hq
  obtain ⟨g0,g1,g2,g3,g4,g5⟩:=hf it (by simp)
  have hl:=rv.length
  exact wpAny_pyNext_enum_end (I.ok.hd hc) he hit p.isList (by simp; omega) λ h' eb=>⟨rfl,I.turned (t':=s.toks) (λ b o hb q=>eb b o hb q) g0 g1 g3 g4 g5⟩
 self:=λ _ _ _ _ _ st h=>by
  obtain ⟨⟨old,he⟩,_⟩:=st
  exact wpAny_pyIter_enum he h
section
variable {X:Cx}
noncomputable def CJ (K:PySem.W.Frag) (ta:TA):TI:=fun σ H R=>ta σ H λ vs H1=>∃a,vs=[.ref a]/\(∃xs,SqL K H1 a xs)/\R (Iel K a) H1
theorem wY {l:Expr} {ta:TA} {p pos tpos:Pos} {elts:List Expr} {x1} (hg:Gl X "enumerate") (hm:X.mg "enumerate"=none) (ha:PA X [l] ta) (hs:starEach [l] X.env=[(false,eval l X.env)]:=by rfl) :
  PI X (.Tuple elts x1 tpos) (.Call (.Name "enumerate" p) [l] [] pos) (CJ X.K ta):=by
 intro pins s σ H R I h
 refine Call_ (dD I hg hm (u:=.type "enumerate") (by decide +kernel) (PyProof.Rows.callWith_type1 (thn (ha pos pins s σ H _ I h) λ us s1 ⟨vs,H1,I1,r1,q1⟩=>?_) hs rfl))
 obtain ⟨a,rfl,⟨xs,hq⟩,q⟩:=q1
 obtain ⟨u,rfl,ru⟩:=vals1 r1
 cases ru
 obtain ⟨its,rv,pl,hz⟩:=I1.list hq
 refine call_enumerate_list pl.isList λ h' he hit hsz hk=>?_
 refine wpAny_pyIter_enum he ?_
 have I2:Inv X pins σ H1 {s1 with heap:=h'}:=I1.kept (t':=s1.toks) hk
 refine ⟨_,_,_,_,H1,rfl,I2,qV a (s1.heap.objs.size+1) s1.heap.objs.size (Nat.succ_ne_self _),⟨⟨_,he⟩,hit⟩,λ b hb=>?_,q⟩
 rcases List.mem_cons.mp hb with rfl | hb
 ·exact I1.ku (Nat.le_succ _) (I1.hok.fresh (Nat.le_succ _))
 ·obtain rfl:b=s1.heap.objs.size:=by simpa using hb
  exact I1.ku (Nat.le_refl _) (I1.hok.fresh (Nat.le_refl _))
end
end L2
end
section
namespace L2
open PySem PySem.Spec PyProof.Rows
section
variable {prog:Program} {w:World} {A:Around} {E:Value->Shared->Prop} {s:Shared}
end
end L2
end
section
namespace L2
open PySem PySem.Spec PyProof.Rows
section
variable {X:Cx}
noncomputable def iW (P:Program) (w:World) (a:Addr) (S:Key->Bool) (n:Nat):HO:=.ext λ h=>h.SetOf (dm P w) a S n
theorem pN {P:Program} {w:World} {H:Hp} {h:Heap} {a:Addr} {S:Key->Bool} {n:Nat} (x:h.SetOf (dm P w) a S n):bA P w H h a (iW P w a S n):=by
 obtain ⟨o,r⟩:=id x
 obtain ⟨es,ep,t,e,r⟩:=r
 refine ⟨x,⟨o,e⟩,λ h1 h2 ⟨o1,es1,ep1,t1,e1,r1⟩ k=>⟨o1,es1,ep1,t1,k _ e1,r1⟩⟩
theorem qX:bL X (.type "set") (λ xs H Q=>xs=[]/\∀p,H p=none->Q (.ref p) (upd H p (iW X.prog X.w p (λ _=>false) 0))):=by
 intro pins s σ H xs us Q I r h
 obtain ⟨rfl,q⟩:=h
 cases r
 refine call_set_0 λ led=>?_
 have hget:(s.heap.push {cls:=.type "set",dict:=none,data:=.set #[] 0 (.fresh 0 0 led)}).get? s.heap.objs.size=some {cls:=.type "set",dict:=none,data:=.set #[] 0 (.fresh 0 0 led)}:=Heap.get?_push_size _ rfl
 refine ⟨.ref s.heap.objs.size,_,I.laid (t':=s.toks) (o:=iW X.prog X.w s.heap.objs.size (λ _=>false) 0) (λ b o e=>Heap.get?_push_of_some _ e) (Nat.le_refl _) (pN ?_),rfl,q _ (I.hok.fresh (Nat.le_refl _))⟩
 letI:BEq Key:=⟨λ a b=>decide (a=b)⟩
 haveI:LawfulBEq Key:={eq_of_beq:=λ h=>of_decide_eq_true h,rfl:=decide_eq_true rfl}
 exact SetOf_congr ((setObjOf_fresh (knd:=dm X.prog X.w) led).setOf hget (by unfold scanBound; omega)) (λ _=>rfl) rfl
theorem tQ {k:Key} {u:Value} (r:RelV (kV k) u):iH k u=true/\u.scannable=true:=by
 cases k with
 | inl i=>obtain ⟨t,rfl⟩:=r; exact ⟨qE i t,rfl⟩
 | inr x=>obtain ⟨t,rfl⟩:=r; exact ⟨qF x t,rfl⟩
noncomputable def AG (P:Program) (w:World):R2:=λ x y H Q=>∃a S n k,y=.ref a/\x=kV k/\H a=some (iW P w a S n)/\Q (.bl (S k)) H
theorem qY:OpR X (compareOp .In) (AG X.prog X.w):=by
 intro pins s σ H x y v u Q I rx ry h
 obtain ⟨a,S,n,k,rfl,rfl,ha,q⟩:=h
 cases ry
 obtain ⟨h1,h2⟩:=tQ rx
 obtain ⟨hS,_⟩:=I.hok _ _ ha
 exact wpAny_inSet_of (knd:=dm X.prog X.w) h1 h2 hS ⟨.bl _,H,I.tok _,rfl,q⟩
noncomputable def wZ (P:Program) (w:World):V->List V->Hp->VK->Prop:=λ x vs H Q=>∃a S n k,x=.ref a/\vs=[kV k]/\H a=some (iW P w a S n)/\n < 4000/\Q .non (upd H a (iW P w a (λ j=>S j||decide (j=k)) (if S k then n else n+1)))
theorem n8:MtM X "set.add" (wZ X.prog X.w):=by
 intro pins s σ H x vs v us Q I rx rv h
 obtain ⟨a,S,n,k,rfl,rfl,ha,hz,q⟩:=h
 cases rx
 obtain ⟨u,rfl,ru⟩:=rv.one
 obtain ⟨h1,h2⟩:=tQ ru
 obtain ⟨hS,_⟩:=id (I.hok _ _ ha)
 refine call_set_add (knd:=dm X.prog X.w) h1 h2 hS (by unfold scanBound; omega) λ h' sb hS'=>?_
 have he:∃u,h'.get? a=some u:=by obtain ⟨o,es,ep,t,e,_⟩:=hS'; exact ⟨o,e⟩
 exact ⟨.non,_,I.write (x:=a) (e:=a) (t':=s.toks+1) (by rw [ha]; trivial) (.inl rfl) (λ b o hb e=>sb.extBut b o hb e) he (pN hS'),rfl,q⟩
end
end L2
end
section
namespace L2
open PySem PySem.Spec PyProof.Rows
section
variable {prog:Program} {w:World} {A:Around} {E:Value->Shared->Prop}
theorem yO {it l:Addr} {its:Array Value} (ne:l≠it):∀(n i:Nat) (s:Shared) (Q:List Value->Shared->Prop),s.heap.IsListIter it l i->s.heap.IsList l its->i+n<=its.size->
  (∀h',h'.IsListIter it l (i+n)->Heap.SameBut it s.heap h'->Q ((its.toList.drop i).take n) {s with heap:=h'})->wpAny (model prog w) A (draw (.ref it) n) Q E s
 | 0,i,s,Q,a,_,_,q=>by
  show wpAny _ _ (pure []) Q E s
  exact wpAny_pure (by simpa using q s.heap a (Heap.SameBut.refl ..))
 | n+1,i,s,Q,a,b,le,q=>by
  have lt:i < its.size:=by omega
  show wpAny _ _ (pyNext (.ref it) >>= _) Q E s
  refine wpAny_bind (wpAny_pyNext_list_item a b (x:=its[i]) (by simp [lt]) λ h1 a1 s1=>?_)
  refine wpAny_bind (wpAny_holding (yO ne n (i+1) _ _ a1 (b.extBut s1.extBut ne) (by omega) λ h2 a2 s2=>wpAny_pure ?_))
  have e:its.toList.drop i=its[i]::its.toList.drop (i+1):=by simp [List.drop_eq_getElem_cons,lt]
  have z:=q h2 (by rw [show i+(n+1)=i+1+n by omega]; exact a2) (s1.trans s2)
  rw [e,List.take_succ_cons] at z
  exact z
theorem w4 {s:Shared} {t:Addr} {its:Array Value} {tgs:List (Bool×(Value->Sem Unit))} {Q:Unit->Shared->Prop} (hh:A.handled=none) (ht:s.heap.IsList t its)
  (hn:tgs.length=its.size) (hst:tgs.findIdx? (·.1)=none)
  (h:∀h',Heap.ExtBut s.heap.objs.size s.heap h'->wpAny (model prog w) A (assignInOrder (tgs.map (·.2)) its.toList) Q E {s with heap:=h'}) :
  wpAny (model prog w) A (unpack (.ref t) tgs) Q E s:=by
 have ne:t≠s.heap.objs.size:=by obtain ⟨o,ho,_⟩:=ht; exact Nat.ne_of_lt (Heap.lt_size ho)
 unfold unpack
 rw [hn,hst]
 refine wpAny_bind (wpAny_holding ?_)
 unfold unpackItems
 refine wpAny_bind ?_
 ·unfold notIterableAtAll
  refine wpAny_bind (wpAny_specialOf ht.typeIs slot_list_iter.lookup (wpAny_pure ?_))
  simp only [Bool.false_eq_true,if_false]
  refine wpAny_bind (wpAny_holding (wpAny_pyIter_list ht ?_))
  refine wpAny_bind (wpAny_holding (yO ne its.size 0 _ _ ⟨_,Heap.get?_push_size _ rfl,rfl,rfl⟩ (ht.push _) (by omega) λ h1 a1 s1=>?_))
  have all:List.take its.size (List.drop 0 its.toList)=its.toList:=by rw [List.drop_zero]; exact List.take_of_length_le (by simp)
  rw [all,if_neg (by simp)]
  have b1:h1.IsList t its:=(ht.push _).extBut s1.extBut ne
  refine wpAny_bind (wpAny_holding (wpAny_pyNext_list_end hh a1 b1 (by simp) λ h2 e2=>?_))
  simp only [Option.isSome_none,Bool.false_eq_true,if_false]
  exact wpAny_pure (h h2 λ b o hb e=>e2 b o hb (s1.extBut b o hb (Heap.get?_push_of_some _ e)))
end
section
variable {X:Cx} {pos:Pos}
noncomputable def EI (K:PySem.W.Frag) (n:Nat) (t:TGs):TG:=λ v σ H Q=>∃a xs,v=.ref a/\SqL K H a xs/\xs.length=n/\t xs σ H Q
theorem AH {es:List Expr} {k:Nat} {t:TGs} {n:Nat} (hc:X.calm=true) (h:PGs X es t)
  (hn:(assignEach es X.env).length=n:=by rfl) (hst:(assignEach es X.env).findIdx? (·.1)=none:=by rfl):PG X (.Tuple es k pos) (EI X.K n t):=by
 intro pins s σ H v u Q I r hw
 obtain ⟨a,xs,rfl,hq,hl,hw⟩:=hw
 cases r
 obtain ⟨its,rv,pl,hz⟩:=I.list hq
 rw [assign_Tuple]
 refine wpAny_bind (wpAny_standAt (w4 (I.ok.hd hc) pl.isList (by simp [hn,<-hl,rv.length]) hst λ h' hx=>?_))
 have I1:Inv X pins σ H {s with heap:=h'}:=I.kept (t':=s.toks) λ b o e=>hx b o (Nat.ne_of_lt (Heap.lt_size e)) e
 exact h pins _ σ H xs _ Q I1 (by simpa using rv) hw
theorem qZ:OpR X (compareOp .LtE) (λ x y H Q=>∃i j,x=.str i/\y=.str j/\Q (.bl (!decide (j.cps.toList < i.cps.toList))) H):=by
 intro pins s σ H x y v u Q I rx ry h
 obtain ⟨i,j,rfl,rfl,q⟩:=h
 obtain ⟨t,rfl⟩:=rx
 obtain ⟨t',rfl⟩:=ry
 exact PySem.P.le_str (iN I q rfl)
theorem AI:SlR X (λ x lo hi H Q=>∃z,x=.str z/\z.length<=sizeLine/\Q (.str (Txt.slice z lo hi)) H):=by
 intro pins s σ H x v vl vu lo hi sl Q I rx hs pl pu h
 obtain ⟨z,rfl,hz,q⟩:=h
 obtain ⟨t,rfl⟩:=rx
 have fin:∀t' k,EP X pins σ Q (.str (Txt.slice z lo hi) t') {s with toks:=k}:=λ t' k=>⟨.str _,H,I.tok k,⟨_,rfl⟩,q⟩
 have hle:=Nat.le_trans (Txt.slice_le z lo hi) hz
 refine ⟨"str",_,F.slot_str_getitem.lookup,typeIs_str _ _ _,?_⟩
 cases pl with
 | none=>
  cases pu with
  | none=>exact wpAny_getItem_str_slice (l:=none) (u:=none) (st:=none) hs rfl (post_val_or_str ⟨hle,fin⟩)
  | int j uj=>exact wpAny_getItem_str_slice (l:=none) (u:=some (j,uj)) (st:=none) hs rfl (post_val_or_str ⟨hle,fin⟩)
 | int i ui=>
  cases pu with
  | none=>exact wpAny_getItem_str_slice (l:=some (i,ui)) (u:=none) (st:=none) hs rfl (post_val_or_str ⟨hle,fin⟩)
  | int j uj=>exact wpAny_getItem_str_slice (l:=some (i,ui)) (u:=some (j,uj)) (st:=none) hs rfl (post_val_or_str ⟨hle,fin⟩)
end
end L2
end
section
namespace L2
open PySem PySem.Spec PyProof.Rows
open AutoSeq1 (wpAny_loadPart')
section
variable {prog:Program} {w:World} {A:Around} {E:Value->Shared->Prop} {s:Shared}
theorem nextT {it l:Addr} {i:Nat} {its:Array Value} {x:Value} {Q:Value->Shared->Prop} (a:s.heap.IsTupleIter it l i) (b:s.heap.IsTuple l its) (hx:its[i]?=some x)
  (q:∀h',h'.IsTupleIter it l (i+1)->Heap.SameBut it s.heap h'->Q x {s with heap:=h'}):wpAny (model prog w) A (Builtin.SmallTypes.nextOf (.ref it)) Q E s:=by
 obtain ⟨o,o1,o2,o3⟩:=id a
 obtain ⟨p,p1,_,n,p2⟩:=b
 unfold Builtin.SmallTypes.nextOf
 refine wpAny_bind (wpAny_callSpecial?_slot (name:=Str.ofString "__next__") a.typeIs F.slot_tuple_iterator_next (wpAny_call_entry F.slot_tuple_iterator_next a.typeIs F.entry_tuple_iterator_next ?_ (F.args_tuple_iterator_next_1 _)))
 show wpAny _ _ (field (.ref it) 0 >>= _) _ _ s
 refine wpAny_bind (wpAny_field o1 o3 (x:=.ref l) rfl ?_)
 show wpAny _ _ (if (Value.ref l==Value.none)=true then _ else _) _ _ s
 rw [if_neg (show ¬((Value.ref l==Value.none)=true) from Bool.false_ne_true)]
 show wpAny _ _ (field (.ref it) 1 >>= _) _ _ s
 refine wpAny_bind (wpAny_field o1 o3 (x:=.int i 0) rfl ?_)
 show wpAny _ _ (seqItems? (.ref l) >>= _) _ _ s
 refine wpAny_bind (wpAny_seqItems p1 p2 ?_)
 simp only [Int.toNat_natCast,hx]
 refine wpAny_bind (wpAny_setField o1 o3 (by simp) (wpAny_pure ⟨x,rfl,wpAny_pure (q _ ?_ (Heap.SameBut.update ..))⟩))
 exact ⟨_,Heap.get?_update_self _ o1 (Obj.isFreed_of_fields (Obj.data_mapFields o3 _)),(Obj.cls_mapFields ..).trans o2,by rw [Obj.data_mapFields o3]; simp [rawInt]⟩
theorem l8 {it l:Addr} {i:Nat} {its:Array Value} {Q:Value->Shared->Prop} (hh:A.handled=none) (a:s.heap.IsTupleIter it l i) (b:s.heap.IsTuple l its) (hx:its[i]?=none)
  (q:∀h' e,Heap.ExtBut it s.heap h'->(∃o,h'.get? e=some o/\o.cls=.type "StopIteration")->E (.ref e) {s with heap:=h'}):wpAny (model prog w) A (Builtin.SmallTypes.nextOf (.ref it)) Q E s:=by
 obtain ⟨o,o1,o2,o3⟩:=id a
 obtain ⟨p,p1,_,n,p2⟩:=b
 unfold Builtin.SmallTypes.nextOf
 refine wpAny_bind (wpAny_callSpecial?_slot (name:=Str.ofString "__next__") a.typeIs F.slot_tuple_iterator_next (wpAny_call_entry F.slot_tuple_iterator_next a.typeIs F.entry_tuple_iterator_next ?_ (F.args_tuple_iterator_next_1 _)))
 show wpAny _ _ (field (.ref it) 0 >>= _) _ _ s
 refine wpAny_bind (wpAny_field o1 o3 (x:=.ref l) rfl ?_)
 show wpAny _ _ (if (Value.ref l==Value.none)=true then _ else _) _ _ s
 rw [if_neg (show ¬((Value.ref l==Value.none)=true) from Bool.false_ne_true)]
 show wpAny _ _ (field (.ref it) 1 >>= _) _ _ s
 refine wpAny_bind (wpAny_field o1 o3 (x:=.int i 0) rfl ?_)
 show wpAny _ _ (seqItems? (.ref l) >>= _) _ _ s
 refine wpAny_bind (wpAny_seqItems p1 p2 ?_)
 simp only [Int.toNat_natCast,hx]
 refine wpAny_bind (wpAny_rule (wpAny_bind (wpAny_setField o1 o3 (by simp) ?_)))
 show wpAny _ _ (newExc (.type "StopIteration") [] >>= _) _ _ _
 refine wpAny_bind ?_
 simp only [newExc,newTuple]
 refine wpAny_bind (wpAny_newObj_type ?_ (by size_fits))
 refine wpAny_bind (m:=firstArgMember _ _) (wpAny_of_eq (a:=Value.none) (by first | rfl | (simp only [firstArgMember]; rfl)) ?_)
 refine wpAny_newObj_type ?_ (by size_fits)
 simp only [raiseNew]
 refine wpAny_bind (wpAny_handled ?_)
 first | rw [show A.in1.handled=none from hh] | rw [hh]
 refine wpAny_bind (wpAny_pure (wpAny_throw ?_))
 refine q _ _ (λ b o hb e=>?_) ⟨_,Heap.get?_push_size _ rfl,rfl⟩
 exact Heap.get?_push_of_some _ (Heap.get?_push_of_some _ ((Heap.SameBut.update ..).extBut b o hb e))
theorem n9 {e it l:Addr} {i:Nat} {its:Array Value} {x old:Value} {Q:Option Value->Shared->Prop}
  (he:IsEnum s.heap e it i old) (a:s.heap.IsTupleIter it l i) (b:s.heap.IsTuple l its) (hx:its[i]?=some x) (ne:e≠it)
  (q:∀h',IsEnumOut h' e it ((i:Int)+1) x s.heap.objs.size->h'.IsTupleIter it l (i+1)->
   h'.get? s.heap.objs.size=some {cls:=.type "tuple",data:=.seq #[.int i s.toks,x]}->h'.objs.size=s.heap.objs.size+1->
   (∀b o,b≠e->b≠it->s.heap.get? b=some o->h'.get? b=some o)->Q (some (.ref s.heap.objs.size)) {s with heap:=h',toks:=s.toks+1}) :
  wpAny (model prog w) A (pyNext (.ref e)) Q E s:=by
 have hT:s.TypeIs (.ref e) "enumerate":=⟨_,he,rfl⟩
 unfold pyNext
 refine wpAny_bind (wpAny_attempt (wpAny_callSpecial?_slot (name:=Str.ofString "__next__") hT F.slot_enumerate_next (wpAny_call_entry F.slot_enumerate_next hT F.entry_enumerate_next ?_ (F.args_enumerate_next_1 _))))
 obtain ⟨hp,g,d,tk,os⟩:=s
 show wpAny _ _ (field (.ref e) 2 >>= _) _ _ _
 refine wpAny_bind (wpAny_field he rfl (x:=.ref it) rfl ?_)
 refine wpAny_bind (nextT a b hx λ h1 a1 s1=>?_)
 replace s1:Heap.SameBut it hp h1:=s1
 have e1:IsEnum h1 e it i old:=(s1.2 e ne).trans he
 show wpAny _ _ (field (.ref e) 3 >>= _) _ _ ⟨h1,g,d,tk,os⟩
 refine wpAny_bind (wpAny_field e1 rfl (x:=rawInt i) rfl ?_)
 show wpAny _ _ (field (.ref e) 4 >>= _) _ _ ⟨h1,g,d,tk,os⟩
 refine wpAny_bind (wpAny_field e1 rfl (x:=.none) rfl ?_)
 show wpAny _ _ (mkInt i >>= _) _ _ ⟨h1,g,d,tk,os⟩
 refine wpAny_bind (wpAny_mkInt ?_)
 show wpAny _ _ (setField (.ref e) 3 (rawInt ((i:Int)+1)) >>= _) _ _ ⟨h1,g,d,tk+1,os⟩
 refine wpAny_bind (wpAny_setField_rec e1 (by simp) λ h2 e2 s2=>?_)
 replace s2:Heap.SameBut e h1 h2:=s2
 replace e2:IsEnum h2 e it ((i:Int)+1) old:=e2
 show wpAny _ _ (setField (.ref e) 4 .none >>= _) _ _ ⟨h2,g,d,tk+1,os⟩
 refine wpAny_bind (wpAny_setField_rec e2 (by simp) λ h3 e3 s3=>?_)
 replace s3:Heap.SameBut e h2 h3:=s3
 replace e3:IsEnum h3 e it ((i:Int)+1) old:=e3
 show wpAny _ _ (newTuple [.int i tk,x] >>= _) _ _ ⟨h3,g,d,tk+1,os⟩
 refine wpAny_bind (wpAny_newTuple ?_)
 have e4:IsEnum (h3.push {cls:=.type "tuple",data:=.seq #[.int i tk,x]}) e it ((i:Int)+1) old:=Heap.get?_push_of_some _ e3
 generalize hh4:h3.push {cls:=.type "tuple",data:=.seq #[.int i tk,x]}=h4 at e4
 have sz:h3.objs.size=hp.objs.size:=by rw [s3.1,s2.1,s1.1]
 have el:e < hp.objs.size:=Heap.lt_size he
 have t4:h4.get? hp.objs.size=some {cls:=.type "tuple",data:=.seq #[.int i tk,x]}:=by rw [<-hh4,<-sz]; exact Heap.get?_push_size _ rfl
 have z4:h4.objs.size=hp.objs.size+1:=by rw [<-hh4,Heap.size_push,sz]
 have k4:∀b o,b≠e->b≠it->hp.get? b=some o->h4.get? b=some o:=λ b o n1 n2 hb=>by
  rw [<-hh4]; exact Heap.get?_push_of_some _ (s3.extBut b o n1 (s2.extBut b o n1 (s1.extBut b o n2 hb)))
 have a4:h4.IsTupleIter it l (i+1):=by
  rw [<-hh4]; obtain ⟨o,ho,r⟩:=(a1.extBut s2.extBut (Ne.symm ne)).extBut s3.extBut (Ne.symm ne); exact ⟨o,Heap.get?_push_of_some _ ho,r⟩
 show wpAny _ _ (Builtin.SmallTypes.ownedTupleIsFree (.ref e) >>= _) _ _ ⟨h4,g,d,tk+1,os⟩
 rw [sz]
 clear hh4 e3 s3 e2 s2 e1 s1 a1 sz h3 h2 h1
 refine wpAny_bind ?_
 unfold Builtin.SmallTypes.ownedTupleIsFree
 refine wpAny_bind (wpAny_field e4 rfl (x:=.none) rfl (wpAny_pure ?_))
 simp only [if_true]
 refine wpAny_bind (wpAny_rule ?_)
 refine wpAny_bind (wpAny_field e4 rfl (x:=old) rfl ?_)
 refine wpAny_bind (wpAny_setField_rec e4 (by simp) λ h5 e5 s5=>?_)
 replace s5:Heap.SameBut e h4 h5:=s5
 replace e5:IsEnum h5 e it ((i:Int)+1) x:=e5
 show wpAny _ _ (Builtin.SmallTypes.ownedTupleHandOut (.ref e) (.ref hp.objs.size) >>= _) _ _ ⟨h5,g,d,tk+1,os⟩
 refine wpAny_bind ?_
 unfold Builtin.SmallTypes.ownedTupleHandOut
 refine wpAny_bind (wpAny_setField_rec e5 (by simp) λ h6 e6 s6=>?_)
 replace s6:Heap.SameBut e h5 h6:=s6
 replace e6:IsEnumOut h6 e it ((i:Int)+1) x hp.objs.size:=e6
 refine wpAny_setField_rec e6 (by simp) λ h7 e7 s7=>?_
 replace s7:Heap.SameBut e h6 h7:=s7
 replace e7:IsEnumOut h7 e it ((i:Int)+1) x hp.objs.size:=e7
 refine wpAny_bind (wpAny_letGo (wpAny_pure ⟨_,rfl,wpAny_pure (q h7 e7 ?_ ?_ ?_ ?_)⟩))
 ·exact ((a4.extBut s5.extBut (Ne.symm ne)).extBut s6.extBut (Ne.symm ne)).extBut s7.extBut (Ne.symm ne)
 ·exact s7.extBut _ _ (Nat.ne_of_gt el) (s6.extBut _ _ (Nat.ne_of_gt el) (s5.extBut _ _ (Nat.ne_of_gt el) t4))
 ·rw [s7.1,s6.1,s5.1,z4]
 ·exact λ b o n1 n2 hb=>s7.extBut b o n1 (s6.extBut b o n1 (s5.extBut b o n1 (k4 b o n1 n2 hb)))
theorem q8 {e it l:Addr} {i:Nat} {its:Array Value} {old:Value} {Q:Option Value->Shared->Prop} (hh:A.handled=none)
  (he:IsEnum s.heap e it i old) (a:s.heap.IsTupleIter it l i) (b:s.heap.IsTuple l its) (hx:its[i]?=none)
  (q:∀h',Heap.ExtBut it s.heap h'->Q none {s with heap:=h'}):wpAny (model prog w) A (pyNext (.ref e)) Q E s:=by
 have hT:s.TypeIs (.ref e) "enumerate":=⟨_,he,rfl⟩
 unfold pyNext
 refine wpAny_bind (wpAny_attempt (wpAny_callSpecial?_slot (name:=Str.ofString "__next__") hT F.slot_enumerate_next (wpAny_call_entry F.slot_enumerate_next hT F.entry_enumerate_next ?_ (F.args_enumerate_next_1 _))))
 show wpAny _ _ (field (.ref e) 2 >>= _) _ _ _
 refine wpAny_bind (wpAny_field he rfl (x:=.ref it) rfl ?_)
 refine wpAny_bind (l8 hh a b hx λ h' x k1 k2=>?_)
 obtain ⟨o,o1,o2⟩:=k2
 refine wpAny_bind (wpAny_isInstance (T:="StopIteration") (b:=true) ⟨o,o1,o2⟩ isSubtype_stop ?_)
 exact wpAny_pure (q _ k1)
theorem q9 (l:Addr) (its:Array Value) (n:Nat) (dct:Option Addr) (sl:Array (Option Value)) :
  Meets (Builtin.«enumerate.__new__» ⟨[.type "enumerate",.ref l],[]⟩) (λ _ R s=>s.heap.get? l=some {cls:=.type "tuple",dict:=dct,data:=.seq its n,slots:=sl}/\
   R (.ok (.ret (.ref (s.heap.push {cls:=.type "tuple_iterator",data:=.fields #[.ref l,.int 0 0]}).objs.size)))
    {s with heap:=(s.heap.push {cls:=.type "tuple_iterator",data:=.fields #[.ref l,.int 0 0]}).push {cls:=.type "enumerate",data:=.fields #[.none,.bool false,.ref s.heap.objs.size,rawInt 0,.none,.none]}}):=
 .of_wp λ prog w A R s h=>by
  obtain ⟨hp,g,d,tk,os⟩:=s; obtain ⟨hl,h⟩:=h
  have hsub:=sub_enumerate
  have hL:Heap.IsTuple (Shared.heap ⟨hp,g,d,tk,os⟩) l its:=⟨_,hl,rfl,n,rfl⟩
  wp_walk using wpAny_loadPart' hl
  refine wpAny_stack_any λ st=>wpAny_pure ?_
  split
  ·rename_i c _ _ _ _ _
   cases (c==Value.type "enumerate")
   all_goals
    wp_walk using wpAny_loadPart' hl,wpAny_pyIter_tuple hL
    exact ⟨_,rfl,h⟩
  ·wp_walk using wpAny_loadPart' hl,wpAny_pyIter_tuple hL
   exact ⟨_,rfl,h⟩
theorem oh {l:Addr} {its:Array Value} {Q:Value->Shared->Prop} (hL:s.heap.IsTuple l its)
  (h:∀h',IsEnum h' (s.heap.objs.size+1) s.heap.objs.size 0 .none->h'.IsTupleIter s.heap.objs.size l 0->h'.objs.size=s.heap.objs.size+2->
   (∀b o,s.heap.get? b=some o->h'.get? b=some o)->Q (.ref (s.heap.objs.size+1)) {s with heap:=h'}) :
  wpAny (model prog w) A (call (.type "enumerate") [.ref l]) Q E s:=by
 obtain ⟨⟨c,dct,dt,sl⟩,hl,hc,n,hd⟩:=hL
 replace hc:c=.type "tuple":=hc
 replace hd:dt=.seq its n:=hd
 subst hc hd
 refine callType_new F.called_enumerate (by decide) (F.typeCall_enumerate_1 _) (F.newCall_enumerate_1 _) (λ obj=>F.args_object_init_2 obj _) F.entry_enumerate_new (q9 l its n dct sl) ⟨hl,?_⟩
 have hz:(s.heap.push {cls:=.type "tuple_iterator",data:=.fields #[.ref l,.int 0 0]}).objs.size=s.heap.objs.size+1:=Heap.size_push ..
 show _/\_
 rw [hz]
 have he:IsEnum ((s.heap.push {cls:=.type "tuple_iterator",data:=.fields #[.ref l,.int 0 0]}).push
   {cls:=.type "enumerate",data:=.fields #[.none,.bool false,.ref s.heap.objs.size,rawInt 0,.none,.none]}) (s.heap.objs.size+1) s.heap.objs.size 0 .none:=by
  have:=Heap.get?_push_size (s.heap.push {cls:=.type "tuple_iterator",data:=.fields #[.ref l,.int 0 0]})
   (o:={cls:=.type "enumerate",data:=.fields #[.none,.bool false,.ref s.heap.objs.size,rawInt 0,.none,.none]}) rfl
  rw [hz] at this; exact this
 refine ⟨⟨_,he,rfl⟩,h _ he ⟨_,Heap.get?_push_of_some _ (Heap.get?_push_size _ rfl),rfl,rfl⟩ (by rw [Heap.size_push,hz]) λ b o x=>Heap.get?_push_of_some _ (Heap.get?_push_of_some _ x)⟩
end
end L2
end
section
namespace L2
open PySem PySem.Spec PyProof.Rows
noncomputable def Iet (K:PySem.W.Frag) (a:Addr):It:=
 ⟨λ i H=>∃xs x,SqT K H a xs/\xs[i]?=some x,λ i H x H'=>∃p v,H p=none/\x=.ref p/\H'=upd H p (.tup [.int i,v])/\∀xs,SqT K H a xs->xs[i]?=some v,λ i H=>∃xs,SqT K H a xs/\xs.length<=i⟩
theorem oi {P:Program} {w:World} {K:PySem.W.Frag} {elts:List Expr} {x1} {pos:Pos} (a e it:Addr) (hne:e≠it) :
  Turn P w K (.Tuple elts x1 pos) (Iet K a) [e,it] e (λ i h=>(∃old,IsEnum h e it (i:Int) old)/\h.IsTupleIter it a i) where
 mem:=by simp
 obj:=λ i h st b hb=>by
  obtain ⟨⟨old,he⟩,o,ho,hc,hd⟩:=st
  rcases List.mem_cons.mp hb with rfl | hb
  ·refine ⟨_,he,λ v q=>?_⟩
   have q':Data.fields _=Data.cell v:=q
   cases q'
  ·obtain rfl:b=it:=by simpa using hb
   exact ⟨o,ho,λ v q=>by rw [hd] at q; cases q⟩
 keep:=λ i h h' st k=>by
  obtain ⟨⟨old,he⟩,o,ho,r⟩:=st
  exact ⟨⟨old,k e (by simp) _ he⟩,o,k it (by simp) o ho,r⟩
 item:=by
  intro X hP hw hK hc i pins s σ H E I hf st hg
  subst hP hw hK
  obtain ⟨xs,x,hq,hx⟩:=hg
  obtain ⟨⟨old,he⟩,hit⟩:=st
  obtain ⟨its,rv,p,hz⟩:=I.tuple hq
  obtain ⟨u,hu,ru⟩:=rv.get hx
  obtain ⟨f0,f1,f2,f3,f4,f5⟩:=hf e (by simp)
  obtain ⟨g0,g1,g2,g3,g4,g5⟩:=hf it (by simp)
  refine n9 he hit (show s.heap.IsTuple a its.toArray from p) (x:=u) (by simpa using hu) hne λ h1 ho hi ht hs k1=>⟨_,rfl,?_⟩
  have he':e < s.heap.objs.size:=Heap.lt_size he
  have hi':it < s.heap.objs.size:=by obtain ⟨o,q,_⟩:=hit; exact Heap.lt_size q
  refine wpAny_letOwnedTupleGo_enum (s:={s with heap:=h1,toks:=s.toks+1}) ho λ h2 hE sb=>?_
  have k2:∀b o,b≠e->b≠it->s.heap.get? b=some o->h2.get? b=some o:=λ b o n1 n2 q=>sb.extBut b o n1 (k1 b o n1 n2 q)
  have ht2:h2.get? s.heap.objs.size=some {cls:=.type "tuple",data:=.seq #[.int i s.toks,u]}:=sb.extBut _ _ (Nat.ne_of_gt he') ht
  have hsz2:h2.objs.size=s.heap.objs.size+1:=by rw [sb.1]; exact hs
  have hHs:H s.heap.objs.size=none:=I.hok.fresh (Nat.le_refl _)
  have nt:∀b o,H b=some o->b≠e/\b≠it:=λ b o q=>⟨(λ z=>by rw [z,f0] at q; cases q),(λ z=>by rw [z,g0] at q; cases q)⟩
  have hok:HOk X.prog X.w (upd H s.heap.objs.size (.tup [.int i,x])) h2:=by
   have lift:∀b o,H b=some o->bA X.prog X.w (upd H s.heap.objs.size (.tup [.int i,x])) h2 b o:=λ b o q=>
    (I.hok b o q).stay (λ c v hcv r=>k2 c v (by
     rcases hcv with z | z
     ·rw [z]; exact (nt b o q).1
     ·exact (nt c _ z).1) (by
     rcases hcv with z | z
     ·rw [z]; exact (nt b o q).2
     ·exact (nt c _ z).2) r) (λ c r=>by rw [aj (ak r hHs)]; exact r) λ c ys r=>by rw [aj (ak r hHs)]; exact r
   intro b o q
   by_cases eb:b=s.heap.objs.size
   ·subst eb
    rw [aB] at q
    cases q
    exact ⟨by show 2<=sizeLine; decide,[.int i s.toks,u],.cons ⟨_,rfl⟩ (.cons ru .nil),⟨_,ht2,rfl,_,rfl⟩⟩
   ·rw [aj eb] at q
    exact lift b o q
  have I2:Inv X pins σ (upd H s.heap.objs.size (.tup [.int i,x])) {s with heap:=h2,toks:=s.toks+1}:=by
   refine I.step (g':=s.gens) (d':=s.drawn) (ch:=[e,it]) (λ b hb=>?_) (λ b o hL hb hcb q n=>?_) (λ b o hL hb hcb q n=>?_) (λ b o hcb q n=>?_) (λ b o hcb q=>?_) (λ b ys q=>by rw [aj (ak q hHs)]; exact q) (λ b o u q=>by rw [aj (ak q hHs)]; exact q)
    (λ b ps q=>⟨#[],by rw [aj (ak q hHs),q]; simp⟩) (λ m hm=>?_) hok I.bare
   ·rcases List.mem_cons.mp hb with rfl | hb
    ·exact ⟨f3,f1,f4,f5⟩
    ·obtain rfl:b=it:=by simpa using hb
     exact ⟨g3,g1,g4,g5⟩
   ·simp only [List.mem_cons,List.not_mem_nil,or_false,not_or] at hcb
    exact k2 b o hcb.1 hcb.2 q
   ·simp only [List.mem_cons,List.not_mem_nil,or_false,not_or] at hcb
    exact ⟨o.slots,k2 b o hcb.1 hcb.2 q⟩
   ·rw [aj (Nat.ne_of_lt (Heap.lt_size q))]; exact n
   ·simp only [List.mem_cons,List.not_mem_nil,or_false,not_or] at hcb
    exact ⟨o,k2 b o hcb.1 hcb.2 q⟩
   ·obtain ⟨o,es,ep,q,r⟩:=hm
    exact ⟨o,es,ep,k2 _ o (Ne.symm f1) (Ne.symm g1) q,r⟩
  refine ⟨.ref s.heap.objs.size,_,I2,rfl,⟨_,x,hHs,rfl,rfl,λ ys hy=>by rw [I.gn hy hq]; exact hx⟩,⟨⟨_,by have:=hE; rw [show ((i:Int)+1)=((i+1:Nat):Int) by omega] at this; exact this⟩,?_⟩,λ b hb=>?_⟩
  ·obtain ⟨o,q,r⟩:=hi
   exact ⟨o,sb.extBut _ _ (Ne.symm hne) q,r⟩
  ·rcases List.mem_cons.mp hb with rfl | hb
   ·rw [aj (Nat.ne_of_lt he')]; exact f0
   ·obtain rfl:b=it:=by simpa using hb
    rw [aj (Nat.ne_of_lt hi')]; exact g0
 done:=by
  intro X hP hw hK hc i pins s σ H E I hf st hg
  subst hP hw hK
  obtain ⟨xs,hq,hx⟩:=hg
  obtain ⟨⟨old,he⟩,hit⟩:=st
  obtain ⟨its,rv,p,hz⟩:=I.tuple hq
  obtain ⟨g0,g1,g2,g3,g4,g5⟩:=hf it (by simp)
  have hl:=rv.length
  exact q8 (I.ok.hd hc) he hit (show s.heap.IsTuple a its.toArray from p) (by simp; omega) λ h' eb=>⟨rfl,I.turned (t':=s.toks) (λ b o hb q=>eb b o hb q) g0 g1 g3 g4 g5⟩
 self:=λ _ _ _ _ _ st h=>by
  obtain ⟨⟨old,he⟩,_⟩:=st
  exact wpAny_pyIter_enum he h
section
variable {X:Cx}
noncomputable def AJ (K:PySem.W.Frag) (ta:TA):TI:=fun σ H R=>ta σ H λ vs H1=>∃a,vs=[.ref a]/\(∃xs,SqT K H1 a xs)/\R (Iet K a) H1
theorem tR {l:Expr} {ta:TA} {p pos tpos:Pos} {elts:List Expr} {x1} (hg:Gl X "enumerate") (hm:X.mg "enumerate"=none) (ha:PA X [l] ta) (hs:starEach [l] X.env=[(false,eval l X.env)]:=by rfl) :
  PI X (.Tuple elts x1 tpos) (.Call (.Name "enumerate" p) [l] [] pos) (AJ X.K ta):=by
 intro pins s σ H R I h
 refine Call_ (dD I hg hm (u:=.type "enumerate") (by decide +kernel) (PyProof.Rows.callWith_type1 (thn (ha pos pins s σ H _ I h) λ us s1 ⟨vs,H1,I1,r1,q1⟩=>?_) hs rfl))
 obtain ⟨a,rfl,⟨xs,hq⟩,q⟩:=q1
 obtain ⟨u,rfl,ru⟩:=vals1 r1
 cases ru
 obtain ⟨its,rv,pl,hz⟩:=I1.tuple hq
 refine oh (show s1.heap.IsTuple a its.toArray from pl) λ h' he hit hsz hk=>?_
 refine wpAny_pyIter_enum he ?_
 have I2:Inv X pins σ H1 {s1 with heap:=h'}:=I1.kept (t':=s1.toks) hk
 refine ⟨_,_,_,_,H1,rfl,I2,oi a (s1.heap.objs.size+1) s1.heap.objs.size (Nat.succ_ne_self _),⟨⟨_,he⟩,hit⟩,λ b hb=>?_,q⟩
 rcases List.mem_cons.mp hb with rfl | hb
 ·exact I1.ku (Nat.le_succ _) (I1.hok.fresh (Nat.le_succ _))
 ·obtain rfl:b=s1.heap.objs.size:=by simpa using hb
  exact I1.ku (Nat.le_refl _) (I1.hok.fresh (Nat.le_refl _))
end
section
variable {X:Cx}
end
end L2
end
section
namespace L2
open PySem PySem.Spec PyProof.Rows
section
variable {K:PySem.W.Frag} {g:TG} {tc:TT} {te:TE} {Q:VK} {D:Addr} {σ0:St} {H0:Hp}
end
section
variable {X:Cx} {K:PySem.W.Frag} {w:World} {pos:Pos}
variable {o e:Expr} {es:List Expr} {to:TE} {t:TA} {name:Str} {apos cpos:Pos} {Ty id:String} {r:V->List V->Hp->VK->Prop}
end
section
variable {P:Program} {w:World} {K:PySem.W.Frag} {mg:Str->Option Value} {base:Heap}
end
end L2
end
section
namespace L2
open PySem PySem.Spec PyProof.Rows Builtin Builtin.Str
theorem tS (x:Str) (j:Nat):Txt.slice x none (some (j:Int))=⟨(x.cps.toList.take j).toArray⟩:=by
 by_cases h:j<=x.length
 ·show StrLaws.sliceText x none (some (j:Int))=_
  rw [StrLaws.sliceText_to ⟨by omega,by simp [Str.length] at h ⊢; omega⟩]
  simp
 ·have e:strSliceIndices none (some (j:Int)) 1 x.length=strSliceIndices none (some (x.length:Int)) 1 x.length:=by
   have a:¬((j:Int) < 0):=by omega
   have b:¬((x.length:Int) < 0):=by omega
   have c:max (0:Int) (min (j:Int) (x.length:Int))=max 0 (min (x.length:Int) (x.length:Int)):=by omega
   simp only [strSliceIndices,a,b,if_false,c,show (1:Int)>0 by decide,if_true]
  have f:Txt.slice x none (some (j:Int))=Txt.slice x none (some (x.length:Int)):=by
   unfold Txt.slice
   rw [e]
  rw [f]
  show StrLaws.sliceText x none (some (x.length:Int))=_
  rw [StrLaws.sliceText_to ⟨by omega,by simp [Str.length]⟩]
  have l:x.cps.toList.length<=j:=by simp [Str.length] at h ⊢; omega
  rw [List.take_of_length_le l]
  have k:x.cps.toList.take x.cps.size=x.cps.toList:=List.take_of_length_le (by simp)
  simp [Str.length,k]
end L2
end
section
namespace L2
open PySem PySem.Spec PyProof.Rows
noncomputable def itn {α:Type} (f:α->α):Nat->α->α
 | 0,x=>x
 | n+1,x=>itn f n (f x)
theorem oj {t:SetTable} (hd:t.dummies=#[]) (j:Nat):(t.slot j=.empty\/∃i,t.slot j=.live i/\i < t.place.size)/\(j∉t.place.toList->t.slot j=.empty):=by
 have hh:SetTable.has t.dummies j=false:=by rw [hd]; rfl
 unfold SetTable.slot
 simp only [hh]
 by_cases h:(t.place[SetTable.below t.place j]?==some j)=true
 ·simp only [h,if_true]
  have h':t.place[SetTable.below t.place j]?=some j:=by simpa using h
  obtain ⟨hl,he⟩:=Array.getElem?_eq_some_iff.mp h'
  refine ⟨.inr ⟨_,rfl,hl⟩,λ hn=>absurd ?_ hn⟩
  rw [<-he]; simp
 ·simp only [h]
  exact ⟨.inl rfl,λ _=>rfl⟩
theorem rm (t:SetTable) (p:SetTable.Probe):(t.advance p).dummy=p.dummy:=by
 unfold SetTable.advance
 split
 ·rfl
 ·rfl
theorem tT {t:SetTable} (hd:t.dummies=#[]) {hashAt:Nat->Int} {h:Int} (hne:∀i,i < t.place.size->hashAt i≠h):∀(fuel:Nat) (p:SetTable.Probe),p.dummy=none->
  (∃n,n < fuel/\(itn t.advance n p).j∉t.place.toList)->∃j,SetTable.probe.go t hashAt h fuel p=some (.empty j none):=by
 intro fuel
 induction fuel with
 | zero=>intro p _ ⟨n,h,_⟩; omega
 | succ k ih=>
  intro p hp ⟨n,hn,hj⟩
  unfold SetTable.probe.go
  obtain ⟨hc,he⟩:=oj hd p.j
  rcases hc with hs | ⟨i,hs,hi⟩
  ·simp only [hs]; exact ⟨p.j,by rw [hp]⟩
  ·simp only [hs]
   have:(hashAt i==h)=false:=by simpa using hne i hi
   simp only [this]
   cases n with
   | zero=>rw [he hj] at hs; cases hs
   | succ n=>exact ih _ ((rm t p).trans hp) ⟨n,by omega,hj⟩
noncomputable def kK (h:Int):SetTable.Probe:=(SetTable.fresh 0 0 true).probeStart h
noncomputable def w9 (p:SetTable.Probe):SetTable.Probe:=(SetTable.fresh 0 0 true).advance p
theorem j6 {t:SetTable} (hm:t.mask=7) (h:Int):t.probeStart h=kK h:=by unfold kK SetTable.probeStart; rw [hm]; rfl
theorem xg {t:SetTable} (hm:t.mask=7):t.advance=w9:=by funext p; unfold w9 SetTable.advance; rw [hm]; rfl
noncomputable def kL (h:Int):Bool:=(List.range 4).all λ j=>(List.range 60).any λ n=>(itn w9 n (kK h)).j==j
theorem pick {L:List Nat} (h:L.length<=3):∃j,j < 4/\j∉L:=by
 match L,h with
 | [],_=>exact ⟨0,by omega,by simp⟩
 | [a],_=>
  by_cases e:a=0
  ·exact ⟨1,by omega,by simp; omega⟩
  ·exact ⟨0,by omega,by simp; omega⟩
 | [a,b],_=>
  have:(0≠a/\0≠b)\/(1≠a/\1≠b)\/(2≠a/\2≠b):=by omega
  rcases this with h | h | h
  ·exact ⟨0,by omega,by simp; omega⟩
  ·exact ⟨1,by omega,by simp; omega⟩
  ·exact ⟨2,by omega,by simp; omega⟩
 | [a,b,c],_=>
  have:(0≠a/\0≠b/\0≠c)\/(1≠a/\1≠b/\1≠c)\/(2≠a/\2≠b/\2≠c)\/(3≠a/\3≠b/\3≠c):=by omega
  rcases this with h | h | h | h
  ·exact ⟨0,by omega,by simp; omega⟩
  ·exact ⟨1,by omega,by simp; omega⟩
  ·exact ⟨2,by omega,by simp; omega⟩
  ·exact ⟨3,by omega,by simp; omega⟩
 | a::b::c::d::r,h=>simp at h
theorem om {t:SetTable} (hm:t.mask=7) (hd:t.dummies=#[]) (hz:t.place.size<=3) {hashAt:Nat->Int} {h:Int} (hc:kL h=true) (hne:∀i,i < t.place.size->hashAt i≠h) :
  ∃j,t.probe hashAt h (t.probeStart h)=some (.empty j none):=by
 obtain ⟨j,hj,hL⟩:=pick (L:=t.place.toList) (by simpa using hz)
 have h1:=List.all_eq_true.mp hc j (by simpa using hj)
 obtain ⟨n,hn,e⟩:=List.any_eq_true.mp h1
 have e:(itn w9 n (kK h)).j=j:=by simpa using e
 refine tT hd hne _ _ (by rw [j6 hm]; rfl) ⟨n,?_,?_⟩
 ·rw [hm]; have:n < 60:=by simpa using hn
  show n < 10*(7+15); omega
 ·rw [xg hm,j6 hm,e]; exact hL
noncomputable def cK (ks:List Int):Int:=reduceHash (Builtin.Tuple.tupleHashOf (ks.map hashInt))
theorem tU (prog:Program) (w:World) (ks:List Int):(tupleKind (intKind prog w)).hash ks=cK ks:=rfl
noncomputable def af:Nat->List (List Int)
 | 0=>[[]]
 | n+1=>(af n).map (0::·)++(af n).map (1::·)
noncomputable def cy (ks:List Int):Bool:=decide (ks.length<=4)&&ks.all λ i=>i==0||i==1
theorem aY {ks:List Int} (h:∀i∈ks,i=0\/i=1):ks∈af ks.length:=by
 induction ks with
 | nil=>simp [af]
 | cons k r ih=>
  have hr:=ih λ i hi=>h i (List.mem_cons_of_mem _ hi)
  rw [List.length_cons,af,List.mem_append]
  rcases h k (List.mem_cons_self) with rfl | rfl
  ·exact .inl (List.mem_map.mpr ⟨r,hr,rfl⟩)
  ·exact .inr (List.mem_map.mpr ⟨r,hr,rfl⟩)
noncomputable def allNames:List (List Int):=(List.range 5).flatMap af
theorem name_mem {ks:List Int} (h:cy ks=true):ks∈allNames:=by
 simp only [cy,Bool.and_eq_true,decide_eq_true_eq,List.all_eq_true,Bool.or_eq_true,beq_iff_eq] at h
 exact List.mem_flatMap.mpr ⟨ks.length,by simp; omega,aY h.2⟩
theorem l9:(allNames.all λ ks=>kL (cK ks))=true:=by decide +kernel
theorem mh:(allNames.all λ ks=>allNames.all λ ls=>cK ks != cK ls||ks==ls)=true:=by decide +kernel
theorem mj {ks:List Int} (h:cy ks=true):kL (cK ks)=true:=List.all_eq_true.mp l9 ks (name_mem h)
theorem oq {ks ls:List Int} (h:cy ks=true) (h':cy ls=true) (ne:ks≠ls):cK ks≠cK ls:=by
 have:=List.all_eq_true.mp (List.all_eq_true.mp mh ks (name_mem h)) ls (name_mem h')
 simp only [Bool.or_eq_true,bne_iff_ne,beq_iff_eq] at this
 exact this.resolve_right ne
end L2
end
section
namespace L2
open PySem PySem.Spec PyProof.Rows
section
variable {prog:Program} {w:World} {A:Around} {E:Value->Shared->Prop} {s:Shared}
theorem eB {a:Addr} {o:Obj} {es:Array (Int×Value)} {ep:Nat} {t:SetTable} {Q:Array (Int×Value)×Nat×SetTable->Shared->Prop} (hg:s.heap.get? a=some o) (hd:o.data=.set es ep t) (hf:t.place.size=es.size) (hm:t.fill<=t.mask) (h:Q (es,ep,t) s) :
  wpAny (model prog w) A (setState a) Q E s:=by
 unfold setState
 refine wpAny_bind (wpAny_load hg ?_)
 simp only [hd]
 have h1:(t.place.size != es.size)=false:=by simp [hf]
 have h2:decide (t.fill>t.mask)=false:=by simp; exact hm
 simp only [h1,h2]
 exact wpAny_pure h
theorem rq {a:Addr} {o:Obj} {es:Array (Int×Value)} {ep:Nat} {t:SetTable} {x:Value} {h:Int} {Q:SetFound->Shared->Prop} (hg:s.heap.get? a=some o) (hd:o.data=.set es ep t)
  (hf:t.place.size=es.size) (hm:t.mask=7) (hdm:t.dummies=#[]) (hz:t.place.size<=3) (hc:kL h=true) (hne:∀e∈es.toList,e.1≠h) (hq:∀j,Q (.free j false) s) :
  wpAny (model prog w) A (setSearch a x h true) Q E s:=by
 unfold setSearch
 rw [show (100000:Nat)=Nat.succ 99999 from rfl,setSearchFrom.eq_2]
 refine wpAny_bind (eB hg hd hf (by unfold SetTable.fill; rw [hm,hdm]; simp; omega) ?_)
 have hgw:t.gaveWay=false:=by unfold SetTable.gaveWay; rw [hm]; rfl
 simp only [hgw]
 show wpAny _ _ (match t.probe _ h (t.probeStart h) with | some _=>_ | _=>_) _ _ _
 obtain ⟨j,hj⟩:=om (t:=t) hm hdm hz (h:=h) (hashAt:=λ i=>(Option.map (λ x=>x.fst) es[i]?).getD 0) hc (λ i hi=>by
  rw [hf] at hi
  rw [Array.getElem?_eq_getElem hi]
  exact hne _ (by simp))
 have hj':=hj
 split
 ·rename_i met hmet
  have e:=hmet.symm.trans hj'
  cases e
  exact wpAny_pure (hq j)
 ·rename_i hmet
  exact (hmet _ hj').elim
theorem iw:typeLookup (.type "tuple") (Str.ofString "__hash__")=pure (some (.builtin "tuple.__hash__")):=by kernel_rfl
theorem jG {σ:Type} (f:Value->σ->Sem (ForInStep σ)):∀(l:List Value) (b:σ) {Q:σ->Shared->Prop},(∀v∈l,∀b:σ,∃r,f v b=pure r)->(∀b,Q b s)->wpAny (model prog w) A (forIn l b f) Q E s:=by
 intro l
 induction l with
 | nil=>intro b Q _ hq; rw [List.forIn_nil]; exact wpAny_pure (hq b)
 | cons v l ih=>
  intro b Q hf hq
  rw [List.forIn_cons]
  obtain ⟨r,hr⟩:=hf v List.mem_cons_self b
  rw [hr]
  refine wpAny_bind (wpAny_pure ?_)
  cases r with
  | done b=>exact wpAny_pure (hq b)
  | yield b=>exact ih b (λ v hv=>hf v (List.mem_cons_of_mem _ hv)) hq
theorem ou {n:Nat} {a:Addr} {o:Obj} {items:Array Value} {m:Nat} {Q:Bool->Shared->Prop} (hg:s.heap.get? a=some o) (hcl:o.cls=.type "tuple") (hd:o.data=.seq items m) (hi:∀v∈items.toList,v.scannable=true)
  (hq:∀b,Q b s):wpAny (model prog w) A (hashByValue (n+1) (.ref a)) Q E s:=by
 rw [show n+1=Nat.succ n from rfl,hashByValue.eq_12]
 refine wpAny_bind (wpAny_specialOf (T:="tuple") ⟨o,hg,hcl⟩ iw ?_)
 refine wpAny_bind (wpAny_seqItems hg hd ?_)
 show wpAny _ _ (forIn items _ _ >>= _) _ _ _
 rw [<-Array.forIn_toList]
 refine wpAny_bind (jG _ _ _ (λ v hv b=>?_) λ b=>?_)
 ·rw [hashByValue_scannable _ (hi v hv)]
  cases plainKind v
  ·exact ⟨_,rfl⟩
  ·exact ⟨_,rfl⟩
 ·obtain ⟨b,u⟩:=b
  cases b with
  | none=>exact wpAny_pure (hq _)
  | some b=>exact wpAny_pure (hq _)
theorem mq {a:Addr} {c:Value} {d:Option Addr} {sl:Array (Option Value)} {es es1:Array (Int×Value)} {ep:Nat} {t t1:SetTable} {Q:Unit->Shared->Prop} (hg:s.heap.get? a=some {cls:=c,dict:=d,data:=.set es ep t,slots:=sl}) (hz:es1.size<=sizeLine)
  (h:∀h':Heap,h'.get? a=some {cls:=c,dict:=d,data:=.set es1 (ep+1) t1,slots:=sl}->Heap.SameBut a s.heap h'->Q () {s with heap:=h'}):wpAny (model prog w) A (storeSet a es1 t1) Q E s:=by
 unfold storeSet
 refine wpAny_bind (wpAny_load hg ?_)
 simp only
 have:¬(es1.size>sizeLine):=by omega
 simp only [this,if_false]
 refine wpAny_update hg (h _ (Heap.get?_update_self _ hg rfl) (Heap.SameBut.update ..))
noncomputable def iX (h:Heap) (S:Addr) (n:Nat) (hs:List Int):Prop:=∃es ep t,h.get? S=some {cls:=.type "set",dict:=none,data:=.set es ep t,slots:=#[]}/\t.mask=7/\t.dummies=#[]/\t.place.size=n/\es.size=n/\∀e∈es.toList,e.1∈hs
theorem cC {α:Type} (xs:Array α) (p:Nat) (x:α):(SetTable.insertAt xs p x).size=xs.size+1:=by
 have:=(SetTable.insertAt_perm xs p x).length_eq
 simpa using this
theorem jH {ks:List Int} {vs:List Value} (h:ItemsAre (intKind prog w) ks vs):∀v∈vs,v.scannable=true:=by
 induction h with
 | nil=>intro v hv; cases hv
 | @cons k u ks vs h t ih=>
  intro v hv
  rcases List.mem_cons.mp hv with e | hv
  ·have h:Value.isInt k u=true:=h
   rw [e]
   cases u<;>first | rfl | (simp [Value.isInt] at h)
  ·exact ih v hv
theorem rA {S a:Addr} {n:Nat} {hs ks:List Int} {Q:Bool->Shared->Prop} (hr:A.units < cLine) (hS:iX s.heap S n hs) (hx:IsTupleKey (intKind prog w) s.heap ks a) (hn:n<=3) (hk:cy ks=true) (hh:cK ks∉hs)
  (h:∀h' tk b,iX h' S (n+1) (cK ks::hs)->Heap.SameBut S s.heap h'->Q b {s with heap:=h',toks:=tk}):wpAny (model prog w) A (setAdd S (.ref a)) Q E s:=by
 unfold setAdd
 refine wpAny_holding (wpAny_bind ((tupleKind (intKind prog w)).pyHash hr hx ?_))
 rw [tU]
 unfold setAddHashed
 refine wpAny_holding ?_
 rw [show (100000:Nat)=Nat.succ 99999 from rfl,setAddHashedIn.eq_2]
 obtain ⟨es,ep,t,hg,hm,hd,hp,he,hl⟩:=hS
 have hfill:t.fill<=t.mask:=by unfold SetTable.fill; rw [hm,hd]; simp; omega
 refine wpAny_bind (eB hg rfl (by omega) hfill ?_)
 have hb:byScan (.ref a) es=false:=by simp [byScan,Value.scannable]
 simp only [hb]
 refine wpAny_bind (rq (t:=t) hg rfl (by omega) hm hd (by omega) (mj hk) (λ e hm e1=>hh (e1▸hl e hm)) λ j=>?_)
 simp only
 refine wpAny_bind (eB hg rfl (by omega) hfill ?_)
 simp only [SetTable.put]
 have hj:SetTable.has t.dummies j=false:=by rw [hd]; rfl
 simp only [hj,Bool.false_eq_true,if_false,hd]
 have go:∀(t1:SetTable) (y:Sem Bool),t1.mask=7->t1.dummies=#[]->t1.place.size=n+1->wpAny (model prog w) A (do
   storeSet S (SetTable.insertAt es (SetTable.below t.place j) (cK ks,Value.ref a)) t1
   if (!false&&t1.tooFull)=true then y else pure true) Q E {s with toks:=s.toks+(tupleKind (intKind prog w)).draws ks}:=by
  intro t1 y h1 h2 h3
  refine wpAny_bind (mq hg (by rw [cC]; exact Nat.le_trans (by omega:es.size+1<=4) (by decide +kernel)) λ h' g' sb=>?_)
  have tf:t1.tooFull=false:=by unfold SetTable.tooFull SetTable.fill; rw [h1,h2]; simp; omega
  simp only [tf,Bool.not_false,Bool.and_false,Bool.false_eq_true,if_false]
  refine wpAny_pure (h _ _ _ ⟨_,_,_,g',h1,h2,h3,by rw [cC,he],λ e hm=>?_⟩ sb)
  have hm:=(SetTable.insertAt_perm es _ _).mem_iff.mp hm
  rw [Array.toList_push,List.mem_append] at hm
  rcases hm with hm | hm
  ·exact List.mem_cons_of_mem _ (hl e hm)
  ·rw [List.mem_singleton.mp hm]; exact List.mem_cons_self
 have bv:∀b:Bool,(if b=true then ({mask:=t.mask,place:=SetTable.insertAt t.place (SetTable.below t.place j) j,dummies:=#[],finger:=t.finger,led:=t.led,moves:=t.moves,plain:=t.plain}:SetTable) else {mask:=t.mask,place:=SetTable.insertAt t.place (SetTable.below t.place j) j,dummies:=#[],finger:=t.finger,led:=t.led,moves:=t.moves,plain:=false}).mask=7/\
   (if b=true then ({mask:=t.mask,place:=SetTable.insertAt t.place (SetTable.below t.place j) j,dummies:=#[],finger:=t.finger,led:=t.led,moves:=t.moves,plain:=t.plain}:SetTable) else {mask:=t.mask,place:=SetTable.insertAt t.place (SetTable.below t.place j) j,dummies:=#[],finger:=t.finger,led:=t.led,moves:=t.moves,plain:=false}).dummies=#[]/\
   (if b=true then ({mask:=t.mask,place:=SetTable.insertAt t.place (SetTable.below t.place j) j,dummies:=#[],finger:=t.finger,led:=t.led,moves:=t.moves,plain:=t.plain}:SetTable) else {mask:=t.mask,place:=SetTable.insertAt t.place (SetTable.below t.place j) j,dummies:=#[],finger:=t.finger,led:=t.led,moves:=t.moves,plain:=false}).place.size=n+1:=by
  intro b
  cases b
  ·exact ⟨hm,rfl,by show (SetTable.insertAt _ _ _).size=_; rw [cC,hp]⟩
  ·exact ⟨hm,rfl,by show (SetTable.insertAt _ _ _).size=_; rw [cC,hp]⟩
 split
 ·obtain ⟨o,items,m,ho,hcl,hda,hit⟩:=hx
  refine wpAny_bind (ou ho hcl hda (jH hit) λ b=>?_)
  exact go _ _ (bv b).1 (bv b).2.1 (bv b).2.2
 ·refine wpAny_bind (wpAny_pure ?_)
  exact go _ _ (bv true).1 (bv true).2.1 (bv true).2.2
theorem cX {h h':Heap} {ks:List Int} {a S:Addr} (x:IsTupleKey (intKind prog w) h ks a) (sb:Heap.SameBut S h h') (ne:a≠S):IsTupleKey (intKind prog w) h' ks a:=by
 obtain ⟨o,items,m,ho,r⟩:=x
 exact ⟨o,items,m,(sb.2 a ne).trans ho,r⟩
theorem iX.sameBut {h h':Heap} {n:Nat} {hs:List Int} {a S:Addr} (x:iX h S n hs) (sb:Heap.SameBut a h h') (ne:S≠a):iX h' S n hs:=by
 obtain ⟨es,ep,t,hg,r⟩:=x
 exact ⟨es,ep,t,(sb.2 S ne).trans hg,r⟩
theorem tV {S it l:Addr} {its:Array Value} {kss:List (List Int)} (hr:A.in1.units < cLine) (hh:A.in1.handled=none) (nl:l≠it) (nS:S≠it) (nSl:S≠l) (hz:kss.length<=4) (hlen:its.size=kss.length)
  (hok:∀ks∈kss,cy ks=true) (hnd:kss.Nodup) {R:Result->Shared->Prop}:∀(n i:Nat) (s:Shared),its.size - i=n->i<=its.size->s.heap.IsListIter it l i->s.heap.IsList l its->
  (∀(j:Nat) (ks:List Int) (v:Value),kss[j]?=some ks->its[j]?=some v->∃a:Addr,v=Value.ref a/\a≠S/\a≠it/\IsTupleKey (intKind prog w) s.heap ks a)->iX s.heap S i ((kss.take i).reverse.map cK)->
  (∀(h':Heap) (tk:Nat) (hs:List Int),iX h' S its.size hs->(∀b o,b≠S->b≠it->s.heap.get? b=some o->h'.get? b=some o)->R (.ok (.ret .none)) {s with heap:=h',toks:=tk})->
  codeAny (model prog w) A (.builtin "set.update.loop" {pos:=[.ref S,.ref it]}) R s:=by
 intro n
 induction n with
 | zero=>
  intro i s hn hi hit hl hx hS hR
  refine codeAny_builtin F.entry_set_update_loop ?_
  rw [Around.under_plain rfl rfl]
  show wpAny _ _ (pyNext (.ref it) >>= _) _ _ _
  refine wpAny_bind (wpAny_pyNext_list_end hh hit hl (by simp; omega) λ h1 sb1=>?_)
  refine wpAny_pure ?_
  have e:i=its.size:=by omega
  subst e
  obtain ⟨es,ep,t,hg,r⟩:=hS
  exact hR h1 s.toks _ ⟨es,ep,t,sb1 S _ nS hg,r⟩ λ b o n1 n2 e=>sb1 b o n2 e
 | succ n ih=>
  intro i s hn hi hit hl hx hS hR
  refine codeAny_builtin F.entry_set_update_loop ?_
  rw [Around.under_plain rfl rfl]
  show wpAny _ _ (pyNext (.ref it) >>= _) _ _ _
  have lt:i < its.size:=by omega
  have lk:i < kss.length:=by omega
  obtain ⟨a,hv,naS,nai,hka⟩:=hx i kss[i] its[i] (by simp [lk]) (by simp [lt])
  refine wpAny_bind (wpAny_pyNext_list_item hit hl (x:=its[i]) (by simp [lt]) λ h1 it1 sb1=>?_)
  rw [hv]
  have hmem:cK kss[i]∉(kss.take i).reverse.map cK:=by
   intro hm
   obtain ⟨ls,hls,e⟩:=List.mem_map.mp hm
   rw [List.mem_reverse] at hls
   obtain ⟨j,hj,e1⟩:=List.mem_take_iff_getElem.mp hls
   have hj':j < kss.length:=by omega
   refine oq (hok ls ?_) (hok kss[i] (List.getElem_mem lk)) ?_ e
   ·rw [<-e1]; exact List.getElem_mem _
   ·intro e2
    have e3:kss[j]=kss[i]:=e1.trans e2
    have:=(List.getElem_inj hnd).mp e3
    omega
  refine wpAny_bind (wpAny_holding (rA (s:={s with heap:=h1}) hr (hS.sameBut sb1 nS) (cX hka sb1 nai) (by omega) (hok _ (List.getElem_mem lk)) hmem λ h2 tk b hS2 sb2=>?_))
  refine wpAny_pure ⟨Code.quiet_builtin _ (by decide +kernel),ih (i+1) _ (by omega) (by omega) ?_ ?_ ?_ ?_ ?_⟩
  ·exact it1.extBut sb2.extBut nS.symm
  ·exact (hl.extBut sb1.extBut nl).extBut sb2.extBut nSl.symm
  ·intro j ks v h3 h4
   obtain ⟨a',hv',n1,n2,hk'⟩:=hx j ks v h3 h4
   exact ⟨a',hv',n1,n2,cX (cX hk' sb1 n2) sb2 n1⟩
  ·have e:(kss.take (i+1)).reverse.map cK=cK kss[i]::(kss.take i).reverse.map cK:=by
    rw [List.take_succ_eq_append_getElem lk,List.reverse_append,List.map_append]; rfl
   rw [e]; exact hS2
  ·intro h' tk' hs hL hk2
   exact hR h' tk' hs hL λ b o n1 n2 e=>hk2 b o n1 n2 (by rw [sb2.2 b n1,sb1.2 b n2]; exact e)
end
end L2
end
section
namespace L2
open PySem PySem.Spec PyProof.Rows
section
variable {prog:Program} {w:World} {A:Around} {E:Value->Shared->Prop} {s:Shared}
theorem CK:isSubtype (.type "list") (.type "set")=pure false:=by rw [isSubtype_type]; kernel_rfl
theorem CL:isSubtype (.type "list") (.type "frozenset")=pure false:=by rw [isSubtype_type]; kernel_rfl
set_option maxHeartbeats 3200000 in
theorem iY {l:Addr} {its:Array Value} {kss:List (List Int)} {Q:Value->Shared->Prop}
  (hh:A.handled=none) (hu:A.units+10 < cLine) (hl:s.heap.IsList l its) (hz:kss.length<=4) (hlen:its.size=kss.length) (hok:∀ks∈kss,cy ks=true) (hnd:kss.Nodup)
  (hx:∀(j:Nat) (ks:List Int) (v:Value),kss[j]?=some ks->its[j]?=some v->∃a:Addr,v=Value.ref a/\IsTupleKey (intKind prog w) s.heap ks a)
  (h:∀(h':Heap) (tk:Nat) (hs:List Int),iX h' s.heap.objs.size kss.length hs->
   (∀b o,b < s.heap.objs.size->s.heap.get? b=some o->h'.get? b=some o)->Q (.ref s.heap.objs.size) {s with heap:=h',toks:=tk}) :
  wpAny (model prog w) A (call (.type "set") [.ref l]) Q E s:=by
 obtain ⟨cc,tl,hmro⟩:=F.called_set.mro
 have hmade:=F.called_set.made
 have hsub:=F.called_set.sub
 refine wpAny_call (codeAny_of_tree ?_)
 show wpAny _ _ (callAny (.type "set") _) _ _ _
 refine wpAny_pure ⟨Code.quiet_builtin _ (by decide +kernel),codeAny_builtin F.entry_type_call ?_⟩
 rw [Around.under_plain (weight_type_call_type "set" [.ref l] []) rfl]
 have k1:=F.called_set.notType
 have k2:=F.called_set.canCreate
 have k3:=F.typeCall_set_1 (.ref l)
 repeat (any_goals (first | assumption | wp_step))
 refine codeAny_mono (code_set_new_1 (.ref l) (E:=E) (Q₁:=λ ob t₁=>∃led:Bool,ob=.ref s.heap.objs.size/\t₁={s with heap:=s.heap.push {cls:=.type "set",dict:=none,data:=.set #[] 0 (.fresh 0 0 led)}}) λ led=>⟨led,rfl,rfl⟩) λ r t₁ hr=>?_
 cases r with
 | error e=>exact hr
 | ok fl=>
  cases fl with
  | ret ob=>
   obtain ⟨led,rfl,rfl⟩:=hr
   have gS:(s.heap.push {cls:=.type "set",dict:=none,data:=.set #[] 0 (.fresh 0 0 led)}).get? s.heap.objs.size=some {cls:=.type "set",dict:=none,data:=.set #[] 0 (.fresh 0 0 led)}:=Heap.get?_push_size _ rfl
   have gT:Shared.TypeIs {s with heap:=s.heap.push {cls:=.type "set",dict:=none,data:=.set #[] 0 (.fresh 0 0 led)}} (.ref s.heap.objs.size) "set":=⟨_,gS,rfl⟩
   have k4:=F.called_set.init.lookup
   have k5:=F.called_set.init.bind (.ref s.heap.objs.size)
   repeat (any_goals (first | assumption | wp_step))
   refine codeAny_mono (codeAny_call_builtin (R:=wants (λ r t₂=>r=.none/\∃h' tk,t₂={s with heap:=h',toks:=tk}/\
     (∃hs,iX h' s.heap.objs.size kss.length hs)/\
     (∀b o,b < s.heap.objs.size->s.heap.get? b=some o->h'.get? b=some o)) E) F.called_set.init.plain F.entry_set_init (check_set_init_1 gT ?_)) λ r₂ t₂ hr₂=>?_
   ·obtain ⟨ol,hol,hcl,nl,hdl⟩:=hl
    obtain ⟨ocls,odict,odata,oslots⟩:=ol
    simp only at hcl hdl
    subst hcl; subst hdl
    have gol:(s.heap.push {cls:=.type "set",dict:=none,data:=.set #[] 0 (.fresh 0 0 led)}).get? l=some {cls:=.type "list",dict:=odict,data:=.seq its nl,slots:=oslots}:=Heap.get?_push_of_some _ hol
    have k6:=CK
    have k7:=CL
    have k8:(Value.type "list"==Value.type "dict")=false:=by decide
    have gl:(s.heap.push {cls:=.type "set",dict:=none,data:=.set #[] 0 (.fresh 0 0 led)}).IsList l its:=⟨_,gol,rfl,nl,rfl⟩
    unfold Builtin.«set.__init__» noKeywords Builtin.Frozenset.updateFrom
    generalize gPI:pyIter=PI
    wp_walk
    subst gPI
    refine wpAny_pyIter_list gl ?_
    refine wpAny_bind (wpAny_runValue ?_)
    have lS:l < s.heap.objs.size:=Heap.lt_size hol
    have eI:(s.heap.push {cls:=.type "set",dict:=none,data:=.set #[] 0 (.fresh 0 0 led)}).objs.size=s.heap.objs.size+1:=Heap.size_push ..
    refine tV (l:=l) (by show A.in1.in1.in1.units < cLine; simp [Around.in1]; omega) (by simp [hh]) ?_ ?_ ?_ hz hlen hok hnd (its.size - 0) 0 _ rfl (Nat.zero_le _) ?_ ?_ ?_ ?_ ?_
    ·rw [eI]; exact Nat.ne_of_lt (Nat.lt_succ_of_lt lS)
    ·rw [eI]; exact Nat.ne_of_lt (Nat.lt_succ_self _)
    ·exact Nat.ne_of_gt lS
    ·exact ⟨_,Heap.get?_push_size _ rfl,rfl,rfl⟩
    ·exact gl.push _
    ·intro j ks v h1 h2
     obtain ⟨a,hv,o,items,m,ho,r⟩:=hx j ks v h1 h2
     have:=Heap.lt_size ho
     refine ⟨a,hv,Nat.ne_of_lt this,by rw [eI]; exact Nat.ne_of_lt (Nat.lt_succ_of_lt this),o,items,m,Heap.get?_push_of_some _ (Heap.get?_push_of_some _ ho),r⟩
    ·exact ⟨_,_,_,Heap.get?_push_of_some _ gS,rfl,rfl,rfl,rfl,λ e he=>by simp at he⟩
    ·intro h' tk hs hL hk
     refine wpAny_pure ?_
     show wpAny _ _ (ret Value.none) _ _ _
     refine wpAny_pure ⟨rfl,h',tk,rfl,⟨hs,hlen▸hL⟩,λ b o hb e=>?_⟩
     exact hk b o (Nat.ne_of_lt hb) (by rw [eI]; exact Nat.ne_of_lt (Nat.lt_succ_of_lt hb)) (Heap.get?_push_of_some _ (Heap.get?_push_of_some _ e))
   ·cases r₂ with
    | error e=>exact hr₂
    | ok fl₂=>
     cases fl₂ with
     | ret r=>
      obtain ⟨rfl,h',tk,rfl,⟨hs,hS'⟩,hk'⟩:=hr₂
      repeat (any_goals (first | assumption | wp_step))
      exact h _ _ hs hS' hk'
     | _=>exact hr₂.elim
  | _=>exact hr.elim
end
end L2
end
section
namespace L2
open PySem PySem.Spec PyProof.Rows
section
variable {prog:Program} {w:World} {A:Around} {E:Value->Shared->Prop} {s:Shared}
theorem tX {S it l:Addr} {its:Array Value} {nss:List (List Int)} {d:Value} {a0:Addr} {n0:List Int} {AK:Array Value} (hr:A.in1.units < cLine) (hh:A.in1.handled=none) (nl:l≠it) (nS:S≠it) (nSl:S≠l) (hlen:its.size=nss.length)
  (na0:a0≠S) (na1:a0≠it) (hi0:IntsAre AK.toList n0) (hlt:∀ns∈nss,HT.lexLt ns n0=false) {R:Result->Shared->Prop}:∀(n i:Nat) (s:Shared) (c:Nat),its.size - i=n->i<=its.size->s.heap.IsListIter it l i->s.heap.IsList l its->
  (∀(j:Nat) (ns:List Int) (v:Value),nss[j]?=some ns->its[j]?=some v->∃(a:Addr) (jt:Array Value),v=Value.ref a/\a≠S/\a≠it/\IsTup s.heap a jt/\IntsAre jt.toList ns)->
  IsTup s.heap a0 AK->s.heap.get? S=some {cls:=.type "list",data:=.seq #[.ref a0,.ref a0] c}->
  (∀(h':Heap) (tk:Nat),(∀b o,b≠S->b≠it->s.heap.get? b=some o->h'.get? b=some o)->R (.ok (.ret (.ref a0))) {s with heap:=h',toks:=tk})->
  codeAny (model prog w) A (.builtin "min.loop" {pos:=[.ref it,.none,.ref S],kw:=[(Str.ofString "default",d)]}) R s:=by
 intro n
 induction n with
 | zero=>
  intro i s c hn hi hit hl hx h0 hS hR
  refine codeAny_builtin PySem.F.entry_min_loop ?_
  rw [Around.under_plain rfl rfl]
  show wpAny _ _ (seqItems? (.ref S) >>= _) _ _ _
  refine wpAny_bind (wpAny_seqItems hS rfl ?_)
  show wpAny _ _ (tryCatch (pyNext (.ref it)) _ >>= _) _ _ _
  refine wpAny_bind (wpAny_tryCatch (wpAny_pyNext_list_end hh hit hl (by simp; omega) λ h1 sb1=>?_))
  show wpAny _ _ (updateSeq S _ >>= _) _ _ _
  refine wpAny_bind (wpAny_updateSeq (sb1 S _ nS hS) rfl ?_ (by simp; decide +kernel) (by simp))
  refine wpAny_bind (wpAny_letGo ?_)
  refine wpAny_pure ?_
  refine hR _ s.toks λ b o n1 n2 e=>?_
  exact Heap.get?_update_of_ne _ n1.symm (sb1 b o n2 e)
 | succ n ih=>
  intro i s c hn hi hit hl hx h0 hS hR
  refine codeAny_builtin PySem.F.entry_min_loop ?_
  rw [Around.under_plain rfl rfl]
  show wpAny _ _ (seqItems? (.ref S) >>= _) _ _ _
  refine wpAny_bind (wpAny_seqItems hS rfl ?_)
  show wpAny _ _ (tryCatch (pyNext (.ref it)) _ >>= _) _ _ _
  have lt:i < its.size:=by omega
  have lk:i < nss.length:=by omega
  obtain ⟨a,jt,hv,naS,nai,hka,hin⟩:=hx i nss[i] its[i] (by simp [lk]) (by simp [lt])
  refine wpAny_bind (wpAny_tryCatch (wpAny_pyNext_list_item hit hl (x:=its[i]) (by simp [lt]) λ h1 it1 sb1=>?_))
  rw [hv]
  have xh:∀{b:Addr} {kt:Array Value},b≠it->IsTup s.heap b kt->IsTup h1 b kt:=λ {b kt} ne x=>by
   obtain ⟨o,ho,r⟩:=x
   exact ⟨o,(sb1.2 b ne).trans ho,r⟩
  show wpAny _ _ (tryCatch (holding _ (richCompare .Lt (.ref a) (.ref a0) >>= _)) _ >>= _) _ _ _
  refine wpAny_bind (wpAny_tryCatch (wpAny_holding (wpAny_bind ?_)))
  refine HT.nR (s:={s with heap:=h1}) (xh nai hka) (xh na1 h0) hin hi0 hr ?_
  rw [hlt _ (List.getElem_mem lk)]
  refine wpAny_bind (wpAny_holding (wpAny_truthy_bool ?_))
  refine wpAny_bind (wpAny_letGo ?_)
  refine wpAny_pure ?_
  show wpAny _ _ (letGo _ >>= _) _ _ _
  refine wpAny_bind (wpAny_letGo ?_)
  refine wpAny_pure ⟨Code.quiet_builtin _ (by decide +kernel),ih (i+1) {s with heap:=h1} c (by omega) (by omega) it1 (hl.extBut sb1.extBut nl) ?_ (xh na1 h0) ((sb1.2 S nS).trans hS) ?_⟩
  ·intro j ns v h3 h4
   obtain ⟨a',jt',hv',n1,n2,hk',hi'⟩:=hx j ns v h3 h4
   exact ⟨a',jt',hv',n1,n2,xh n2 hk',hi'⟩
  ·intro h' tk hk
   exact hR h' tk λ b o n1 n2 e=>hk b o n1 n2 ((sb1.2 b n2).trans e)
end
end L2
end
section
namespace L2
open PySem PySem.Spec PyProof.Rows
section
variable {prog:Program} {w:World} {A:Around} {E:Value->Shared->Prop} {s:Shared}
theorem tY (d:Value):Builtin.Builtins.bindParams "min" ["key","default"] 0 {kw:=[(Str.ofString "default",d)]}=pure [none,some d]:=by kernel_rfl
theorem tZ (x d:Value):argsOk "min" {pos:=[x],kw:=[(Str.ofString "default",d)]}:=by kernel_rfl
theorem jI {l:Addr} {its:Array Value} {nss:List (List Int)} {d:Value} {Q:Value->Shared->Prop}
  (hh:A.handled=none) (hu:A.units+10 < cLine) (hl:s.heap.IsList l its) (hlen:its.size=nss.length)
  (hlt:∀n0,nss.head?=some n0->∀ns∈nss,HT.lexLt ns n0=false)
  (hx:∀(j:Nat) (ns:List Int) (v:Value),nss[j]?=some ns->its[j]?=some v->∃(a:Addr) (jt:Array Value),v=Value.ref a/\IsTup s.heap a jt/\IntsAre jt.toList ns)
  (h:∀(h':Heap) (tk:Nat),(∀b o,s.heap.get? b=some o->h'.get? b=some o)->Q ((its[0]?).getD d) {s with heap:=h',toks:=tk}) :
  wpAny (model prog w) A (call (.builtin "min") [.ref l] [(Str.ofString "default",d)]) Q E s:=by
 refine wpAny_call (codeAny_call_builtin PySem.F.plain_min PySem.F.entry_min ?_)
 have hc:checkBuiltinCall "min" {pos:=[.ref l],kw:=[(Str.ofString "default",d)]}=pure ():=by
  unfold checkBuiltinCall
  rw [PySem.F.kind_min]
  exact tZ _ _
 rw [hc]
 refine wpAny_pure ?_
 show wpAny _ _ (Builtin.Builtins.bindParams _ _ _ _ >>= _) _ _ _
 rw [tY]
 refine wpAny_bind (wpAny_pure ?_)
 show wpAny _ _ (pyIter (.ref l) >>= _) _ _ _
 refine wpAny_bind (wpAny_pyIter_list hl ?_)
 refine wpAny_bind (wpAny_newList ?_ (by simp))
 refine wpAny_pure ⟨Code.quiet_builtin _ (by decide +kernel),?_⟩
 have eI:∀o,(s.heap.push o).objs.size=s.heap.objs.size+1:=λ o=>Heap.size_push ..
 have lS:l < s.heap.objs.size:=by obtain ⟨o,ho,_⟩:=hl; exact Heap.lt_size ho
 have nl:l≠s.heap.objs.size:=Nat.ne_of_lt lS
 have nS:(s.heap.push {cls:=.type "list_iterator",data:=.fields #[.ref l,.int 0 0]}).objs.size≠s.heap.objs.size:=by rw [eI]; exact Nat.ne_of_gt (Nat.lt_succ_self _)
 have nSl:(s.heap.push {cls:=.type "list_iterator",data:=.fields #[.ref l,.int 0 0]}).objs.size≠l:=by rw [eI]; exact Nat.ne_of_gt (Nat.lt_succ_of_lt lS)
 generalize hS:(s.heap.push {cls:=.type "list_iterator",data:=.fields #[.ref l,.int 0 0]}).objs.size=S at *
 have g1:((s.heap.push {cls:=.type "list_iterator",data:=.fields #[.ref l,.int 0 0]}).push {cls:=.type "list",data:=.seq [].toArray}).get? S=some {cls:=.type "list",data:=.seq [].toArray}:=by rw [<-hS]; exact Heap.get?_push_size _ rfl
 have k1:∀b o,s.heap.get? b=some o->((s.heap.push {cls:=.type "list_iterator",data:=.fields #[.ref l,.int 0 0]}).push {cls:=.type "list",data:=.seq [].toArray}).get? b=some o:=λ b o e=>Heap.get?_push_of_some _ (Heap.get?_push_of_some _ e)
 have hit:((s.heap.push {cls:=.type "list_iterator",data:=.fields #[.ref l,.int 0 0]}).push {cls:=.type "list",data:=.seq [].toArray}).IsListIter s.heap.objs.size l 0:=⟨_,Heap.get?_push_of_some _ (Heap.get?_push_size _ rfl),rfl,rfl⟩
 have hl1:((s.heap.push {cls:=.type "list_iterator",data:=.fields #[.ref l,.int 0 0]}).push {cls:=.type "list",data:=.seq [].toArray}).IsList l its:=by obtain ⟨o,ho,r⟩:=hl; exact ⟨o,k1 _ _ ho,r⟩
 generalize (s.heap.push {cls:=.type "list_iterator",data:=.fields #[.ref l,.int 0 0]}).push {cls:=.type "list",data:=.seq [].toArray}=h0 at *
 refine codeAny_builtin PySem.F.entry_min_loop ?_
 rw [Around.under_plain rfl rfl]
 show wpAny _ _ (seqItems? (.ref S) >>= _) _ _ _
 refine wpAny_bind (wpAny_seqItems (s:={s with heap:=h0}) g1 rfl ?_)
 show wpAny _ _ (tryCatch (pyNext (.ref s.heap.objs.size)) _ >>= _) _ _ _
 cases nss with
 | nil=>
  have hz:its.size=0:=hlen
  refine wpAny_bind (wpAny_tryCatch (wpAny_pyNext_list_end (s:={s with heap:=h0}) (by simpa using hh) hit hl1 (Array.getElem?_eq_none (by rw [hz]; exact Nat.le_refl _)) λ h1 sb1=>?_))
  show wpAny _ _ (rule _ >>= _) _ _ _
  refine wpAny_bind (wpAny_rule ?_)
  refine wpAny_pure ?_
  have:=h h1 s.toks λ b o e=>sb1 b o (Nat.ne_of_lt (Heap.lt_size e)) (k1 b o e)
  rw [Array.getElem?_eq_none (by omega)] at this
  exact this
 | cons n0 r=>
  have lt:0 < its.size:=by rw [hlen]; simp
  have he:its[0]?=some its[0]:=by simp [lt]
  obtain ⟨a,jt,hv,hk,hin⟩:=hx 0 n0 its[0] rfl he
  have la:a < s.heap.objs.size:=by obtain ⟨o,ho,_⟩:=hk; exact Heap.lt_size ho
  have naS:a≠S:=by rw [<-hS]; rw [eI]; exact Nat.ne_of_lt (Nat.lt_succ_of_lt la)
  refine wpAny_bind (wpAny_tryCatch (wpAny_pyNext_list_item (s:={s with heap:=h0}) hit hl1 (x:=its[0]) he λ h1 it1 sb1=>?_))
  rw [hv]
  show wpAny _ _ (updateSeq S _ >>= _) _ _ _
  have g2:h1.get? S=some {cls:=.type "list",data:=.seq [].toArray}:=(sb1.2 S nS).trans g1
  refine wpAny_bind (wpAny_updateSeq (s:={s with heap:=h1}) g2 rfl ?_ (by simp) (by simp; decide +kernel))
  refine wpAny_pure ⟨Code.quiet_builtin _ (by decide +kernel),?_⟩
  have sb2:Heap.SameBut S h1 (h1.update S (Obj.mapSeq λ _=>#[.ref a,.ref a])):=Heap.SameBut.update ..
  have g3:∃c,(h1.update S (Obj.mapSeq λ _=>#[.ref a,.ref a])).get? S=some {cls:=.type "list",data:=.seq #[.ref a,.ref a] c}:=⟨_,Heap.get?_update_self _ g2 rfl⟩
  obtain ⟨c,g3⟩:=g3
  have k2:∀b o,b≠S->b≠s.heap.objs.size->h0.get? b=some o->(h1.update S (Obj.mapSeq λ _=>#[.ref a,.ref a])).get? b=some o:=λ b o n1 n2 e=>by
   rw [sb2.2 b n1,sb1.2 b n2]; exact e
  have tupK:∀{b:Addr} {kt:Array Value},IsTup s.heap b kt->b≠S/\b≠s.heap.objs.size/\IsTup (h1.update S (Obj.mapSeq λ _=>#[.ref a,.ref a])) b kt:=λ {b kt} x=>by
   obtain ⟨o,ho,r⟩:=x
   have lb:=Heap.lt_size ho
   have n1:b≠S:=by rw [<-hS]; rw [eI]; exact Nat.ne_of_lt (Nat.lt_succ_of_lt lb)
   exact ⟨n1,Nat.ne_of_lt lb,o,k2 b o n1 (Nat.ne_of_lt lb) (k1 b o ho),r⟩
  refine tX (l:=l) (nss:=n0::r) (n0:=n0) (its:=its) (AK:=jt) (by simp [Around.in1]; omega) (by simpa using hh) nl nS nSl hlen naS (Nat.ne_of_lt la) hin (hlt n0 rfl) (its.size - 1) 1 {s with heap:=h1.update S (Obj.mapSeq λ _=>#[.ref a,.ref a])} c rfl lt (it1.extBut sb2.extBut nS.symm) ((hl1.extBut sb1.extBut nl).extBut sb2.extBut nSl.symm) ?_ (tupK hk).2.2 g3 ?_
  ·intro j ns v h3 h4
   obtain ⟨a',jt',hv',hk',hi'⟩:=hx j ns v h3 h4
   exact ⟨a',jt',hv',(tupK hk').1,(tupK hk').2.1,(tupK hk').2.2,hi'⟩
  ·intro h' tk hk'
   have:=h h' tk λ b o e=>by
    have lb:=Heap.lt_size e
    have n1:b≠S:=by rw [<-hS]; rw [eI]; exact Nat.ne_of_lt (Nat.lt_succ_of_lt lb)
    exact hk' b o n1 (Nat.ne_of_lt lb) (k2 b o n1 (Nat.ne_of_lt lb) (k1 b o e))
   rw [he,Option.getD_some,hv] at this
   exact this
end
end L2
end
section
namespace L2
open PySem PySem.Spec PyProof.Rows
section
variable {prog:Program} {w:World} {A:Around} {E:Value->Shared->Prop} {s:Shared}
theorem t6 {a:Addr} {v:Value} {n:Nat} {P:PySem.Fin->Shared->Prop} (hg:s.heap.get? a=some {cls:=.type "list",data:=.seq #[v] n})
  (h:∀h' n',h'.get? a=some {cls:=.type "list",data:=.seq #[v] n'}->(∀b o,b≠a->s.heap.get? b=some o->h'.get? b=some o)->P (.done (.ret .none)) {s with heap:=h'}) :
  wpAny (model prog w) A (Builtin.«list.sort» {pos:=[.ref a]}) P E s:=by
 rw [list_sort_plain]
 unfold Builtin.List.listItems Builtin.List.listUpdate
 refine wpAny_bind ?_
 repeat (any_goals (first | assumption | wp_step))
 refine wpAny_pure ?_
 have g1:(s.heap.update a (Obj.mapSeq λ x=>#[])).get? a=some {cls:=.type "list",data:=.seq #[] (n+1)}:=Heap.get?_update_self _ hg rfl
 have g2:(((s.heap.update a (Obj.mapSeq λ x=>#[])).push {cls:=.type "tuple",data:=.seq #[v].toList.toArray}).push {cls:=.type "list",data:=.seq #[]}).get? a=some {cls:=.type "list",data:=.seq #[] (n+1)}:=Heap.get?_push_of_some _ (Heap.get?_push_of_some _ g1)
 have kp:∀b o,b≠a->s.heap.get? b=some o->(((s.heap.update a (Obj.mapSeq λ x=>#[])).push {cls:=.type "tuple",data:=.seq #[v].toList.toArray}).push {cls:=.type "list",data:=.seq #[]}).get? b=some o:=λ b o nb e=>Heap.get?_push_of_some _ (Heap.get?_push_of_some _ (Heap.get?_update_of_ne _ nb.symm e))
 generalize ((s.heap.update a (Obj.mapSeq λ x=>#[])).push {cls:=.type "tuple",data:=.seq #[v].toList.toArray}).push {cls:=.type "list",data:=.seq #[]}=h0 at *
 show wpAny _ _ (seqEpoch a >>= _) _ _ _
 refine wpAny_bind ?_
 unfold seqEpoch
 refine wpAny_bind (wpAny_load (s:={s with heap:=h0}) g2 (wpAny_pure ?_))
 have hz:Array.map (λ x=>x.snd) (#[v].zip #[v])=#[v]:=by simp
 show wpAny _ _ (updateSeq a (λ _=>Array.map (λ x=>x.snd) (#[v].zip #[v])) >>= _) _ _ _
 rw [hz]
 refine wpAny_bind (wpAny_updateSeq (s:={s with heap:=h0}) g2 rfl ?_ (by simp) (by simp))
 have ht:(n+1 != if (((λ x:Array Value=>(#[]:Array Value)) #[v]).size==#[v].size)=true then n else n+1)=false:=by simp
 simp only [ht]
 show wpAny _ _ (ret Value.none) _ _ _
 refine wpAny_pure ?_
 exact h _ _ (Heap.get?_update_self _ g2 rfl) λ b o nb e=>Heap.get?_update_of_ne _ nb.symm (kp b o nb e)
theorem iy {l:Addr} {v:Value} {Q:Value->Shared->Prop} (hl:s.heap.IsList l #[v])
  (h:∀D h' n',s.heap.objs.size<=D->h'.get? D=some {cls:=.type "list",data:=.seq #[v] n'}->(∀b o,s.heap.get? b=some o->h'.get? b=some o)->Q (.ref D) {s with heap:=h'}) :
  wpAny (model prog w) A (call (.builtin "sorted") [.ref l]) Q E s:=by
 refine wpAny_call (codeAny_call_builtin plain_sorted entry_sorted ?_)
 have hc:checkBuiltinCall "sorted" {pos:=[.ref l]}=pure ():=by
  unfold checkBuiltinCall
  rw [kind_sorted]
  exact args_sorted1 _
 rw [hc]
 refine wpAny_pure ?_
 show wpAny _ _ (Builtin.sorted {pos:=[.ref l]}) _ _ _
 have hcc:checkCount "sorted" 1 1 ([Value.ref l]:List Value).length=pure ():=by kernel_rfl
 unfold Builtin.sorted
 simp only [hcc]
 refine wpAny_bind (wpAny_pure ?_)
 refine wpAny_bind (collect_list (vs:=[v]) (by simpa using hl) ?_ (by simp; decide +kernel))
 refine wpAny_bind (wpAny_newList ?_ (by simp; decide +kernel))
 have hs1:((s.heap.push (seqObj "list" #[] 0)).update s.heap.objs.size (Obj.mapSeq λ x=>x++[v].toArray)).objs.size=s.heap.objs.size+1:=((Heap.SameBut.update (s.heap.push (seqObj "list" #[] 0)) s.heap.objs.size (Obj.mapSeq λ x=>x++[v].toArray)).1).trans (Heap.size_push ..)
 have k1:∀b o,s.heap.get? b=some o->((s.heap.push (seqObj "list" #[] 0)).update s.heap.objs.size (Obj.mapSeq λ x=>x++[v].toArray)).get? b=some o:=λ b o e=>Heap.get?_update_of_ne _ (Nat.ne_of_gt (Heap.lt_size e)) (Heap.get?_push_of_some _ e)
 generalize (s.heap.push (seqObj "list" #[] 0)).update s.heap.objs.size (Obj.mapSeq λ x=>x++[v].toArray)=h0 at *
 have gD:(h0.push {cls:=.type "list",data:=.seq [v].toArray}).get? h0.objs.size=some {cls:=.type "list",data:=.seq [v].toArray}:=Heap.get?_push_size _ rfl
 refine wpAny_bind (wpAny_holding (wpAny_call (codeAny_call_builtin PySem.F.slot_list_sort.plain PyProof.Rows.entry_list_sort ?_)))
 refine PySem.F.slot_list_sort.check _ _ _ _ _ _ _ _ ⟨_,gD,rfl⟩ (PyProof.Rows.args_list_sort _) ?_
 refine t6 (v:=v) (n:=0) (s:={s with heap:=h0.push {cls:=.type "list",data:=.seq [v].toArray}}) gD λ h' n' g' k'=>?_
 refine wpAny_pure ?_
 refine h h0.objs.size h' n' (by rw [hs1]; exact Nat.le_succ _) g' λ b o e=>k' b o (Nat.ne_of_lt (Heap.lt_size (k1 b o e))) (Heap.get?_push_of_some _ (k1 b o e))
end
end L2
end
section
namespace HT
open PySem PyProof.Rows
open PySem.SeqAt
open PySem.AutoSeq1 (wpAny_loadPart')
open PySem.MeetsSeq PySem.MeetsSeq2 PySem.MeetsSeq3
section
variable {prog:Program} {w:World} {A:Around} {E:Value->Shared->Prop} {s:Shared}
theorem fy {t sl:Addr} {items:Array Value} {vl vu:Value} {lo hi:Option Int} {Q:Value->Shared->Prop} (ht:IsTup s.heap t items) (hs:s.heap.IsSliceOf sl vl vu .none) (pl:IsPart vl lo) (pu:IsPart vu hi)
  (h1:sIx items.size 0 lo=0) (h2:sIx items.size items.size hi=items.size) (h:Q (.ref t) s):wpAny (model prog w) A (getItem (.ref t) (.ref sl)) Q E s:=by
 obtain ⟨os,hos,hcs,hds⟩:=id hs
 have hTs:s.TypeIs (.ref sl) "slice":=⟨os,hos,hcs⟩
 unfold getItem
 try with_reducible refine wpAny_holding ?_
 first | refine wpAny_bind (wpAny_pure ?_) | skip
 refine wpAny_bind (wpAny_sequenceKey ht.typeIs (by decide) ?_)
 refine wpAny_bind (wpAny_callSpecial?_slot (name:=Str.ofString "__getitem__") ht.typeIs PyProof.Rows.slot_tuple_getitem
  (wpAny_call_entry PyProof.Rows.slot_tuple_getitem ht.typeIs entry_tuple_getitem ?_ (args_tuple_getitem _ _)))
 show wpAny _ _ (Builtin.Tuple.tupleItemsOf (.ref t) >>= _) _ _ s
 refine wpAny_bind (tupleItemsOf_ ht ?_)
 refine wpAny_bind (wpAny_typeOf hTs ?_)
 rw [if_pos (by decide)]
 refine wpAny_bind (dI hs pl pu ?_)
 have hyes:(((sIx items.size 0 lo:Nat):Int)==0&&(1:Int)==1&&(sIx items.size items.size hi - sIx items.size 0 lo)==items.size)=true:=by
  rw [h1,h2]; simp
 show wpAny _ _ (if (((sIx items.size 0 lo:Nat):Int)==0&&(1:Int)==1&&(sIx items.size items.size hi - sIx items.size 0 lo)==items.size)=true then _ else _) _ _ s
 rw [if_pos hyes]
 refine wpAny_bind ?_
 unfold Builtin.Tuple.tupleIsExact
 refine wpAny_bind (wpAny_typeOf ht.typeIs (wpAny_pure ?_))
 rw [if_pos (by decide)]
 exact wpAny_bind (wpAny_rule (wpAny_pure ⟨_,rfl,wpAny_pure h⟩))
end
end HT
namespace L2
open PySem PySem.Spec PyProof.Rows
theorem xj {X:Cx}:SlR X (λ x lo hi H Q=>∃a xs,x=.ref a/\SqT X.K H a xs/\(HT.sIx xs.length 0 lo=0/\HT.sIx xs.length xs.length hi=xs.length)/\Q (.ref a) H):=by
 intro pins s σ H x v vl vu lo hi sl Q I rx hs pl pu h
 obtain ⟨a,xs,rfl,hx,hw,q⟩:=h
 cases rx
 obtain ⟨its,r,ht,hz⟩:=I.tuple hx
 have hlen:its.toArray.size=xs.length:=by rw [List.size_toArray]; exact r.length.symm
 refine ⟨"tuple",_,PyProof.Rows.slot_tuple_getitem.lookup,ht.typeIs,?_⟩
 exact HT.fy ht hs pl pu (by rw [hlen]; exact hw.1) (by rw [hlen]; exact hw.2) ⟨.ref a,H,I,rfl,q⟩
end L2
end
section
namespace D
open PySem
inductive W where
 | non | bl (b:Bool) | int (i:Int) | str (x:Str) | tup (xs:List W) | fz (xs:List W) | obj (c:Str) (ks:List Str) (vs:List W) | ref (n:Nat)
 deriving Inhabited
inductive O where
 | lst (xs:List W) | ins (c:Str) (fs:List (Str×W)) | set (ks:List L2.Key)
abbrev Mem:=List O
abbrev Loc:=List (Option W)
inductive R (α:Type) where
 | no
 | ok (a:α) (m:Mem)
@[inline] noncomputable def R.bind {α β:Type} (x:R α) (f:α->Mem->R β):R β:=match x with
 | .no=>.no
 | .ok a m=>f a m
inductive U where
 | iT | mind
 deriving DecidableEq
inductive B where
 | len | abs | max | min | divmod | all | any | list | tuple | int | sorted | sum | repr
 deriving DecidableEq
mutual
inductive T where
 | var (i:Nat) | tup (ts:Ts)
inductive Ts where
 | nil | cons (t:T) (ts:Ts)
end
mutual
inductive E where
 | var (i:Nat) | cst (w:W)
 | bin (op:Operator) (a b:E) | neg (a:E) | not (a:E) | and (a b:E) | or (a b:E)
 | cmp (op:CmpOp) (a b:E) | chain (o1 o2:CmpOp) (a b c:E)
 | ife (t a b:E) | tup (es:Es) | lst (es:Es) | idx (a b:E)
 | slc (a:E) (lo hi:Oe)
 | call (f:Nat) (es:Es) | blt (b:B) (es:Es) | isI (a:E) (t:String)
 | meth (o:E) (m:String) (es:Es)
 | comp (g:G)
 | rng (a:E) | rng2 (a b:E) | enm (a:E) | zip (es:Es) | lrng (a:E)
 | frz (a:E) | fld (a:E) (f:Str) | make (c:Str) (es:Es) | mth (o:E) (m:Str) (es:Es) | set0 | fus (u:U) (a:E)
inductive Es where
 | nil | cons (e:E) (es:Es)
inductive Oe where
 | none | some (e:E)
inductive G where
 | elt (e:E) | gen (t:T) (js:List Nat) (it:E) (ifs:Es) (rest:G)
end
mutual
inductive A where
 | pt (t:T) | sub (o i:E) | tup (l:As)
inductive As where
 | nil | cons (a:A) (l:As)
end
mutual
inductive S where
 | asg (t:A) (e:E) | aug (i:Nat) (op:Operator) (e:E) | expr (e:E) | ret (e:E) | retN
 | ife (t:E) (a b:Ss) | for_ (t:T) (it:E) (b:Ss) | while_ (t:E) (b:Ss) | pass | brk | cont | never
 | fas (o:E) (f:Str) (e:E)
inductive Ss where
 | nil | cons (s:S) (r:Ss)
end
noncomputable def lim:Nat:=1000000
noncomputable def new (o:O) (m:Mem):R W:=.ok (.ref m.length) (m++[o])
noncomputable def getL (m:Mem):W->Option (List W)
 | .ref n=>match m[n]? with
  | some (.lst xs)=>some xs
  | _=>none
 | .fz xs=>some xs
 | _=>none
noncomputable def aC (m:Mem):W->Option (List W)
 | .tup xs=>some xs
 | w=>getL m w
noncomputable def cg {α:Type} (f:W->Option α):List W->Option (List α)
 | []=>some []
 | x::xs=>match f x with
  | none=>none
  | some d=>match cg f xs with
   | none=>none
   | some ds=>some (d::ds)
noncomputable def toD:Nat->Mem->W->Option PyData
 | 0,_,_=>none
 | n+1,m,w=>match w with
  | .non=>some .none
  | .bl b=>some (.bool b)
  | .int i=>some (.int i)
  | .str x=>if x.cps.all (· < 0x110000) then some (.str x) else none
  | .tup xs=>(cg (toD n m) xs).map .tuple
  | .fz xs=>(cg (toD n m) xs).map .list
  | .ref a=>match getL m (.ref a) with
   | some xs=>(cg (toD n m) xs).map .list
   | none=>none
  | .obj _ _ _=>none
noncomputable def eqW (m:Mem) (x y:W):R Bool:=match toD 60 m x,toD 60 m y with
 | some d,some e=>.ok (PyData.eqv d e) m
 | _,_=>.no
noncomputable def truthy (m:Mem):W->R Bool
 | .non=>.ok false m
 | .bl b=>.ok b m
 | .int i=>.ok (i != 0) m
 | .str x=>if x.length<=lim then .ok ((x.length:Int) != 0) m else .no
 | .tup xs=>.ok (!xs.isEmpty) m
 | .fz xs=>.ok (!xs.isEmpty) m
 | .ref n=>match getL m (.ref n) with
  | some xs=>.ok (!xs.isEmpty) m
  | none=>.no
 | .obj _ _ _=>.no
noncomputable def gX (i j:Int):Bool:=(decide (-(2^64) < i)&&decide (i < 2^64))||(decide (-(2^64) < j)&&decide (j < 2^64))
noncomputable def t7 (m:Mem) (x y:W):R W:=match getL m x,getL m y with
 | some xs,some ys=>if xs.length+ys.length<=lim then new (.lst (xs++ys)) m else .no
 | _,_=>.no
noncomputable def Fj (n:Nat) (xs:List W):List W:=(List.replicate n xs).flatten
noncomputable def binop (op:Operator) (x y:W) (m:Mem):R W:=match op with
 | .Add=>match x,y with
  | .int i,.int j=>.ok (.int (i+j)) m
  | .tup xs,.tup ys=>if xs.length+ys.length<=lim then .ok (.tup (xs++ys)) m else .no
  | .str a,.str b=>if a.length+b.length<=lim then .ok (.str (a++b)) m else .no
  | x,y=>t7 m x y
 | .Sub=>match x,y with
  | .int i,.int j=>.ok (.int (i - j)) m
  | _,_=>.no
 | .Mult=>match x,y with
  | .int i,.int j=>if gX i j then .ok (.int (i*j)) m else .no
  | _,_=>.no
 | .FloorDiv=>match x,y with
  | .int i,.int j=>if 0 < j/\j < 1073741824 then .ok (.int (i / j)) m else .no
  | _,_=>.no
 | .Mod=>match x,y with
  | .int i,.int j=>if 0 < j then .ok (.int (i%j)) m else .no
  | _,_=>.no
 | .Pow=>match x,y with
  | .int i,.int j=>if 0<=j/\j<=1000000/\i.natAbs < 2^64 then .ok (.int (i^j.toNat)) m else .no
  | _,_=>.no
 | .LShift=>match x,y with
  | .int i,.int j=>if 0<=j/\j<=1000000/\i.natAbs < 2^64 then .ok (.int (i*2^j.toNat)) m else .no
  | _,_=>.no
 | .RShift=>match x,y with
  | .int i,.int j=>if 0<=j then .ok (.int (i / 2^j.toNat)) m else .no
  | _,_=>.no
 | .BitAnd=>match x,y with
  | .int i,.int j=>.ok (.int (Builtin.bitAnd i j)) m
  | _,_=>.no
 | _=>.no
noncomputable def fX (m:Mem) (x:W) (ys:List W):R Bool:=match toD 60 m x,cg (toD 60 m) ys with
 | some d,some es=>.ok (es.any λ e=>PyData.eqv e d) m
 | _,_=>.no
noncomputable def iZ (k:L2.Key) (ks:List L2.Key):Bool:=ks.any λ j=>decide (j=k)
noncomputable def t8:W->Option L2.Key
 | .int i=>some (.inl i)
 | .str x=>some (.inr x)
 | _=>none
noncomputable def kM (m:Mem) (x y:W):R Bool:=match y with
 | .str b=>match x with
  | .str a=>.ok (!(Builtin.Str.occurrences b a 0 b.length 1).isEmpty) m
  | _=>.no
 | .ref n=>match m[n]? with
  | some (.lst ys)=>fX m x ys
  | some (.set ks)=>match t8 x with
   | some k=>.ok (iZ k ks) m
   | none=>.no
  | _=>.no
 | .fz ys=>fX m x ys
 | .tup ys=>fX m x ys
 | _=>.no
noncomputable def pO:W->Bool
 | .non=>true
 | _=>false
noncomputable def eE:List W->Option (List Int)
 | []=>some []
 | .int b::r=>(eE r).map (b::·)
 | _::_=>none
noncomputable def aq (op:CmpOp) (x y:W) (m:Mem):R Bool:=match op with
 | .Eq=>eqW m x y
 | .NotEq=>(eqW m x y).bind λ b m=>.ok (!b) m
 | .Lt=>match x,y with
  | .int i,.int j=>.ok (decide (i < j)) m
  | .str a,.str b=>.ok (decide (a.cps.toList < b.cps.toList)) m
  | _,_=>.no
 | .LtE=>match x,y with
  | .int i,.int j=>.ok (decide (i<=j)) m
  | .str a,.str b=>.ok (!decide (b.cps.toList < a.cps.toList)) m
  | _,_=>.no
 | .Gt=>match x,y with | .int i,.int j=>.ok (decide (j < i)) m | _,_=>.no
 | .GtE=>match x,y with | .int i,.int j=>.ok (decide (j<=i)) m | _,_=>.no
 | .In=>kM m x y
 | .NotIn=>match y with
  | .ref n=>match m[n]? with
   | some (.lst ys)=>(fX m x ys).bind λ b m=>.ok (!b) m
   | _=>.no
  | .fz ys=>(fX m x ys).bind λ b m=>.ok (!b) m
  | .tup ys=>(fX m x ys).bind λ b m=>.ok (!b) m
  | _=>.no
 | .Is=>match y with
  | .non=>.ok (pO x) m
  | _=>.no
 | .IsNot=>match y with
  | .non=>.ok (!pO x) m
  | _=>.no
noncomputable def aQ (x y:W) (m:Mem):R W:=match y with
 | .int i=>match x with
  | .str z=>if z.length<=lim then match L2.atI z.cps.toList i with
   | some c=>.ok (.str ⟨#[c]⟩) m
   | none=>.no else .no
  | x=>match aC m x with
   | some xs=>match L2.atI xs i with
    | some w=>.ok w m
    | none=>.no
   | none=>.no
 | _=>.no
noncomputable def kN (xs:List W) (lo hi:Option Int):List W:=(xs.drop (HT.sIx xs.length 0 lo)).take (HT.sIx xs.length xs.length hi - HT.sIx xs.length 0 lo)
noncomputable def fY (x:W) (lo hi:Option Int) (m:Mem):R W:=match x with
 | .tup xs=>.ok (.tup (kN xs lo hi)) m
 | .str z=>if z.length<=lim then .ok (.str (Txt.slice z lo hi)) m else .no
 | x=>match getL m x with
  | some xs=>new (.lst (kN xs lo hi)) m
  | none=>.no
noncomputable def mw (o i v:W) (m:Mem):R Unit:=match o,i with
 | .ref n,.int k=>match m[n]? with
  | some (.lst xs)=>match L2.ixN xs.length k with
   | some j=>.ok () (m.set n (.lst (xs.set j v)))
   | none=>.no
  | _=>.no
 | _,_=>.no
noncomputable def bools:List W->Option (List Bool)
 | []=>some []
 | .bl b::r=>(bools r).map (b::·)
 | _::_=>none
noncomputable def fB (m:Mem) (t:String):W->Option Bool
 | .non=>some (t=="NoneType")
 | .bl _=>some (t=="bool"||t=="int")
 | .int _=>some (t=="int")
 | .str _=>some (t=="str")
 | .tup _=>some (t=="tuple")
 | .fz _=>some (t=="list")
 | .ref n=>match m[n]? with
  | some (.lst _)=>some (t=="list")
  | _=>none
 | .obj _ _ _=>none
noncomputable def t9 {α:Type} (n:Nat) (ans:Nat->Nat->Bool):PySem.W.KasT α->Option α
 | .ret a=>some a
 | .ask i j k=>if i < n/\j < n then t9 n ans (k (ans i j)) else none
noncomputable def dU:W->Option (List Int)
 | .tup xs=>eE xs
 | _=>none
noncomputable def i0:List W->Option (List Str)
 | []=>some []
 | .str b::r=>(i0 r).map (b::·)
 | _::_=>none
noncomputable def yP (ys:List W) (tss:List (List Int)):Option (List W):=
 if ys.length=1 then some ys else if 0 < (tss.headD []).length/\(tss.all λ t=>t.length==(tss.headD []).length)=true/\2<=ys.length/\ys.length < 64 then
  match t9 ys.length (λ i j=>HT.lexLt (tss.getD i []) (tss.getD j [])) (PySem.W.kas_sort ys.length) with
  | some pm=>if pm.size<=64 then some (pm.toList.map λ i=>ys.getD i .non) else none
  | none=>none
 else none
noncomputable def CM:PyData->Bool
 | .list _=>true
 | .tuple _=>true
 | _=>false
noncomputable def shD (d:PyData):Bool:=CM d&&d.layable0&&d.intsShort 13&&d.showable&&!d.hasDict&&decide (d.depth<=60)
noncomputable def aP (b:B) (xs:List W) (m:Mem):R W:=match b with
 | .len=>match xs with
  | [x]=>match x with
   | .str z=>if z.length<=lim then .ok (.int z.length) m else .no
   | x=>match aC m x with
    | some ys=>.ok (.int ys.length) m
    | none=>.no
  | _=>.no
 | .abs=>match xs with
  | [.int i]=>.ok (.int (if i < 0 then -i else i)) m
  | _=>.no
 | .max=>match xs with
  | [.int i,.int j]=>.ok (.int (if j>i then j else i)) m
  | _=>.no
 | .min=>match xs with
  | [.int i,.int j]=>.ok (.int (if j < i then j else i)) m
  | _=>.no
 | .divmod=>match xs with
  | [.int i,.int j]=>if 0 < j/\j < 1073741824 then .ok (.tup [.int (i / j),.int (i%j)]) m else .no
  | _=>.no
 | .all=>match xs with
  | [x]=>match getL m x with
   | some ys=>match bools ys with
    | some bs=>.ok (.bl (bs.all id)) m
    | none=>.no
   | none=>.no
  | _=>.no
 | .any=>match xs with
  | [x]=>match getL m x with
   | some ys=>match bools ys with
    | some bs=>.ok (.bl (bs.any id)) m
    | none=>.no
   | none=>.no
  | _=>.no
 | .list=>match xs with
  | [x]=>match aC m x with
   | some ys=>new (.lst ys) m
   | none=>.no
  | _=>.no
 | .tuple=>match xs with
  | [x]=>match aC m x with
   | some ys=>.ok (.tup ys) m
   | none=>.no
  | _=>.no
 | .int=>match xs with
  | [.int i]=>.ok (.int i) m
  | [.bl b]=>.ok (.int (if b then 1 else 0)) m
  | _=>.no
 | .sorted=>match xs with
  | [x]=>match getL m x with
   | some ys=>match cg dU ys with
    | some tss=>match yP ys tss with
     | some zs=>new (.lst zs) m
     | none=>.no
    | none=>.no
   | none=>.no
  | _=>.no
 | .repr=>match xs with
  | [x]=>match toD 60 m x with
   | some d=>if shD d=true then .ok (.str d.shown) m else .no
   | none=>.no
  | _=>.no
 | _=>.no
noncomputable def cy (ks:List Int):Bool:=decide (ks.length<=4)&&ks.all λ i=>i==0||i==1
noncomputable def ow (tss:List (List Int)) (m:Mem):R W:=if tss.length<=4/\tss.all cy=true/\tss.Nodup then .ok (.int tss.length) m else .no
noncomputable def oz (ys:List W) (tss:List (List Int)) (m:Mem):R W:=if (tss.all λ ns=>!HT.lexLt ns (tss.headD []))=true then .ok (ys.head?.getD .non) m else .no
noncomputable def gY (u:U) (x:W) (m:Mem):R W:=match getL m x with
 | none=>.no
 | some ys=>match cg dU ys with
  | none=>.no
  | some tss=>match u with
   | .iT=>ow tss m
   | .mind=>oz ys tss m
noncomputable def fZ (n:Nat) (ys xs:List W) (m:Mem):R W:=match xs with
 | [x]=>if ys.length < lim then .ok .non (m.set n (.lst (ys++[x]))) else .no
 | _=>.no
noncomputable def kO (n:Nat) (xs:List W) (m:Mem):R W:=match xs with
 | []=>.ok .non (m.set n (.lst []))
 | _=>.no
noncomputable def gw (n:Nat) (ys xs:List W) (m:Mem):R W:=match xs with
 | []=>.ok .non (m.set n (.lst ys.reverse))
 | _=>.no
noncomputable def pP (n:Nat) (ys xs:List W) (m:Mem):R W:=match xs with
 | []=>match ys[ys.length - 1]? with
  | some y=>.ok y (m.set n (.lst ys.dropLast))
  | none=>.no
 | [.int i]=>if -(2^63)<=i/\i < 2^63 then match seqIndex? i ys.length with
  | some k=>match ys[k]? with
   | some y=>.ok y (m.set n (.lst (ys.eraseIdx k)))
   | none=>.no
  | none=>.no else .no
 | _=>.no
noncomputable def ua (n:Nat) (ys xs:List W) (m:Mem):R W:=match xs with
 | [.ref b]=>match m[b]? with
  | some (.lst zs)=>if ys.length+zs.length<=lim then .ok .non (m.set n (.lst (ys++zs))) else .no
  | _=>.no
 | _=>.no
noncomputable def uc (n:Nat) (ys xs:List W) (m:Mem):R W:=match xs with
 | [.int i,y]=>if 0<=i/\i<=ys.length/\ys.length < lim then .ok .non (m.set n (.lst (ys.take i.toNat++[y]++ys.drop i.toNat))) else .no
 | _=>.no
noncomputable def dJ (n:Nat) (ys:List W) (name:String) (xs:List W) (m:Mem):R W:=
 if name="append" then fZ n ys xs m
 else if name="clear" then kO n xs m
 else if name="reverse" then gw n ys xs m
 else if name="pop" then pP n ys xs m
 else if name="extend" then ua n ys xs m
 else if name="insert" then uc n ys xs m
 else .no
noncomputable def oA (z:Str) (xs:List W) (m:Mem):R W:=match xs with
 | [x]=>match getL m x with
  | some ys=>match i0 ys with
   | some ss=>if (ss.map (·.length)).sum+ss.length*z.length<=16777216 then .ok (.str (Txt.join z ss)) m else .no
   | none=>.no
  | none=>.no
 | _=>.no
noncomputable def i6 (z:Str) (xs:List W) (m:Mem):R W:=match xs with
 | [.str y]=>match (Builtin.Str.occurrences z y 0 z.length 1).head? with
  | some p=>.ok (.int (p:Nat)) m
  | none=>.no
 | _=>.no
noncomputable def pQ (z:Str) (name:String) (xs:List W) (m:Mem):R W:=
 if name="join" then oA z xs m
 else if name="index" then i6 z xs m
 else .no
noncomputable def ud (n:Nat) (ks:List L2.Key) (xs:List W) (m:Mem):R W:=match xs with
 | [x]=>match t8 x with
  | some k=>if ks.length < 4000 then .ok .non (m.set n (.set (if iZ k ks then ks else ks++[k]))) else .no
  | none=>.no
 | _=>.no
noncomputable def eY (n:Nat) (ks:List L2.Key) (name:String) (xs:List W) (m:Mem):R W:=
 if name="add" then ud n ks xs m
 else .no
noncomputable def aZ (o:W) (name:String) (xs:List W) (m:Mem):R W:=match o with
 | .ref n=>match m[n]? with
  | some (.lst ys)=>dJ n ys name xs m
  | some (.set ks)=>eY n ks name xs m
  | _=>.no
 | .str z=>pQ z name xs m
 | _=>.no
inductive Kd where
 | lst | str | set | no
 deriving DecidableEq
noncomputable def kdOf (m:Mem):W->Kd
 | .ref n=>match m[n]? with
  | some (.lst _)=>.lst
  | some (.set _)=>.set
  | _=>.no
 | .str _=>.str
 | _=>.no
noncomputable def kdM (name:String):Kd:=if name="join"\/name="index" then .str else if name="add" then .set else .lst
mutual
noncomputable def frW (g:Nat->Option W):W->Option W
 | .tup xs=>(dZ g xs).map .tup
 | .fz xs=>(dZ g xs).map .fz
 | .obj c ks vs=>(dZ g vs).map (.obj c ks)
 | .ref n=>g n
 | .non=>some .non
 | .bl b=>some (.bl b)
 | .int i=>some (.int i)
 | .str x=>some (.str x)
noncomputable def dZ (g:Nat->Option W):List W->Option (List W)
 | []=>some []
 | x::r=>match frW g x with
  | none=>none
  | some y=>match dZ g r with
   | none=>none
   | some ys=>some (y::ys)
end
noncomputable def frG (m:Mem) (k:Nat):Nat->Nat->Option W
 | 0,a=>if a < k then some (.ref a) else none
 | n+1,a=>if a < k then some (.ref a) else match m[a]? with
  | some (.lst xs)=>(dZ (frG m k n) xs).map .fz
  | some (.ins c fs)=>(dZ (frG m k n) (fs.map (·.2))).map (.obj c (fs.map (·.1)))
  | _=>none
mutual
noncomputable def gx (k:Nat):W->Bool
 | .tup xs=>cY k xs
 | .fz xs=>cY k xs
 | .obj _ _ vs=>cY k vs
 | .ref n=>decide (n < k)
 | .non=>true
 | .bl _=>true
 | .int _=>true
 | .str _=>true
noncomputable def cY (k:Nat):List W->Bool
 | []=>true
 | x::r=>gx k x&&cY k r
end
noncomputable def gy (k:Nat):O->Bool
 | .lst xs=>cY k xs
 | .ins _ fs=>cY k (fs.map (·.2))
 | .set _=>true
noncomputable def rB (k:Nat) (m:Mem):Bool:=m.all (gy k)
noncomputable def rC (m:Mem) (r:R W):R W:=match r with
 | .no=>.no
 | .ok w m1=>if m.length<=m1.length/\rB m.length (m1.take m.length)=true then match frW (frG m1 m.length 8) w with
  | some w1=>.ok w1 (m1.take m.length)
  | none=>.no else .no
noncomputable def clr:List Nat->Loc->Loc
 | [],ρ=>ρ
 | j::r,ρ=>clr r (ρ.set j none)
mutual
noncomputable def au:T->W->Loc->Option Loc
 | .var i,w,ρ=>some (ρ.set i (some w))
 | .tup ts,w,ρ=>match w with
  | .tup xs=>bG ts xs ρ
  | .fz xs=>bG ts xs ρ
  | _=>none
noncomputable def bG:Ts->List W->Loc->Option Loc
 | .nil,xs,ρ=>match xs with
  | []=>some ρ
  | _::_=>none
 | .cons t ts,xs,ρ=>match xs with
  | []=>none
  | x::xs=>match au t x ρ with
   | some ρ=>bG ts xs ρ
   | none=>none
end
inductive Src where
 | lst (n:Nat) | tup (xs:List W) | rng (lo:Int) (k:Nat) | enm (s:Src) | zip (ss:List Src)
inductive Nx where
 | bad | fin | it (w:W)
inductive Nxs where
 | bad | fin | its (ws:List W)
mutual
noncomputable def Src.get:Src->Mem->Nat->Nx
 | .lst n,m,i=>match getL m (.ref n) with
  | some xs=>match xs[i]? with
   | some w=>.it w
   | none=>.fin
  | none=>.bad
 | .tup xs,_,i=>match xs[i]? with
  | some w=>.it w
  | none=>.fin
 | .rng lo k,_,i=>if i < k then .it (.int (lo+i)) else .fin
 | .enm s,m,i=>match s.get m i with
  | .it w=>.it (.tup [.int i,w])
  | .fin=>.fin
  | .bad=>.bad
 | .zip ss,m,i=>match Src.jJ ss m i with
  | .its ws=>.it (.tup ws)
  | .fin=>.fin
  | .bad=>.bad
noncomputable def Src.jJ:List Src->Mem->Nat->Nxs
 | [],_,_=>.its []
 | s::ss,m,i=>match s.get m i,Src.jJ ss m i with
  | .bad,_=>.bad
  | _,.bad=>.bad
  | .it w,.its ws=>.its (w::ws)
  | _,_=>.fin
end
mutual
noncomputable def Src.len:Src->Mem->Nat
 | .lst n,m=>match getL m (.ref n) with
  | some xs=>xs.length
  | none=>0
 | .tup xs,_=>xs.length
 | .rng _ k,_=>k
 | .enm s,m=>s.len m
 | .zip ss,m=>Src.lens ss m
noncomputable def Src.lens:List Src->Mem->Nat
 | [],_=>0
 | s::ss,m=>max (s.len m) (Src.lens ss m)
end
noncomputable def srcOf (m:Mem):W->Option Src
 | .tup xs=>some (.tup xs)
 | .fz xs=>some (.tup xs)
 | .ref n=>match getL m (.ref n) with
  | some _=>some (.lst n)
  | none=>none
 | _=>none
noncomputable def kP (m:Mem):List W->Option (List Src)
 | []=>some []
 | w::ws=>match srcOf m w with
  | none=>none
  | some s=>match kP m ws with
   | none=>none
   | some ss=>some (s::ss)
noncomputable def signs (z:Str):List W:=z.cps.toList.map λ c=>W.str ⟨#[c]⟩
noncomputable def ue (m:Mem):W->Option Src
 | .str z=>if L2.asc z then some (.tup (signs z)) else none
 | w=>srcOf m w
set_option genInjectivity false in
structure Cs where
 flds:List (Str×Str)
 mths:List ((Str×Str)×Nat)
 ini:List (Str×Nat)
set_option genInjectivity false in
structure Cx where
 call:Nat->List W->Mem->R W
 fuel:Nat
 cs:Cs
noncomputable def j7 (m:Mem):W->Option (Str×List (Str×W))
 | .ref n=>match m[n]? with
  | some (.ins c fs)=>some (c,fs)
  | _=>none
 | .obj c ks vs=>some (c,ks.zip vs)
 | _=>none
noncomputable def gZ (cs:Cs) (x:W) (f:Str) (m:Mem):R W:=match j7 m x with
 | some (c,fs)=>if cs.flds.contains (c,f) then match fs.lookup f with
  | some w=>.ok w m
  | none=>.no else .no
 | none=>.no
noncomputable def f6 (cs:Cs) (x:W) (f:Str) (m:Mem):Option Nat:=match j7 m x with
 | some (c,fs)=>if (fs.lookup f).isNone then cs.mths.lookup (c,f) else none
 | none=>none
noncomputable def cM (f:Str) (v:W):List (Str×W)->List (Str×W)
 | []=>[(f,v)]
 | (g,x)::r=>if g=f then (g,v)::r else (g,x)::cM f v r
noncomputable def mz (cs:Cs) (x:W) (f:Str) (v:W) (m:Mem):R Unit:=match x with
 | .ref n=>match m[n]? with
  | some (.ins c fs)=>if cs.flds.contains (c,f)/\fs.length < 1000 then .ok () (m.set n (.ins c (cM f v fs))) else .no
  | _=>.no
 | _=>.no
noncomputable def gz (C:Cx) (c:Str) (ws:List W) (m:Mem):R W:=match C.cs.ini.lookup c with
 | some i=>(C.call i (.ref m.length::ws) (m++[.ins c []])).bind λ w m1=>match w with
  | .non=>.ok (.ref m.length) m1
  | _=>.no
 | none=>.no
inductive F where
 | nx (ρ:Loc) | rt (w:W) | bk (ρ:Loc) | ct (ρ:Loc)
noncomputable def fC (get:Mem->Nat->Nx) (t:T) (body:Loc->Mem->R F):Nat->Nat->Loc->Mem->R F
 | k,i,ρ,m=>match get m i with
  | .bad=>.no
  | .fin=>.ok (.nx ρ) m
  | .it x=>match k with
   | 0=>.no
   | k+1=>match au t x ρ with
    | none=>.no
    | some ρ=>(body ρ m).bind λ f m=>match f with
     | .nx ρ=>fC get t body k (i+1) ρ m
     | .ct ρ=>fC get t body k (i+1) ρ m
     | .bk ρ=>.ok (.nx ρ) m
     | .rt w=>.ok (.rt w) m
noncomputable def oB (c:Loc->Mem->R Bool) (body:Loc->Mem->R F):Nat->Loc->Mem->R F
 | 0,_,_=>.no
 | k+1,ρ,m=>(c ρ m).bind λ b m=>if b then (body ρ m).bind λ f m=>match f with
   | .nx ρ=>oB c body k ρ m
   | .ct ρ=>oB c body k ρ m
   | .bk ρ=>.ok (.nx ρ) m
   | .rt w=>.ok (.rt w) m
  else .ok (.nx ρ) m
noncomputable def bM (get:Mem->Nat->Nx) (t:T) (test:Loc->Mem->R Bool) (body:Loc->Mem->List W->R (List W×Loc)):Nat->Nat->Loc->Mem->List W->R (List W×Loc)
 | k,i,ρ,m,acc=>match get m i with
  | .bad=>.no
  | .fin=>.ok (acc,ρ) m
  | .it x=>match k with
   | 0=>.no
   | k+1=>match au t x ρ with
    | none=>.no
    | some ρ=>(test ρ m).bind λ b m=>if b then (body ρ m acc).bind λ p m=>bM get t test body k (i+1) p.2 m p.1 else bM get t test body k (i+1) ρ m acc
noncomputable def toI (x:W) (m:Mem):R Src:=match ue m x with
 | some s=>.ok s m
 | none=>.no
mutual
noncomputable def evE (C:Cx):E->Loc->Mem->R W
 | .var i,ρ,m=>match ρ[i]? with
  | some (some w)=>.ok w m
  | _=>.no
 | .cst w,_,m=>.ok w m
 | .bin op a b,ρ,m=>(evE C a ρ m).bind λ x m=>(evE C b ρ m).bind λ y m=>binop op x y m
 | .neg a,ρ,m=>(evE C a ρ m).bind λ x m=>match x with
  | .int i=>.ok (.int (-i)) m
  | _=>.no
 | .not a,ρ,m=>(evE C a ρ m).bind λ x m=>match x with
  | .bl b=>.ok (.bl (!b)) m
  | _=>.no
 | .and a b,ρ,m=>(evE C a ρ m).bind λ x m=>match x with
  | .bl c=>if c then evE C b ρ m else .ok (.bl false) m
  | _=>.no
 | .or a b,ρ,m=>(evE C a ρ m).bind λ x m=>match x with
  | .bl c=>if c then .ok (.bl true) m else evE C b ρ m
  | _=>.no
 | .cmp op a b,ρ,m=>(evE C a ρ m).bind λ x m=>(evE C b ρ m).bind λ y m=>(aq op x y m).bind λ c m=>.ok (.bl c) m
 | .chain o1 o2 a b c,ρ,m=>(evE C a ρ m).bind λ x m=>(evE C b ρ m).bind λ y m=>(aq o1 x y m).bind λ k m=>
   if k then (evE C c ρ m).bind λ z m=>(aq o2 y z m).bind λ k m=>.ok (.bl k) m else .ok (.bl false) m
 | .ife t a b,ρ,m=>(evT C t ρ m).bind λ c m=>if c then evE C a ρ m else evE C b ρ m
 | .tup es,ρ,m=>(aI C es ρ m).bind λ ws m=>if ws.length<=lim then .ok (.tup ws) m else .no
 | .lst es,ρ,m=>(aI C es ρ m).bind λ ws m=>if ws.length<=lim then new (.lst ws) m else .no
 | .idx a b,ρ,m=>(evE C a ρ m).bind λ x m=>(evE C b ρ m).bind λ y m=>aQ x y m
 | .slc a lo hi,ρ,m=>(evE C a ρ m).bind λ x m=>(evO C lo ρ m).bind λ l m=>(evO C hi ρ m).bind λ u m=>fY x l u m
 | .call f es,ρ,m=>(aI C es ρ m).bind λ ws m=>C.call f ws m
 | .blt b es,ρ,m=>(aI C es ρ m).bind λ ws m=>aP b ws m
 | .isI a t,ρ,m=>(evE C a ρ m).bind λ x m=>match fB m t x with
  | some b=>.ok (.bl b) m
  | none=>.no
 | .meth o name es,ρ,m=>(evE C o ρ m).bind λ x m=>if kdOf m x=kdM name then (aI C es ρ m).bind λ ws m=>aZ x name ws m else .no
 | .comp g,ρ,m=>(evG C g ρ m []).bind λ p m=>new (.lst p.1) m
 | .lrng a,ρ,m=>(evE C a ρ m).bind λ x m=>match x with
  | .int j=>if 0<=j/\j<=1000000 then new (.lst ((List.range j.toNat).map λ i=>W.int (i:Nat))) m else .no
  | _=>.no
 | .frz a,ρ,m=>rC m (evE C a ρ m)
 | .fld a f,ρ,m=>(evE C a ρ m).bind λ x m=>gZ C.cs x f m
 | .make c es,ρ,m=>(aI C es ρ m).bind λ ws m=>gz C c ws m
 | .mth o f es,ρ,m=>(evE C o ρ m).bind λ x m=>match f6 C.cs x f m with
  | some i=>(aI C es ρ m).bind λ ws m=>C.call i (x::ws) m
  | none=>.no
 | .set0,_,m=>new (.set []) m
 | .fus u a,ρ,m=>(evE C a ρ m).bind λ x m=>gY u x m
 | .rng _,_,_=>.no
 | .rng2 _ _,_,_=>.no
 | .enm _,_,_=>.no
 | .zip _,_,_=>.no
noncomputable def aI (C:Cx):Es->Loc->Mem->R (List W)
 | .nil,_,m=>.ok [] m
 | .cons e es,ρ,m=>(evE C e ρ m).bind λ w m=>(aI C es ρ m).bind λ ws m=>.ok (w::ws) m
noncomputable def evO (C:Cx):Oe->Loc->Mem->R (Option Int)
 | .none,_,m=>.ok none m
 | .some e,ρ,m=>(evE C e ρ m).bind λ w m=>match w with
  | .int i=>.ok (some i) m
  | _=>.no
noncomputable def evT (C:Cx):E->Loc->Mem->R Bool
 | .and a b,ρ,m=>(evT C a ρ m).bind λ c m=>if c then evT C b ρ m else .ok false m
 | .or a b,ρ,m=>(evT C a ρ m).bind λ c m=>if c then .ok true m else evT C b ρ m
 | .not a,ρ,m=>(evT C a ρ m).bind λ c m=>.ok (!c) m
 | .cmp op a b,ρ,m=>(evE C a ρ m).bind λ x m=>(evE C b ρ m).bind λ y m=>aq op x y m
 | .chain o1 o2 a b c,ρ,m=>(evE C a ρ m).bind λ x m=>(evE C b ρ m).bind λ y m=>(aq o1 x y m).bind λ k m=>
   if k then (evE C c ρ m).bind λ z m=>aq o2 y z m else .ok false m
 | .ife t a b,ρ,m=>(evT C t ρ m).bind λ c m=>if c then evT C a ρ m else evT C b ρ m
 | .var i,ρ,m=>R.bind (match ρ[i]? with
   | some (some w)=>.ok w m
   | _=>.no) λ w m=>truthy m w
 | .cst w,_,m=>R.bind (.ok w m) λ w m=>truthy m w
 | .bin op a b,ρ,m=>R.bind ((evE C a ρ m).bind λ x m=>(evE C b ρ m).bind λ y m=>binop op x y m) λ w m=>truthy m w
 | .neg a,ρ,m=>R.bind ((evE C a ρ m).bind λ x m=>match x with
   | .int i=>.ok (.int (-i)) m
   | _=>.no) λ w m=>truthy m w
 | .tup es,ρ,m=>R.bind ((aI C es ρ m).bind λ ws m=>if ws.length<=lim then .ok (.tup ws) m else .no) λ w m=>truthy m w
 | .lst es,ρ,m=>R.bind ((aI C es ρ m).bind λ ws m=>if ws.length<=lim then new (.lst ws) m else .no) λ w m=>truthy m w
 | .idx a b,ρ,m=>R.bind ((evE C a ρ m).bind λ x m=>(evE C b ρ m).bind λ y m=>aQ x y m) λ w m=>truthy m w
 | .slc a lo hi,ρ,m=>R.bind ((evE C a ρ m).bind λ x m=>(evO C lo ρ m).bind λ l m=>(evO C hi ρ m).bind λ u m=>fY x l u m) λ w m=>truthy m w
 | .call f es,ρ,m=>R.bind ((aI C es ρ m).bind λ ws m=>C.call f ws m) λ w m=>truthy m w
 | .blt b es,ρ,m=>R.bind ((aI C es ρ m).bind λ ws m=>aP b ws m) λ w m=>truthy m w
 | .isI a t,ρ,m=>R.bind ((evE C a ρ m).bind λ x m=>match fB m t x with
   | some b=>.ok (.bl b) m
   | none=>.no) λ w m=>truthy m w
 | .meth o name es,ρ,m=>R.bind ((evE C o ρ m).bind λ x m=>if kdOf m x=kdM name then (aI C es ρ m).bind λ ws m=>aZ x name ws m else .no) λ w m=>truthy m w
 | .comp g,ρ,m=>R.bind ((evG C g ρ m []).bind λ p m=>new (.lst p.1) m) λ w m=>truthy m w
 | .lrng a,ρ,m=>R.bind ((evE C a ρ m).bind λ x m=>match x with
   | .int j=>if 0<=j/\j<=1000000 then new (.lst ((List.range j.toNat).map λ i=>W.int (i:Nat))) m else .no
   | _=>.no) λ w m=>truthy m w
 | .frz a,ρ,m=>R.bind (rC m (evE C a ρ m)) λ w m=>truthy m w
 | .fld a f,ρ,m=>R.bind ((evE C a ρ m).bind λ x m=>gZ C.cs x f m) λ w m=>truthy m w
 | .make c es,ρ,m=>R.bind ((aI C es ρ m).bind λ ws m=>gz C c ws m) λ w m=>truthy m w
 | .mth o f es,ρ,m=>R.bind ((evE C o ρ m).bind λ x m=>match f6 C.cs x f m with
   | some i=>(aI C es ρ m).bind λ ws m=>C.call i (x::ws) m
   | none=>.no) λ w m=>truthy m w
 | .set0,_,m=>R.bind (new (.set []) m) λ w m=>truthy m w
 | .fus u a,ρ,m=>R.bind ((evE C a ρ m).bind λ x m=>gY u x m) λ w m=>truthy m w
 | .rng _,_,_=>R.bind (.no) λ w m=>truthy m w
 | .rng2 _ _,_,_=>R.bind (.no) λ w m=>truthy m w
 | .enm _,_,_=>R.bind (.no) λ w m=>truthy m w
 | .zip _,_,_=>R.bind (.no) λ w m=>truthy m w
noncomputable def evI (C:Cx):E->Loc->Mem->R Src
 | .rng a,ρ,m=>(evE C a ρ m).bind λ x m=>match x with
  | .int j=>if -(2^62)<=j/\j < 2^62 then .ok (.rng 0 j.toNat) m else .no
  | _=>.no
 | .rng2 a b,ρ,m=>(evE C a ρ m).bind λ x m=>(evE C b ρ m).bind λ y m=>match x,y with
  | .int i,.int j=>if -(2^62)<=i/\i < 2^62/\-(2^62)<=j/\j < 2^62 then .ok (.rng i (j - i).toNat) m else .no
  | _,_=>.no
 | .enm a,ρ,m=>(evE C a ρ m).bind λ x m=>match srcOf m x with
  | some s=>.ok (.enm s) m
  | none=>.no
 | .zip es,ρ,m=>(aI C es ρ m).bind λ xs m=>match kP m xs with
  | some ss=>.ok (.zip ss) m
  | none=>.no
 | .var i,ρ,m=>R.bind (match ρ[i]? with
   | some (some w)=>.ok w m
   | _=>.no) toI
 | .cst w,_,m=>R.bind (.ok w m) toI
 | .bin op a b,ρ,m=>R.bind ((evE C a ρ m).bind λ x m=>(evE C b ρ m).bind λ y m=>binop op x y m) toI
 | .neg a,ρ,m=>R.bind ((evE C a ρ m).bind λ x m=>match x with
   | .int i=>.ok (.int (-i)) m
   | _=>.no) toI
 | .not a,ρ,m=>R.bind ((evE C a ρ m).bind λ x m=>match x with
   | .bl b=>.ok (.bl (!b)) m
   | _=>.no) toI
 | .and a b,ρ,m=>R.bind ((evE C a ρ m).bind λ x m=>match x with
   | .bl c=>if c then evE C b ρ m else .ok (.bl false) m
   | _=>.no) toI
 | .or a b,ρ,m=>R.bind ((evE C a ρ m).bind λ x m=>match x with
   | .bl c=>if c then .ok (.bl true) m else evE C b ρ m
   | _=>.no) toI
 | .cmp op a b,ρ,m=>R.bind ((evE C a ρ m).bind λ x m=>(evE C b ρ m).bind λ y m=>(aq op x y m).bind λ c m=>.ok (.bl c) m) toI
 | .chain o1 o2 a b c,ρ,m=>R.bind ((evE C a ρ m).bind λ x m=>(evE C b ρ m).bind λ y m=>(aq o1 x y m).bind λ k m=>
    if k then (evE C c ρ m).bind λ z m=>(aq o2 y z m).bind λ k m=>.ok (.bl k) m else .ok (.bl false) m) toI
 | .ife t a b,ρ,m=>R.bind ((evT C t ρ m).bind λ c m=>if c then evE C a ρ m else evE C b ρ m) toI
 | .tup es,ρ,m=>R.bind ((aI C es ρ m).bind λ ws m=>if ws.length<=lim then .ok (.tup ws) m else .no) toI
 | .lst es,ρ,m=>R.bind ((aI C es ρ m).bind λ ws m=>if ws.length<=lim then new (.lst ws) m else .no) toI
 | .idx a b,ρ,m=>R.bind ((evE C a ρ m).bind λ x m=>(evE C b ρ m).bind λ y m=>aQ x y m) toI
 | .slc a lo hi,ρ,m=>R.bind ((evE C a ρ m).bind λ x m=>(evO C lo ρ m).bind λ l m=>(evO C hi ρ m).bind λ u m=>fY x l u m) toI
 | .call f es,ρ,m=>R.bind ((aI C es ρ m).bind λ ws m=>C.call f ws m) toI
 | .blt b es,ρ,m=>R.bind ((aI C es ρ m).bind λ ws m=>aP b ws m) toI
 | .isI a t,ρ,m=>R.bind ((evE C a ρ m).bind λ x m=>match fB m t x with
   | some b=>.ok (.bl b) m
   | none=>.no) toI
 | .meth o name es,ρ,m=>R.bind ((evE C o ρ m).bind λ x m=>if kdOf m x=kdM name then (aI C es ρ m).bind λ ws m=>aZ x name ws m else .no) toI
 | .comp g,ρ,m=>R.bind ((evG C g ρ m []).bind λ p m=>new (.lst p.1) m) toI
 | .lrng a,ρ,m=>R.bind ((evE C a ρ m).bind λ x m=>match x with
   | .int j=>if 0<=j/\j<=1000000 then new (.lst ((List.range j.toNat).map λ i=>W.int (i:Nat))) m else .no
   | _=>.no) toI
 | .frz a,ρ,m=>R.bind (rC m (evE C a ρ m)) toI
 | .fld a f,ρ,m=>R.bind ((evE C a ρ m).bind λ x m=>gZ C.cs x f m) toI
 | .make c es,ρ,m=>R.bind ((aI C es ρ m).bind λ ws m=>gz C c ws m) toI
 | .mth o f es,ρ,m=>R.bind ((evE C o ρ m).bind λ x m=>match f6 C.cs x f m with
   | some i=>(aI C es ρ m).bind λ ws m=>C.call i (x::ws) m
   | none=>.no) toI
 | .set0,_,m=>R.bind (new (.set []) m) toI
 | .fus u a,ρ,m=>R.bind ((evE C a ρ m).bind λ x m=>gY u x m) toI
noncomputable def evG (C:Cx):G->Loc->Mem->List W->R (List W×Loc)
 | .elt e,ρ,m,acc=>(evE C e ρ m).bind λ w m=>if acc.length < lim then .ok (acc++[w],ρ) m else .no
 | .gen t js it ifs rest,ρ,m,acc=>(evI C it ρ m).bind λ s m=>bM s.get t (fun ρ m=>aF C ifs ρ m) (fun ρ m acc=>evG C rest ρ m acc) (s.len m) 0 (clr js ρ) m acc
noncomputable def aF (C:Cx):Es->Loc->Mem->R Bool
 | .nil,_,m=>.ok true m
 | .cons e es,ρ,m=>(evT C e ρ m).bind λ b m=>if b then aF C es ρ m else .ok false m
end
mutual
noncomputable def evA (C:Cx):A->W->Loc->Mem->R Loc
 | .pt t,w,ρ,m=>match au t w ρ with
  | some ρ=>.ok ρ m
  | none=>.no
 | .sub o i,w,ρ,m=>(evE C o ρ m).bind λ x m=>(evE C i ρ m).bind λ y m=>(mw x y w m).bind λ _ m=>.ok ρ m
 | .tup l,w,ρ,m=>match aC m w with
  | some xs=>cz C l xs ρ m
  | none=>.no
noncomputable def cz (C:Cx):As->List W->Loc->Mem->R Loc
 | .nil,xs,ρ,m=>match xs with
  | []=>.ok ρ m
  | _::_=>.no
 | .cons a l,xs,ρ,m=>match xs with
  | []=>.no
  | x::xs=>(evA C a x ρ m).bind fun ρ m=>cz C l xs ρ m
end
noncomputable def CN (op:Operator) (x y:W) (m:Mem):R W:=match op with
 | .Add=>match x,y with
  | .int a,.int b=>.ok (.int (a+b)) m
  | _,_=>.no
 | .Sub=>match x,y with
  | .int a,.int b=>.ok (.int (a - b)) m
  | _,_=>.no
 | _=>.no
mutual
noncomputable def evS (C:Cx):S->Loc->Mem->R F
 | .asg t e,ρ,m=>(evE C e ρ m).bind λ w m=>(evA C t w ρ m).bind fun ρ m=>.ok (.nx ρ) m
 | .aug i op e,ρ,m=>match ρ[i]? with
  | some (some x)=>(evE C e ρ m).bind λ y m=>(CN op x y m).bind λ z m=>.ok (.nx (ρ.set i (some z))) m
  | _=>.no
 | .expr e,ρ,m=>(evE C e ρ m).bind λ _ m=>.ok (.nx ρ) m
 | .ret e,ρ,m=>(evE C e ρ m).bind λ w m=>.ok (.rt w) m
 | .retN,_,m=>.ok (.rt .non) m
 | .ife t a b,ρ,m=>(evT C t ρ m).bind λ c m=>if c then aE C a ρ m else aE C b ρ m
 | .for_ t it b,ρ,m=>(evI C it ρ m).bind λ s m=>fC s.get t (fun ρ m=>aE C b ρ m) (s.len m) 0 ρ m
 | .while_ t b,ρ,m=>oB (fun ρ m=>evT C t ρ m) (fun ρ m=>aE C b ρ m) C.fuel ρ m
 | .pass,ρ,m=>.ok (.nx ρ) m
 | .brk,ρ,m=>.ok (.bk ρ) m
 | .cont,ρ,m=>.ok (.ct ρ) m
 | .never,_,_=>.no
 | .fas o f e,ρ,m=>(evE C e ρ m).bind λ w m=>(evE C o ρ m).bind λ x m=>(mz C.cs x f w m).bind λ _ m=>.ok (.nx ρ) m
noncomputable def aE (C:Cx):Ss->Loc->Mem->R F
 | .nil,ρ,m=>.ok (.nx ρ) m
 | .cons s r,ρ,m=>(evS C s ρ m).bind λ f m=>match f with
  | .nx ρ=>aE C r ρ m
  | f=>.ok f m
end
set_option genInjectivity false in
structure Fn where
 np:Nat
 nl:Nat
 body:Ss
noncomputable def cZ (n:Nat) (ws:List W):Loc:=ws.map some++List.replicate (n - ws.length) none
noncomputable def outF:F->Mem->R W
 | .nx _,m=>.ok .non m
 | .rt w,m=>.ok w m
 | _,_=>.no
end D
end
section
namespace D
open PySem PySem.Spec PyProof.Rows L2
noncomputable def SqF (K:PySem.W.Frag) (H:Hp) (a:Addr) (xs:List V):Prop:=(∃o,H a=some (.frz o (.lst xs)))\/
 ∃(o:Obj) (its:Array Value) (n:Nat),K.lookup a=some o/\o.cls=.type "list"/\o.dict=none/\o.data=.seq its n/\its.size<=sizeLine/\Vals xs its.toList
theorem SqF.l {K:PySem.W.Frag} {H:Hp} {a:Addr} {xs:List V} (h:SqF K H a xs):SqL K H a xs:=h.elim (λ ⟨o,e⟩=>.inl (.inr ⟨o,e⟩)) .inr
noncomputable def aW (K:PySem.W.Frag) (c:Str):Addr:=match PySem.W.nsIn K mainGlobals c with
 | some (some (.ref C))=>C
 | _=>0
set_option genInjectivity false in
structure Cl where
 P:Program
 w:World
section
variable (K:PySem.W.Frag) (cl:Cl)
mutual
inductive RW (β:List Addr) (H:Hp):W->V->Prop
 | non:RW β H .non .non
 | bl (b):RW β H (.bl b) (.bl b)
 | int (i):RW β H (.int i) (.int i)
 | str (x):RW β H (.str x) (.str x)
 | tup {a vs xs}:SqT K H a vs->RWs β H xs vs->RW β H (.tup xs) (.ref a)
 | fz {a vs xs}:SqF K H a vs->RWs β H xs vs->RW β H (.fz xs) (.ref a)
 | obj {a c ks xs dx o fs}:H a=some (.frz o (.ins (aW K c) dx fs))->ks=fs.map (·.1)->RWs β H xs (fs.map (·.2))->RW β H (.obj c ks xs) (.ref a)
 | ref {n a}:β[n]?=some a->RW β H (.ref n) (.ref a)
inductive RWs (β:List Addr) (H:Hp):List W->List V->Prop
 | nil:RWs β H [] []
 | cons {w v ws vs}:RW β H w v->RWs β H ws vs->RWs β H (w::ws) (v::vs)
end
inductive RFs (β:List Addr) (H:Hp):List (Str×W)->List (Str×V)->Prop
 | nil:RFs β H [] []
 | cons {f w v ws vs}:RW K β H w v->RFs β H ws vs->RFs β H ((f,w)::ws) ((f,v)::vs)
noncomputable def RO (β:List Addr) (H:Hp) (a:Addr):O->Prop
 | .lst ws=>∃vs,H a=some (.lst vs)/\RWs K β H ws vs
 | .ins c fs=>∃dx fs',H a=some (.ins (aW K c) dx fs')/\RFs K β H fs fs'
 | .set ks=>∃S,H a=some (iW cl.P cl.w a S ks.length)/\∀k,S k=iZ k ks
structure Rel (β:List Addr) (m:Mem) (H:Hp):Prop where
 len:β.length=m.length
 nd:β.Nodup
 obj:∀{n:Nat} {o:O} {a:Addr},m[n]?=some o->β[n]?=some a->RO K cl β H a o
structure bT (Δ:Option Addr) (β:List Addr) (H:Hp) (β':List Addr) (H':Hp):Prop where
 pre:∃γ,β'=β++γ/\∀a∈γ,H a=none
 keep:∀{a:Addr} {o:HO},H a=some o->a∉β->some a≠Δ->H' a=some o
abbrev Ext:=bT none
structure RL (β:List Addr) (H:Hp) (ρ:Loc) (σ:L2.St):Prop where
 len:ρ.length=σ.length
 at_:∀{i:Nat} {w:W},ρ[i]?=some (some w)->∃v,σ[i]?=some (some v)/\RW K β H w v
end
section
variable {K:PySem.W.Frag} {cl:Cl} {β β' β'':List Addr} {H H' H'':Hp} {m m':Mem} {a:Addr}
theorem Rel.mem (r:Rel K cl β m H) (h:a∈β):∃(n:Nat) (o:O),β[n]?=some a/\m[n]?=some o/\RO K cl β H a o:=by
 obtain ⟨n,hn⟩:=List.getElem?_of_mem h
 have hl:n < m.length:=by
  have:=(List.getElem?_eq_some_iff.mp hn).1
  rw [r.len] at this
  exact this
 exact ⟨n,m[n],hn,by simp [hl],r.obj (by simp [hl]) hn⟩
theorem RO.ex {o:O} (h:RO K cl β H a o):∃u,H a=some u/\(∀xs,u≠.tup xs)/\∀ob x,u≠.frz ob x:=by
 cases o with
 | lst ws=>obtain ⟨vs,e,_⟩:=h; exact ⟨_,e,(by intro _ z; cases z),(by intro _ _ z; cases z)⟩
 | ins c fs=>obtain ⟨dx,fs',e,_⟩:=h; exact ⟨_,e,(by intro _ z; cases z),(by intro _ _ z; cases z)⟩
 | set ks=>obtain ⟨S,e,_⟩:=h; exact ⟨_,e,(by intro _ z; cases z),(by intro _ _ z; cases z)⟩
theorem Rel.ex (r:Rel K cl β m H) (h:a∈β):∃u,H a=some u/\(∀xs,u≠.tup xs)/\∀ob x,u≠.frz ob x:=by
 obtain ⟨n,o,_,_,x⟩:=r.mem h
 exact x.ex
theorem Ext.refl {Δ:Option Addr}:bT Δ β H β H:=⟨⟨[],by simp,by simp⟩,λ h _ _=>h⟩
theorem bT.trans {Δ:Option Addr} (x:bT Δ β H β' H') (r':Rel K cl β' m' H') (y:bT Δ β' H' β'' H'') (hD:∀d,Δ=some d->H' d≠none:=by intro d z; cases z):bT Δ β H β'' H'':=by
 obtain ⟨γ,rfl,hγ⟩:=x.pre
 obtain ⟨δ,rfl,hδ⟩:=y.pre
 refine ⟨⟨γ++δ,by simp,λ a ha=>?_⟩,λ {a o} h hn hd=>?_⟩
 ·rcases List.mem_append.mp ha with z | z
  ·exact hγ a z
  ·by_cases hb:a∈β
   ·obtain ⟨u,e,_⟩:=r'.ex (List.mem_append_left _ hb)
    rw [hδ a z] at e; cases e
   ·cases e:H a with
    | none=>rfl
    | some o=>
     by_cases hd:some a=Δ
     ·exact absurd (hδ a z) (hD a hd.symm)
     ·have:=x.keep e hb hd
      rw [hδ a z] at this; cases this
 ·refine y.keep (x.keep h hn hd) (λ z=>?_) hd
  rcases List.mem_append.mp z with z | z
  ·exact hn z
  ·rw [hγ a z] at h; cases h
theorem bT.toD {d:Addr} (x:Ext β H β' H'):bT (some d) β H β' H':=⟨x.pre,λ h hn _=>x.keep h hn (by simp)⟩
theorem bT.sqT {Δ:Option Addr} (x:bT Δ β H β' H') (r:Rel K cl β m H) (hD:∀d,Δ=some d->∃vs,H d=some (.lst vs)) {vs:List V} (h:SqT K H a vs):SqT K H' a vs:=by
 rcases h with h | h
 ·refine .inl ?_
  have na:a∉β:=λ z=>by
   obtain ⟨u,e,n1,n2⟩:=r.ex z
   rcases h with h | ⟨o,h⟩
   ·rw [h] at e; cases e; exact n1 _ rfl
   ·rw [h] at e; cases e; exact n2 _ _ rfl
  have nd:some a≠Δ:=λ z=>by
   obtain ⟨vs,e⟩:=hD a z.symm
   rcases h with h | ⟨o,h⟩
   ·rw [h] at e; cases e
   ·rw [h] at e; cases e
  rcases h with h | ⟨o,h⟩
  ·exact .inl (x.keep h na nd)
  ·exact .inr ⟨o,x.keep h na nd⟩
 ·exact .inr h
theorem bT.sqF {Δ:Option Addr} (x:bT Δ β H β' H') (r:Rel K cl β m H) (hD:∀d,Δ=some d->∃vs,H d=some (.lst vs)) {vs:List V} (h:SqF K H a vs):SqF K H' a vs:=by
 rcases h with ⟨o,h⟩ | h
 ·refine .inl ⟨o,x.keep h (λ z=>?_) λ z=>?_⟩
  ·obtain ⟨u,e,n1,n2⟩:=r.ex z
   rw [h] at e; cases e; exact n2 _ _ rfl
  ·obtain ⟨vs,e⟩:=hD a z.symm
   rw [h] at e; cases e
 ·exact .inr h
theorem bT.fz {Δ:Option Addr} (x:bT Δ β H β' H') (r:Rel K cl β m H) (hD:∀d,Δ=some d->∃vs,H d=some (.lst vs)) {o:Obj} {u:HO} (h:H a=some (.frz o u)):H' a=some (.frz o u):=by
 refine x.keep h (λ z=>?_) λ z=>?_
 ·obtain ⟨u,e,n1,n2⟩:=r.ex z
  rw [h] at e; cases e; exact n2 _ _ rfl
 ·obtain ⟨vs,e⟩:=hD a z.symm
  rw [h] at e; cases e
theorem bT.get {Δ:Option Addr} {n:Nat} (x:bT Δ β H β' H') (h:β[n]?=some a):β'[n]?=some a:=by
 obtain ⟨γ,rfl,_⟩:=x.pre
 rw [List.getElem?_append_left (List.getElem?_eq_some_iff.mp h).1]
 exact h
theorem RW.gen {H2:Hp} {β2:List Addr} (hT:∀{a:Addr} {vs:List V},SqT K H a vs->SqT K H2 a vs) (hF:∀{a:Addr} {vs:List V},SqF K H a vs->SqF K H2 a vs) (hO:∀{a:Addr} {o:Obj} {u:HO},H a=some (.frz o u)->H2 a=some (.frz o u)) (hR:∀{n:Nat} {a:Addr},β[n]?=some a->β2[n]?=some a) {w:W} {v:V} (q:RW K β H w v):RW K β2 H2 w v:=
 RW.rec (motive_1:=λ w v _=>RW K β2 H2 w v) (motive_2:=λ w v _=>RWs K β2 H2 w v) .non .bl .int .str (λ h _ i=>.tup (hT h) i) (λ h _ i=>.fz (hF h) i) (λ h e _ i=>.obj (hO h) e i) (λ h=>.ref (hR h)) .nil (λ _ _ a b=>.cons a b) q
theorem RWs.rE {H2:Hp} {β2:List Addr} (f:∀{w:W} {v:V},RW K β H w v->RW K β2 H2 w v) {w:List W} {v:List V} (q:RWs K β H w v):RWs K β2 H2 w v:=by
 induction w generalizing v with
 | nil=>cases q; exact .nil
 | cons x w ih=>cases q with | cons a b=>exact .cons (f a) (ih b)
theorem RFs.rE {H2:Hp} {β2:List Addr} (f:∀{w:W} {v:V},RW K β H w v->RW K β2 H2 w v) {w:List (Str×W)} {v:List (Str×V)} (q:RFs K β H w v):RFs K β2 H2 w v:=by
 induction q with
 | nil=>exact .nil
 | cons a b ih=>exact .cons (f a) ih
theorem RW.ck {Δ:Option Addr} (r:Rel K cl β m H) (hD:∀d,Δ=some d->∃vs,H d=some (.lst vs)) (x:bT Δ β H β' H') {w:W} {v:V} (q:RW K β H w v):RW K β' H' w v:=
 q.gen (x.sqT r hD) (x.sqF r hD) (x.fz r hD) x.get
theorem RWs.ck {Δ:Option Addr} (r:Rel K cl β m H) (hD:∀d,Δ=some d->∃vs,H d=some (.lst vs)) (x:bT Δ β H β' H') {w:List W} {v:List V} (q:RWs K β H w v):RWs K β' H' w v:=q.rE (RW.ck r hD x)
theorem noD {P:Addr->Prop}:∀d,(none:Option Addr)=some d->P d:=λ d z=>by cases z
theorem RW.mono (r:Rel K cl β m H) (x:Ext β H β' H') {w:W} {v:V} (h:RW K β H w v):RW K β' H' w v:=h.ck r noD x
theorem RWs.mono (r:Rel K cl β m H) (x:Ext β H β' H') {w:List W} {v:List V} (h:RWs K β H w v):RWs K β' H' w v:=h.ck r noD x
theorem RFs.ck {Δ:Option Addr} (r:Rel K cl β m H) (hD:∀d,Δ=some d->∃vs,H d=some (.lst vs)) (x:bT Δ β H β' H') {w:List (Str×W)} {v:List (Str×V)} (q:RFs K β H w v):RFs K β' H' w v:=q.rE (RW.ck r hD x)
theorem RL.ck {Δ:Option Addr} (r:Rel K cl β m H) (hD:∀d,Δ=some d->∃vs,H d=some (.lst vs)) (x:bT Δ β H β' H') {ρ:Loc} {σ:L2.St} (l:RL K β H ρ σ):RL K β' H' ρ σ:=
 ⟨l.len,λ h=>let ⟨v,e,q⟩:=l.at_ h; ⟨v,e,q.ck r hD x⟩⟩
theorem RL.mono (r:Rel K cl β m H) (x:Ext β H β' H') {ρ:Loc} {σ:L2.St} (l:RL K β H ρ σ):RL K β' H' ρ σ:=l.ck r noD x
theorem RO.ck {Δ:Option Addr} (r:Rel K cl β m H) (hD:∀d,Δ=some d->∃vs,H d=some (.lst vs)) (x:bT Δ β H β' H') (hk:H' a=H a) {o:O} (h:RO K cl β H a o):RO K cl β' H' a o:=by
 cases o with
 | lst ws=>obtain ⟨vs,e,t⟩:=h; exact ⟨vs,hk.trans e,t.ck r hD x⟩
 | ins c fs=>obtain ⟨dx,fs',e,t⟩:=h; exact ⟨dx,fs',hk.trans e,t.ck r hD x⟩
 | set ks=>obtain ⟨S,e,t⟩:=h; exact ⟨S,hk.trans e,t⟩
theorem RO.mono (r:Rel K cl β m H) (x:Ext β H β' H') (hk:H' a=H a) {o:O} (h:RO K cl β H a o):RO K cl β' H' a o:=h.ck r noD x hk
theorem RWs.length:∀{ws:List W} {vs:List V},RWs K β H ws vs->ws.length=vs.length
 | _,_,.nil=>rfl
 | _,_,.cons _ t=>by rw [List.length_cons,List.length_cons,RWs.length t]
theorem RWs.get:∀{ws:List W} {vs:List V} {i:Nat} {w:W},RWs K β H ws vs->ws[i]?=some w->∃v,vs[i]?=some v/\RW K β H w v
 | _,_,_,_,.nil,e=>by simp at e
 | _,_,0,_,.cons h t,e=>by simp at e; subst e; exact ⟨_,rfl,h⟩
 | _,_,i+1,_,.cons h t,e=>by simpa using RWs.get (i:=i) t (by simpa using e)
theorem RWs.append:∀{v w:List W} {d e:List V},RWs K β H v d->RWs K β H w e->RWs K β H (v++w) (d++e):=by
 intro v
 induction v with
 | nil=>intro w d e h s; cases h; exact s
 | cons x v ih=>intro w d e h s; cases h with | cons q t=>exact .cons q (ih t s)
theorem RWs.take:∀{ws:List W} {vs:List V} (n:Nat),RWs K β H ws vs->RWs K β H (ws.take n) (vs.take n)
 | _,_,0,_=>.nil
 | _,_,_+1,.nil=>.nil
 | _,_,n+1,.cons h t=>.cons h (RWs.take n t)
theorem RWs.drop:∀{ws:List W} {vs:List V} (n:Nat),RWs K β H ws vs->RWs K β H (ws.drop n) (vs.drop n)
 | _,_,0,r=>r
 | _,_,_+1,.nil=>.nil
 | _,_,n+1,.cons h t=>RWs.drop n t
theorem RWs.set {w:W} {v:V} (r:RW K β H w v):∀{ws:List W} {vs:List V} (i:Nat),RWs K β H ws vs->RWs K β H (ws.set i w) (vs.set i v)
 | _,_,_,.nil=>.nil
 | _,_,0,.cons _ t=>.cons r t
 | _,_,i+1,.cons q t=>.cons q (RWs.set r i t)
theorem RWs.eraseIdx:∀{ws:List W} {vs:List V} (i:Nat),RWs K β H ws vs->RWs K β H (ws.eraseIdx i) (vs.eraseIdx i)
 | _,_,_,.nil=>.nil
 | _,_,0,.cons _ t=>t
 | _,_,i+1,.cons q t=>.cons q (RWs.eraseIdx i t)
theorem RWs.reverse:∀{ws:List W} {vs:List V},RWs K β H ws vs->RWs K β H ws.reverse vs.reverse
 | _,_,.nil=>.nil
 | _,_,.cons q t=>by rw [List.reverse_cons,List.reverse_cons]; exact (RWs.reverse t).append (.cons q .nil)
theorem RWs.dropLast {ws:List W} {vs:List V} (h:RWs K β H ws vs):RWs K β H ws.dropLast vs.dropLast:=by
 rw [List.dropLast_eq_take,List.dropLast_eq_take,h.length]; exact h.take _
theorem RWs.bools {bs:List Bool}:∀{ws:List W} {vs:List V},RWs K β H ws vs->D.bools ws=Option.some bs->vs=bs.map V.bl:=by
 induction bs with
 | nil=>
  intro ws vs h e
  cases h with
  | nil=>rfl
  | cons q t=>cases q<;>simp [D.bools] at e
 | cons b bs ih=>
  intro ws vs h e
  cases h with
  | nil=>simp [D.bools] at e
  | cons q t=>
   cases q with
   | bl c=>
    simp only [D.bools,Option.map_eq_some_iff] at e
    obtain ⟨r,e1,e2⟩:=e
    cases e2
    rw [ih t e1]; rfl
   | _=>simp [D.bools] at e
theorem RW.sub (h:∀{n:Nat} {a:Addr},β[n]?=Option.some a->β'[n]?=Option.some a) {w:W} {v:V} (q:RW K β H w v):RW K β' H w v:=q.gen id id id h
theorem RWs.sub (h:∀{n:Nat} {a:Addr},β[n]?=Option.some a->β'[n]?=Option.some a) {w:List W} {v:List V} (q:RWs K β H w v):RWs K β' H w v:=q.rE (RW.sub h)
theorem RFs.sub (h:∀{n:Nat} {a:Addr},β[n]?=Option.some a->β'[n]?=Option.some a) {w:List (Str×W)} {v:List (Str×V)} (q:RFs K β H w v):RFs K β' H w v:=q.rE (RW.sub h)
theorem RO.sub (h:∀{n:Nat} {a:Addr},β[n]?=Option.some a->β'[n]?=Option.some a) {o:O} (q:RO K cl β H a o):RO K cl β' H a o:=by
 cases o with
 | lst ws=>obtain ⟨vs,e,t⟩:=q; exact ⟨vs,e,t.sub h⟩
 | ins c fs=>obtain ⟨dx,fs',e,t⟩:=q; exact ⟨dx,fs',e,t.sub h⟩
 | set ks=>exact q
theorem Rel.kQ (r:Rel K cl β m H) {p:Addr} (hp:H p=none) (vs:List V):Ext β H β (upd H p (.tup vs))/\Rel K cl β m (upd H p (.tup vs)):=by
 have x:Ext β H β (upd H p (.tup vs)):=⟨⟨[],by simp,by simp⟩,λ h _ _=>by rw [aj (ak h hp)]; exact h⟩
 refine ⟨x,r.len,r.nd,λ h1 h2=>?_⟩
 have q:=r.obj h1 h2
 obtain ⟨u,e,_⟩:=q.ex
 exact q.mono r x (aj (ak e hp))
theorem Rel.nin (r:Rel K cl β m H) {p:Addr} (hp:H p=none):p∉β:=λ z=>by
 obtain ⟨u,e,_⟩:=r.ex z
 rw [hp] at e; cases e
theorem Rel.AL (r:Rel K cl β m H) {p:Addr} {ho:HO} {o:O} (hp:H p=none) (q:∀x:Ext β H (β++[p]) (upd H p ho),RO K cl (β++[p]) (upd H p ho) p o):Ext β H (β++[p]) (upd H p ho)/\Rel K cl (β++[p]) (m++[o]) (upd H p ho):=by
 have x:Ext β H (β++[p]) (upd H p ho):=⟨⟨[p],rfl,λ a ha=>by simp at ha; rw [ha]; exact hp⟩,λ h _ _=>by rw [aj (ak h hp)]; exact h⟩
 refine ⟨x,by simp [r.len],?_,λ {n o' a} h1 h2=>?_⟩
 ·rw [List.nodup_append]
  refine ⟨r.nd,by simp,λ a ha b hb=>?_⟩
  simp at hb
  subst hb
  rintro rfl
  exact r.nin hp ha
 ·by_cases hn:n < m.length
  ·rw [List.getElem?_append_left hn] at h1
   rw [List.getElem?_append_left (by rw [r.len]; exact hn)] at h2
   have q:=r.obj h1 h2
   obtain ⟨u,e,_⟩:=q.ex
   exact q.mono r x (aj (ak e hp))
  ·have e1:=(List.getElem?_eq_some_iff.mp h1).1
   simp at e1
   have e:n=m.length:=by omega
   subst e
   rw [List.getElem?_append_right (Nat.le_refl _)] at h1
   rw [<-r.len,List.getElem?_append_right (Nat.le_refl _)] at h2
   simp at h1 h2
   subst h1 h2
   exact q x
theorem Rel.newL (r:Rel K cl β m H) {p:Addr} (hp:H p=none) {ws:List W} {vs:List V} (q:RWs K β H ws vs):Ext β H (β++[p]) (upd H p (.lst vs))/\Rel K cl (β++[p]) (m++[.lst ws]) (upd H p (.lst vs)):=
 r.AL hp λ x=>⟨vs,aB,q.mono r x⟩
theorem Rel.oE (r:Rel K cl β m H) {d:Addr} {vs vs':List V} (hd:H d=Option.some (.lst vs)) (hn:d∉β):bT (Option.some d) β H β (upd H d (.lst vs'))/\Rel K cl β m (upd H d (.lst vs')):=by
 have x:bT (Option.some d) β H β (upd H d (.lst vs')):=⟨⟨[],by simp,by simp⟩,λ {a o} h _ na=>by rw [aj (λ z=>na (by rw [z]))]; exact h⟩
 refine ⟨x,r.len,r.nd,λ h1 h2=>?_⟩
 have q:=r.obj h1 h2
 refine q.ck r (λ d' z=>?_) x (aj λ z=>?_)
 ·cases z; exact ⟨_,hd⟩
 ·exact hn (by rw [<-z]; exact List.mem_of_getElem? h2)
theorem Rel.out (r:Rel K cl β m H) {d:Addr} {vs:List V} {ws:List W} (hd:H d=Option.some (.lst vs)) (hn:d∉β) (t:RWs K β H ws vs):Rel K cl (β++[d]) (m++[.lst ws]) H:=by
 have x:∀{w:List W} {v:List V},RWs K β H w v->RWs K (β++[d]) H w v:=by
  have xx:∀{n:Nat} {a:Addr},β[n]?=Option.some a->(β++[d])[n]?=Option.some a:=λ {n a} h=>by
   rw [List.getElem?_append_left (List.getElem?_eq_some_iff.mp h).1]; exact h
  intro w v h
  exact RWs.sub xx h
 refine ⟨by simp [r.len],?_,λ {n o a} h1 h2=>?_⟩
 ·rw [List.nodup_append]
  refine ⟨r.nd,by simp,λ a ha b hb=>?_⟩
  simp at hb
  subst hb
  rintro rfl
  exact hn ha
 ·by_cases hl:n < m.length
  ·rw [List.getElem?_append_left hl] at h1
   rw [List.getElem?_append_left (by rw [r.len]; exact hl)] at h2
   exact (r.obj h1 h2).sub λ {n a} h=>by rw [List.getElem?_append_left (List.getElem?_eq_some_iff.mp h).1]; exact h
  ·have e1:=(List.getElem?_eq_some_iff.mp h1).1
   simp at e1
   have e:n=m.length:=by omega
   subst e
   rw [List.getElem?_append_right (Nat.le_refl _)] at h1
   rw [<-r.len,List.getElem?_append_right (Nat.le_refl _)] at h2
   simp at h1 h2
   subst h1 h2
   exact ⟨vs,hd,x t⟩
theorem Rel.last (r:Rel K cl β m H) (p:Addr):(β++[p])[m.length]?=Option.some p:=by
 rw [<-r.len,List.getElem?_append_right (Nat.le_refl _)]; simp
theorem Rel.rF (r:Rel K cl β m H) {n:Nat} {o:O} {ws':List W} {vs':List V} (hm:m[n]?=Option.some o) (hb:β[n]?=Option.some a) (q:RWs K β H ws' vs'):Ext β H β (upd H a (.lst vs'))/\Rel K cl β (m.set n (.lst ws')) (upd H a (.lst vs')):=by
 have ha:a∈β:=List.mem_of_getElem? hb
 have x:Ext β H β (upd H a (.lst vs')):=⟨⟨[],by simp,by simp⟩,λ {b u} h hn _=>by rw [aj (show b≠a from λ z=>hn (by rw [z]; exact ha))]; exact h⟩
 refine ⟨x,by simp [r.len],r.nd,λ {k o' b} h1 h2=>?_⟩
 by_cases hk:n=k
 ·subst hk
  rw [hb] at h2; cases h2
  rw [List.getElem?_set_self (List.getElem?_eq_some_iff.mp hm).1] at h1
  cases h1
  exact ⟨vs',aB,q.mono r x⟩
 ·rw [List.getElem?_set_ne hk] at h1
  have q':=r.obj h1 h2
  refine q'.mono r x (aj ?_)
  rintro rfl
  obtain ⟨h3,e3⟩:=List.getElem?_eq_some_iff.mp h2
  obtain ⟨h4,e4⟩:=List.getElem?_eq_some_iff.mp hb
  exact hk ((List.getElem_inj r.nd).mp (e4.trans e3.symm))
theorem Rel.getL (r:Rel K cl β m H) {w:W} {v:V} {ws:List W} (q:RW K β H w v) (e:D.getL m w=Option.some ws):∃a vs,v=.ref a/\SqL K H a vs/\RWs K β H ws vs:=by
 cases q with
 | ref h=>
  unfold D.getL at e
  dsimp only at e
  split at e
  ·rename_i xs e1
   cases e
   obtain ⟨vs,z,t⟩:=r.obj e1 h
   exact ⟨_,vs,rfl,.inl (.inl z),t⟩
  ·cases e
 | fz h t=>cases e; exact ⟨_,_,rfl,h.l,t⟩
 | _=>simp [D.getL] at e
theorem Rel.aC (r:Rel K cl β m H) {w:W} {v:V} {ws:List W} (q:RW K β H w v) (e:D.aC m w=Option.some ws):∃a vs,v=.ref a/\(SqL K H a vs\/SqT K H a vs)/\RWs K β H ws vs:=by
 cases w with
 | tup xs=>
  cases q with
  | tup h t=>
   cases e
   exact ⟨_,_,rfl,.inr h,t⟩
 | _=>
  obtain ⟨a,vs,e1,e2,e3⟩:=r.getL q e
  exact ⟨a,vs,e1,.inl e2,e3⟩
theorem Rel.lst (r:Rel K cl β m H) {n:Nat} {v:V} {ws:List W} (q:RW K β H (.ref n) v) (e:m[n]?=Option.some (.lst ws)):∃a vs,v=.ref a/\β[n]?=Option.some a/\H a=Option.some (.lst vs)/\RWs K β H ws vs:=by
 cases q with
 | ref h=>
  obtain ⟨vs,z,t⟩:=r.obj e h
  exact ⟨_,vs,rfl,h,z,t⟩
theorem eF {f:W->Option PyData}:∀{ws:List W} {vs:List V} {ds:List PyData},(∀w v d,w∈ws->RW K β H w v->f w=Option.some d->Dt K H v d)->RWs K β H ws vs->cg f ws=Option.some ds->Dts K H vs ds
 | [],_,_,_,.nil,e=>by cases e; exact .nil
 | w::ws,_,_,h,.cons q t,e=>by
  unfold cg at e
  split at e
  ·cases e
  ·rename_i d e1
   split at e
   ·cases e
   ·rename_i ds e2
    cases e
    exact .cons (h w _ d List.mem_cons_self q e1) (eF (λ w' v' d' hw=>h w' v' d' (List.mem_cons_of_mem _ hw)) t e2)
theorem dF (r:Rel K cl β m H):∀(n:Nat) {w:W} {v:V} {d:PyData},RW K β H w v->toD n m w=Option.some d->Dt K H v d
 | 0,_,_,_,_,e=>by cases e
 | n+1,w,v,d,q,e=>by
  unfold toD at e
  cases q with
  | non=>cases e; exact .non
  | bl b=>cases e; exact .bl b
  | int i=>cases e; exact .int i
  | str x=>
   dsimp only at e
   split at e
   ·cases e; exact .str x
   ·cases e
  | tup h t=>
   simp only [Option.map_eq_some_iff] at e
   obtain ⟨ds,e1,e2⟩:=e
   subst e2
   exact .tup h (eF (λ w v d _ q e=>dF r n q e) t e1)
  | fz h t=>
   simp only [Option.map_eq_some_iff] at e
   obtain ⟨ds,e1,e2⟩:=e
   subst e2
   exact .lst h.l (eF (λ w v d _ q e=>dF r n q e) t e1)
  | obj h e0 t=>cases e
  | ref h=>
   dsimp only at e
   split at e
   ·rename_i xs e1
    simp only [Option.map_eq_some_iff] at e
    obtain ⟨ds,e2,e3⟩:=e
    subst e3
    obtain ⟨a,vs,z1,z2,z3⟩:=r.getL (.ref h) e1
    cases z1
    exact .lst z2 (eF (λ w v d _ q e=>dF r n q e) z3 e2)
   ·cases e
theorem eG {f:W->Option PyData} {n:Nat}:∀{ws:List W} {ds:List PyData},(∀w d,f w=Option.some d->d.canLay0=true/\d.depth<=n)->cg f ws=Option.some ds->PyData.canLayAll0 ds=true/\PyData.depthAll ds<=n
 | [],_,_,e=>by cases e; exact ⟨rfl,Nat.zero_le _⟩
 | w::ws,_,h,e=>by
  unfold cg at e
  split at e
  ·cases e
  ·rename_i d e1
   split at e
   ·cases e
   ·rename_i ds e2
    cases e
    obtain ⟨a1,a2⟩:=h w d e1
    obtain ⟨b1,b2⟩:=eG h e2
    refine ⟨by simp [PyData.canLayAll0,a1,b1],?_⟩
    simp only [PyData.depthAll]
    omega
theorem bV:∀(n:Nat) {w:W} {d:PyData},toD n m w=Option.some d->d.canLay0=true/\d.depth<=n
 | 0,_,_,e=>by cases e
 | n+1,w,d,e=>by
  unfold toD at e
  cases w with
  | non=>cases e; exact ⟨rfl,by simp [PyData.depth]⟩
  | bl b=>cases e; exact ⟨rfl,by simp [PyData.depth]⟩
  | int i=>cases e; exact ⟨rfl,by simp [PyData.depth]⟩
  | str x=>
   dsimp only at e
   split at e
   ·rename_i hx
    cases e
    exact ⟨hx,by simp [PyData.depth]⟩
   ·cases e
  | tup xs=>
   simp only [Option.map_eq_some_iff] at e
   obtain ⟨ds,e1,e2⟩:=e
   subst e2
   obtain ⟨a1,a2⟩:=eG (λ w d e=>bV n e) e1
   exact ⟨a1,by simp only [PyData.depth]; omega⟩
  | fz xs=>
   simp only [Option.map_eq_some_iff] at e
   obtain ⟨ds,e1,e2⟩:=e
   subst e2
   obtain ⟨a1,a2⟩:=eG (λ w d e=>bV n e) e1
   exact ⟨a1,by simp only [PyData.depth]; omega⟩
  | obj c ks vs=>cases e
  | ref k=>
   dsimp only at e
   split at e
   ·simp only [Option.map_eq_some_iff] at e
    obtain ⟨ds,e2,e3⟩:=e
    subst e3
    obtain ⟨a1,a2⟩:=eG (λ w d e=>bV n e) e2
    exact ⟨a1,by simp only [PyData.depth]; omega⟩
   ·cases e
theorem R.aa {α γ:Type} {x:R α} {f:α->Mem->R γ} {c:γ} (h:x.bind f=.ok c m'):∃a m,x=.ok a m/\f a m=.ok c m':=by
 cases x with
 | no=>cases h
 | ok a m=>exact ⟨a,m,rfl,h⟩
end
end D
end
section
namespace D
open PySem PySem.Spec PyProof.Rows L2
structure UN (X:L2.Cx) (cl:Cl):Prop where
 un:X.A.units+64 < cLine
 P:cl.P=X.prog
 w:cl.w=X.w
 gd:X.A.guards=some []
theorem bH:lim<=sizeLine:=by rw [sizeLine_eq]; decide
section
variable (X:L2.Cx) (cl:Cl)
noncomputable def SE (ev:Loc->Mem->R W):TE:=fun σ H Q=>∃β ρ m w m',Rel X.K cl β m H/\RL X.K β H ρ σ/\ev ρ m=.ok w m'/\∀β' H' v,Ext β H β' H'->Rel X.K cl β' m' H'->RW X.K β' H' w v->Q v H'
noncomputable def ST (ev:Loc->Mem->R Bool):TT:=fun σ H Q=>∃β ρ m b m',Rel X.K cl β m H/\RL X.K β H ρ σ/\ev ρ m=.ok b m'/\∀β' H',Ext β H β' H'->Rel X.K cl β' m' H'->Q b H'
noncomputable def SA (ev:Loc->Mem->R (List W)):TA:=fun σ H Q=>∃β ρ m ws m',Rel X.K cl β m H/\RL X.K β H ρ σ/\ev ρ m=.ok ws m'/\∀β' H' vs,Ext β H β' H'->Rel X.K cl β' m' H'->RWs X.K β' H' ws vs->Q vs H'
noncomputable def SOo (ev:Loc->Mem->R (Option Int)):TO:=fun σ H Q=>∃β ρ m o m',Rel X.K cl β m H/\RL X.K β H ρ σ/\ev ρ m=.ok o m'/\∀β' H',Ext β H β' H'->Rel X.K cl β' m' H'->Q o H'
noncomputable def SO2 (f:W->W->Mem->R W):R2:=λ x y H Q=>∃β m wx wy w m',Rel X.K cl β m H/\RW X.K β H wx x/\RW X.K β H wy y/\f wx wy m=.ok w m'/\∀β' H' v,Ext β H β' H'->Rel X.K cl β' m' H'->RW X.K β' H' w v->Q v H'
noncomputable def SOl (f:List W->Mem->R W):List V->Hp->VK->Prop:=λ xs H Q=>∃β m ws w m',Rel X.K cl β m H/\RWs X.K β H ws xs/\f ws m=.ok w m'/\∀β' H' v,Ext β H β' H'->Rel X.K cl β' m' H'->RW X.K β' H' w v->Q v H'
end
theorem PE.imp {X:L2.Cx} {e:Expr} {t t':TE} (h:PE X e t) (i:∀σ H Q,t' σ H Q->t σ H Q):PE X e t':=λ pins s σ H Q I q=>h pins s σ H Q I (i σ H Q q)
theorem PT.imp {X:L2.Cx} {e:Expr} {t t':TT} (h:PT X e t) (i:∀σ H Q,t' σ H Q->t σ H Q):PT X e t':=λ pins s σ H Q I q=>h pins s σ H Q I (i σ H Q q)
theorem PW.imp {X:L2.Cx} {e:Expr} {t t':TT} (h:PW X e t) (i:∀σ H Q,t' σ H Q->t σ H Q):PW X e t':=λ wh pins s σ H Q I q=>h wh pins s σ H Q I (i σ H Q q)
theorem PA.imp {X:L2.Cx} {e:List Expr} {t t':TA} (h:PA X e t) (i:∀σ H Q,t' σ H Q->t σ H Q):PA X e t':=λ pos pins s σ H Q I q=>h pos pins s σ H Q I (i σ H Q q)
theorem PO.imp {X:L2.Cx} {e:Option Expr} {t t':TO} (h:PO X e t) (i:∀σ H Q,t' σ H Q->t σ H Q):PO X e t':=λ pins s σ H Q I q=>h pins s σ H Q I (i σ H Q q)
section
variable {X:L2.Cx} {cl:Cl}
theorem uf:OpR X (binaryOp .Add) (λ x y H Q=>∃a b ys,x=.ref a/\y=.ref b/\SqT X.K H a []/\SqT X.K H b ys/\Q (.ref b) H):=by
 intro pins s σ H x y v u Q I rx ry h
 obtain ⟨a,b,ys,rfl,rfl,h1,h2,q⟩:=h
 cases rx; cases ry
 obtain ⟨its,rv,p1,_⟩:=I.tuple h1
 obtain ⟨its2,rv2,p2,_⟩:=I.tuple h2
 cases rv
 obtain ⟨⟨cls,dd,data,sl⟩,ho,hc,n,hd⟩:=id p1
 obtain ⟨⟨cls2,dd2,data2,sl2⟩,ho2,hc2,n2,hd2⟩:=id p2
 simp only at hc hd hc2 hd2
 subst hc hd hc2 hd2
 exact concat_meets ⟨_,ho,rfl⟩ ⟨_,ho2,rfl⟩ noFill_tuple_add seq_tuple_add PySem.F.slot_tuple_add PySem.F.entry_tuple_add (PySem.F.args_tuple_add_2 _ _)
   (tuple_addW0 a b _ its2.toArray n n2 dd dd2 sl sl2 (by simp)) ⟨ho,ho2,⟨.ref b,H,I,rfl,q⟩⟩
theorem xm:OpR X (binaryOp .Add) (λ x y H Q=>∃a b xs ys,x=.ref a/\y=.ref b/\SqL X.K H a xs/\SqL X.K H b ys/\xs.length+ys.length<=sizeLine/\∀p,H p=none->Q (.ref p) (upd H p (.lst (xs++ys)))):=by
 intro pins s σ H x y v u Q I rx ry h
 obtain ⟨a,b,xs,ys,rfl,rfl,h1,h2,hz,q⟩:=h
 cases rx; cases ry
 obtain ⟨its,rv,p1,_⟩:=I.list h1
 obtain ⟨its2,rv2,p2,_⟩:=I.list h2
 obtain ⟨⟨cls,dd,data,sl⟩,n,ho,hc,hdd,hd⟩:=id p1
 obtain ⟨⟨cls2,dd2,data2,sl2⟩,n2,ho2,hc2,hdd2,hd2⟩:=id p2
 simp only at hc hd hc2 hd2
 subst hc hd hc2 hd2
 have l1:=rv.length
 have l2:=rv2.length
 have ea:its.toArray++its2.toArray=(its++its2).toArray:=by simp
 refine concat_meets ⟨_,ho,rfl⟩ ⟨_,ho2,rfl⟩ noFill_list_add seq_list_add PySem.F.slot_list_add PySem.F.entry_list_add (PySem.F.args_list_add_2 _ _)
   (list_addW a b its.toArray its2.toArray n n2 dd dd2 sl sl2 (by rw [List.size_toArray,List.size_toArray]; omega)) ⟨ho,ho2,?_⟩
 rw [ea]
 exact ⟨.ref _,_,I.CH (t':=s.toks) (rv.append rv2) (by rw [List.length_append]; omega),rfl,q _ I.fresh⟩
theorem AM (op:Operator):OpR X (binaryOp op) (SO2 X cl (binop op)):=by
 intro pins s σ H x y v u Q I rx ry h
 obtain ⟨β,m,wx,wy,w,m',r,qx,qy,e,k⟩:=h
 unfold binop at e
 split at e
 ·
  split at e
  ·cases e; cases qx; cases qy
   exact z6 pins s σ H _ _ v u Q I rx ry ⟨_,_,rfl,rfl,k _ _ _ Ext.refl r (.int _)⟩
  ·rename_i xs ys
   split at e
   ·rename_i hm
    cases e
    cases qx with
    | tup h1 t1=>
     cases qy with
     | tup h2 t2=>
      rename_i a vs b us
      cases t1 with
      | nil=>exact uf pins s σ H _ _ v u Q I rx ry ⟨_,_,_,rfl,rfl,h1,h2,k _ _ _ Ext.refl r (.tup h2 (by simpa using t2))⟩
      | cons t1 tt1=>
       rename_i w1 v1 ws1 vs1
       have hl:(v1::vs1).length+us.length<=lim:=by
        rw [<-(RWs.cons t1 tt1).length,<-t2.length]; exact hm
       refine wQ pins s σ H _ _ v u Q I rx ry ⟨_,_,_,_,rfl,rfl,h1,h2,by simp,Nat.le_trans hl bH,λ z=>?_,λ z p hp=>?_⟩
       ·subst z
        cases t2
        exact k _ _ _ Ext.refl r (.tup h1 (by simpa using RWs.cons t1 tt1))
       ·obtain ⟨x',r'⟩:=r.kQ hp (v1::vs1++us)
        refine k _ _ _ x' r' (.tup (.of aB) ?_)
        exact ((RWs.cons t1 tt1).append t2).mono r x'
   ·cases e
  ·split at e
   ·rename_i hm
    cases e; cases qx; cases qy
    exact nJ pins s σ H _ _ v u Q I rx ry ⟨_,_,rfl,rfl,Nat.le_trans hm bH,k _ _ _ Ext.refl r (.str _)⟩
   ·cases e
  ·unfold t7 at e
   split at e
   ·rename_i xs ys e1 e2
    split at e
    ·rename_i hm
     cases e
     obtain ⟨a,vs,rfl,h1,t1⟩:=r.getL qx e1
     obtain ⟨b,us,rfl,h2,t2⟩:=r.getL qy e2
     refine xm pins s σ H _ _ v u Q I rx ry ⟨_,_,_,_,rfl,rfl,h1,h2,?_,λ p hp=>?_⟩
     ·rw [<-t1.length,<-t2.length]; exact Nat.le_trans hm bH
     ·obtain ⟨x',r'⟩:=r.newL hp (t1.append t2)
      exact k _ _ _ x' r' (.ref (r.last p))
    ·cases e
   ·cases e
 ·
  split at e
  ·cases e; cases qx; cases qy
   exact z7 pins s σ H _ _ v u Q I rx ry ⟨_,_,rfl,rfl,k _ _ _ Ext.refl r (.int _)⟩
  ·cases e
 ·
  split at e
  ·split at e
   ·rename_i hm
    cases e; cases qx; cases qy
    refine z8 pins s σ H _ _ v u Q I rx ry ⟨_,_,rfl,rfl,?_,k _ _ _ Ext.refl r (.int _)⟩
    simpa [gX,wu] using hm
   ·cases e
  ·cases e
 ·split at e
  ·split at e
   ·rename_i hm
    cases e; cases qx; cases qy
    exact wA pins s σ H _ _ v u Q I rx ry ⟨_,_,rfl,rfl,hm,k _ _ _ Ext.refl r (.int _)⟩
   ·cases e
  ·cases e
 ·split at e
  ·split at e
   ·rename_i hm
    cases e; cases qx; cases qy
    exact z9 pins s σ H _ _ v u Q I rx ry ⟨_,_,rfl,rfl,hm,k _ _ _ Ext.refl r (.int _)⟩
   ·cases e
  ·cases e
 ·split at e
  ·split at e
   ·rename_i hm
    cases e; cases qx; cases qy
    exact Aa pins s σ H _ _ v u Q I rx ry ⟨_,_,rfl,rfl,hm,k _ _ _ Ext.refl r (.int _)⟩
   ·cases e
  ·cases e
 ·split at e
  ·split at e
   ·rename_i hm
    cases e; cases qx; cases qy
    exact Ab pins s σ H _ _ v u Q I rx ry ⟨_,_,rfl,rfl,hm,k _ _ _ Ext.refl r (.int _)⟩
   ·cases e
  ·cases e
 ·split at e
  ·split at e
   ·rename_i hm
    cases e; cases qx; cases qy
    exact Ac pins s σ H _ _ v u Q I rx ry ⟨_,_,rfl,rfl,hm,k _ _ _ Ext.refl r (.int _)⟩
   ·cases e
  ·cases e
 ·split at e
  ·cases e; cases qx; cases qy
   exact Ad pins s σ H _ _ v u Q I rx ry ⟨_,_,rfl,rfl,k _ _ _ Ext.refl r (.int _)⟩
  ·cases e
 ·cases e
theorem CO (hu:UN X cl):OpR X (compareOp .Eq) (SO2 X cl λ x y m=>(eqW m x y).bind λ c m=>.ok (.bl c) m):=by
 intro pins s σ H x y v u Q I rx ry h
 obtain ⟨β,m,wx,wy,w,m',r,qx,qy,e,k⟩:=h
 obtain ⟨c,m1,e1,e2⟩:=R.aa e
 cases e2
 unfold eqW at e1
 split at e1
 ·rename_i d1 d2 f1 f2
  cases e1
  exact AD hu.un pins s σ H _ _ v u Q I rx ry ⟨_,_,dF r _ qx f1,dF r _ qy f2,(bV _ f1).1,(bV _ f2).1,(bV _ f1).2,k _ _ _ Ext.refl r (.bl _)⟩
 ·cases e1
theorem CP (hu:UN X cl):OpR X (compareOp .NotEq) (SO2 X cl λ x y m=>((eqW m x y).bind λ b m=>.ok (!b) m).bind λ c m=>.ok (.bl c) m):=by
 intro pins s σ H x y v u Q I rx ry h
 obtain ⟨β,m,wx,wy,w,m',r,qx,qy,e,k⟩:=h
 obtain ⟨c,m1,e1,e2⟩:=R.aa e
 cases e2
 obtain ⟨c,m1,e1,e2⟩:=R.aa e1
 cases e2
 unfold eqW at e1
 split at e1
 ·rename_i d1 d2 f1 f2
  cases e1
  exact AE hu.un pins s σ H _ _ v u Q I rx ry ⟨_,_,dF r _ qx f1,dF r _ qy f2,(bV _ f1).1,(bV _ f2).1,(bV _ f1).2,k _ _ _ Ext.refl r (.bl _)⟩
 ·cases e1
theorem gA (hu:UN X cl) (neg:Bool) {pins:List (Addr×Obj)} {s:Shared} {σ:L2.St} {H:Hp} {x y:V} {v u:Value} {Q:VK} {β:List Addr} {m m':Mem} {wx wy:W} {ys:List W} {c:Bool} (I:Inv X pins σ H s) (rx:RelV x v) (ry:RelV y u)
  (r:Rel X.K cl β m H) (qx:RW X.K β H wx x) (qy:RW X.K β H wy y) (e1:aC m wy=some ys) (e2:fX m wx ys=.ok c m') (k:m'=m->Q (.bl (if neg then !c else c)) H) :
  wpAny (model X.prog X.w) X.A (compareOp (if neg then .NotIn else .In) v u) (EP X pins σ Q) X.xe s:=by
 obtain ⟨a,vs,rfl,hs,t⟩:=r.aC qy e1
 cases ry
 unfold fX at e2
 split at e2
 ·rename_i d es f1 f2
  cases e2
  have k:=k rfl
  obtain ⟨l1,l2⟩:=bV _ f1
  obtain ⟨l3,l4⟩:=eG (λ w d e=>bV 60 e) f2
  have ds:Dts X.K H vs es:=eF (λ w v d _ q e=>dF r _ q e) t f2
  obtain ⟨as,ra⟩:=I.reads (dF r _ qx f1) rx
  have hu':X.A.units+1+min (PyData.depthAll es) d.depth < cLine:=by
   have:min (PyData.depthAll es) d.depth<=d.depth:=Nat.min_le_right _ _
   have:=hu.un
   omega
  rcases hs with hs | hs
  ·obtain ⟨bs,rb⟩:=I.reads (Dt.lst hs ds) (u:=Value.ref a) rfl
   cases neg with
   | false=>exact SeqAt.in_list_reads rb ra l3 l1 hu' ⟨.bl _,H,I,rfl,k⟩
   | true=>exact SeqAt.notIn_list_reads rb ra l3 l1 hu' ⟨.bl _,H,I,rfl,k⟩
  ·obtain ⟨bs,rb⟩:=I.reads (Dt.tup hs ds) (u:=Value.ref a) rfl
   cases neg with
   | false=>exact SeqAt.in_tuple_reads rb ra l3 l1 hu' ⟨.bl _,H,I,rfl,k⟩
   | true=>exact SeqAt.notIn_tuple_reads rb ra l3 l1 hu' ⟨.bl _,H,I,rfl,k⟩
 ·cases e2
theorem RWs.eE {K:PySem.W.Frag} {β:List Addr} {H:Hp}:∀{ws:List W} {vs:List V} {ns:List Int},RWs K β H ws vs->D.eE ws=some ns->vs=ns.map V.int
 | _,_,_,.nil,h=>by cases h; rfl
 | _,_,_,.cons (w:=w) q t,h=>by
  cases w with
  | int i=>
   simp only [D.eE,Option.map_eq_some_iff] at h
   obtain ⟨r,h1,rfl⟩:=h
   cases q
   rw [t.eE h1]; rfl
  | _=>cases h
theorem mC {K:PySem.W.Frag} {β:List Addr} {H:Hp} {w:W} {v:V} {k:L2.Key} (q:RW K β H w v) (e:t8 w=some k):v=kV k:=by
 cases q with
 | int i=>cases e; rfl
 | str x=>cases e; rfl
 | _=>cases e
theorem CQ (hu:UN X cl):OpR X (compareOp .In) (SO2 X cl λ x y m=>(kM m x y).bind λ c m=>.ok (.bl c) m):=by
 rintro pins s σ H x y v u Q I rx ry ⟨β,m,wx,wy,w,m',r,qx,qy,e,k⟩
 obtain ⟨c,m1,e1,e2⟩:=R.aa e
 cases e2
 unfold kM at e1
 split at e1
 ·split at e1
  ·cases e1; cases qx; cases qy
   exact qM pins s σ H _ _ v u Q I rx ry ⟨_,_,rfl,rfl,k _ _ _ Ext.refl r (.bl _)⟩
  ·cases e1
 ·rename_i n
  split at e1
  ·rename_i ys e0
   exact gA hu false I rx ry r qx qy (by simp [aC,getL,e0]) e1 λ z=>by subst z; exact k _ _ _ Ext.refl r (.bl _)
  ·rename_i ks e0
   split at e1
   ·rename_i kk e3
    cases e1
    cases qy with
    | ref hb=>
     obtain ⟨S,hS,hk⟩:=r.obj e0 hb
     rw [hu.P,hu.w] at hS
     refine qY pins s σ H _ _ v u Q I rx ry ⟨_,S,_,kk,rfl,mC qx e3,hS,?_⟩
     rw [hk]
     exact k _ _ _ Ext.refl r (.bl _)
   ·cases e1
  ·cases e1
 ·exact gA hu false I rx ry r qx qy rfl e1 λ z=>by subst z; exact k _ _ _ Ext.refl r (.bl _)
 ·exact gA hu false I rx ry r qx qy rfl e1 λ z=>by subst z; exact k _ _ _ Ext.refl r (.bl _)
 ·cases e1
theorem pR {K:PySem.W.Frag} {β:List Addr} {H:Hp} {w:W} {v:V} (q:RW K β H w v):decide (v=.non)=pO w:=by
 cases q<;>first | rfl | exact decide_eq_false (λ z=>nomatch z)
theorem gB (hu:UN X cl) (op:CmpOp):OpR X (compareOp op) (SO2 X cl λ x y m=>(aq op x y m).bind λ c m=>.ok (.bl c) m):=by
 cases op with
 | Eq=>exact CO hu
 | NotEq=>exact CP hu
 | Lt=>
  rintro pins s σ H x y v u Q I rx ry ⟨β,m,wx,wy,w,m',r,qx,qy,e,k⟩
  obtain ⟨c,m1,e1,e2⟩:=R.aa e
  cases e2
  unfold aq at e1
  dsimp only at e1
  split at e1
  ·cases e1; cases qx; cases qy
   exact Cr pins s σ H _ _ v u Q I rx ry ⟨_,_,rfl,rfl,k _ _ _ Ext.refl r (.bl _)⟩
  ·cases e1; cases qx; cases qy
   exact qL pins s σ H _ _ v u Q I rx ry ⟨_,_,rfl,rfl,k _ _ _ Ext.refl r (.bl _)⟩
  ·cases e1
 | LtE=>
  rintro pins s σ H x y v u Q I rx ry ⟨β,m,wx,wy,w,m',r,qx,qy,e,k⟩
  obtain ⟨c,m1,e1,e2⟩:=R.aa e
  cases e2
  unfold aq at e1
  dsimp only at e1
  split at e1
  ·cases e1; cases qx; cases qy
   exact Ct pins s σ H _ _ v u Q I rx ry ⟨_,_,rfl,rfl,k _ _ _ Ext.refl r (.bl _)⟩
  ·cases e1; cases qx; cases qy
   exact qZ pins s σ H _ _ v u Q I rx ry ⟨_,_,rfl,rfl,k _ _ _ Ext.refl r (.bl _)⟩
  ·cases e1
 | Gt=>
  rintro pins s σ H x y v u Q I rx ry ⟨β,m,wx,wy,w,m',r,qx,qy,e,k⟩
  obtain ⟨c,m1,e1,e2⟩:=R.aa e
  cases e2
  unfold aq at e1
  dsimp only at e1
  split at e1
  ·cases e1; cases qx; cases qy
   exact Cu pins s σ H _ _ v u Q I rx ry ⟨_,_,rfl,rfl,k _ _ _ Ext.refl r (.bl _)⟩
  ·cases e1
 | GtE=>
  rintro pins s σ H x y v u Q I rx ry ⟨β,m,wx,wy,w,m',r,qx,qy,e,k⟩
  obtain ⟨c,m1,e1,e2⟩:=R.aa e
  cases e2
  unfold aq at e1
  dsimp only at e1
  split at e1
  ·cases e1; cases qx; cases qy
   exact Cv pins s σ H _ _ v u Q I rx ry ⟨_,_,rfl,rfl,k _ _ _ Ext.refl r (.bl _)⟩
  ·cases e1
 | Is=>
  rintro pins s σ H x y v u Q I rx ry ⟨β,m,wx,wy,w,m',r,qx,qy,e,k⟩
  obtain ⟨c,m1,e1,e2⟩:=R.aa e
  cases e2
  unfold aq at e1
  dsimp only at e1
  split at e1
  ·cases e1; cases qy
   refine Af pins s σ H _ _ v u Q I rx ry ⟨rfl,?_⟩
   rw [pR qx]
   exact k _ _ _ Ext.refl r (.bl _)
  ·cases e1
 | IsNot=>
  rintro pins s σ H x y v u Q I rx ry ⟨β,m,wx,wy,w,m',r,qx,qy,e,k⟩
  obtain ⟨c,m1,e1,e2⟩:=R.aa e
  cases e2
  unfold aq at e1
  dsimp only at e1
  split at e1
  ·cases e1; cases qy
   refine wB pins s σ H _ _ v u Q I rx ry ⟨rfl,?_⟩
   rw [pR qx]
   exact k _ _ _ Ext.refl r (.bl _)
  ·cases e1
 | In=>exact CQ hu
 | NotIn=>
  rintro pins s σ H x y v u Q I rx ry ⟨β,m,wx,wy,w,m',r,qx,qy,e,k⟩
  obtain ⟨c,m1,e1,e2⟩:=R.aa e
  cases e2
  unfold aq at e1
  dsimp only at e1
  split at e1
  ·rename_i n
   split at e1
   ·rename_i ys e0
    obtain ⟨c',m2,e3,e4⟩:=R.aa e1
    cases e4
    exact gA hu true I rx ry r qx qy (by simp [aC,getL,e0]) e3 λ z=>by subst z; exact k _ _ _ Ext.refl r (.bl _)
   ·cases e1
  ·obtain ⟨c',m2,e3,e4⟩:=R.aa e1
   cases e4
   exact gA hu true I rx ry r qx qy rfl e3 λ z=>by subst z; exact k _ _ _ Ext.refl r (.bl _)
  ·obtain ⟨c',m2,e3,e4⟩:=R.aa e1
   cases e4
   exact gA hu true I rx ry r qx qy rfl e3 λ z=>by subst z; exact k _ _ _ Ext.refl r (.bl _)
  ·cases e1
theorem xo {K:PySem.W.Frag} {β:List Addr} {H:Hp} {ws:List W} {vs:List V} {i:Int} {w:W} (t:RWs K β H ws vs) (e:atI ws i=some w):∃v,atI vs i=some v/\RW K β H w v:=by
 unfold atI at e ⊢
 rw [<-t.length]
 cases h:ixN ws.length i with
 | none=>rw [h] at e; cases e
 | some j=>rw [h] at e; exact t.get e
theorem AN:IxR X (SO2 X cl aQ):=by
 intro value slice pins s σ H x y v u Q I rx ry h hs
 obtain ⟨β,m,wx,wy,w,m',r,qx,qy,e,k⟩:=h
 unfold aQ at e
 split at e
 ·rename_i i
  split at e
  ·split at e
   ·rename_i hl
    split at e
    ·rename_i c e2
     cases e; cases qx; cases qy
     exact Aq value slice pins s σ H _ _ v u Q I rx ry ⟨_,_,_,rfl,rfl,Nat.le_trans hl bH,e2,k _ _ _ Ext.refl r (.str _)⟩ hs
    ·cases e
   ·cases e
  ·split at e
   ·rename_i ws e1
    split at e
    ·rename_i w' e2
     cases e; cases qy
     obtain ⟨a,vs,rfl,hq,t⟩:=r.aC qx e1
     obtain ⟨z,e3,qz⟩:=xo t e2
     rcases hq with hq | hq
     ·exact wR value slice pins s σ H _ _ v u Q I rx ry ⟨_,_,_,_,rfl,rfl,hq,e3,k _ _ _ Ext.refl r qz⟩ hs
     ·exact Ao value slice pins s σ H _ _ v u Q I rx ry ⟨_,_,_,_,rfl,rfl,hq,e3,k _ _ _ Ext.refl r qz⟩ hs
    ·cases e
   ·cases e
 ·cases e
end
end D
end
section
namespace D
open PySem PySem.Spec PyProof.Rows L2
section
variable {X:L2.Cx} {cl:Cl} {C:D.Cx} {pos:Pos}
theorem ug {i:Nat} {x:Str} (hN:X.N[i]?=some x) (hv:Vis X.env.scope x) (hd:(x==("__debug__":Str))=false) (hcd:(x==("__classdict__":Str))=false):PE X (.Name x pos) (SE X cl (evE C (.var i))):=by
 refine PE.imp (zF hN hv hd hcd) ?_
 rintro σ H Q ⟨β,ρ,m,w,m',r,l,e,k⟩
 simp only [evE] at e
 split at e
 ·rename_i w' e1
  cases e
  obtain ⟨v,e2,q⟩:=l.at_ e1
  exact ⟨v,e2,k _ _ _ Ext.refl r q⟩
 ·cases e
theorem CS {i:Int} {j:Nat}:PE X (.Constant (.int i) j pos) (SE X cl (evE C (.cst (.int i)))):=by
 refine PE.imp zG ?_
 rintro σ H Q ⟨β,ρ,m,w,m',r,l,e,k⟩
 simp only [evE] at e
 cases e
 exact k _ _ _ Ext.refl r (.int i)
theorem EJ {i:Bool} {j:Nat}:PE X (.Constant (.bool i) j pos) (SE X cl (evE C (.cst (.bl i)))):=by
 refine PE.imp B0 ?_
 rintro σ H Q ⟨β,ρ,m,w,m',r,l,e,k⟩
 simp only [evE] at e
 cases e
 exact k _ _ _ Ext.refl r (.bl i)
theorem CT {j:Nat}:PE X (.Constant .none j pos) (SE X cl (evE C (.cst .non))):=by
 refine PE.imp sI ?_
 rintro σ H Q ⟨β,ρ,m,w,m',r,l,e,k⟩
 simp only [evE] at e
 cases e
 exact k _ _ _ Ext.refl r .non
theorem CU {x:Str} {j:Nat}:PE X (.Constant (.str x) j pos) (SE X cl (evE C (.cst (.str x)))):=by
 refine PE.imp zH ?_
 rintro σ H Q ⟨β,ρ,m,w,m',r,l,e,k⟩
 simp only [evE] at e
 cases e
 exact k _ _ _ Ext.refl r (.str x)
theorem CV {x:Str} {w:W} (hg:Gl X x) (h:∃u v,X.mg x=some u/\RelV v u/\∀β H,RW X.K β H w v) (hd:(x==("__debug__":Str))=false):PE X (.Name x pos) (SE X cl (evE C (.cst w))):=by
 obtain ⟨u,v,h1,h2,h3⟩:=h
 refine PE.imp (vY hg h1 h2 hd) ?_
 rintro σ H Q ⟨β,ρ,m,w,m',r,l,e,k⟩
 simp only [evE] at e
 cases e
 exact k _ _ _ Ext.refl r (h3 _ _)
variable {a b c:Expr} {da db dc:E}
theorem CW {op:Operator} (ha:PE X a (SE X cl (evE C da))) (hb:PE X b (SE X cl (evE C db))):PE X (.BinOp a op b pos) (SE X cl (evE C (.bin op da db))):=by
 refine PE.imp (Ck (AM (cl:=cl) op) ha hb) ?_
 rintro σ H Q ⟨β,ρ,m,w,m',r,l,e,k⟩
 simp only [evE] at e
 obtain ⟨x,m1,e1,e⟩:=R.aa e
 obtain ⟨y,m2,e2,e⟩:=R.aa e
 refine ⟨β,ρ,m,x,m1,r,l,e1,fun β1 H1 v1 x1 r1 q1=>?_⟩
 refine ⟨β1,ρ,m1,y,m2,r1,l.mono r x1,e2,fun β2 H2 v2 x2 r2 q2=>?_⟩
 exact ⟨β2,m2,x,y,w,m',r2,q1.mono r1 x2,q2,e,fun β3 H3 v x3 r3 q3=>k β3 H3 v ((x1.trans r1 x2).trans r2 x3) r3 q3⟩
theorem CY {op:CmpOp} (hu:UN X cl) (ha:PE X a (SE X cl (evE C da))) (hb:PE X b (SE X cl (evE C db))) (hm:behindInMarks op b=false):PE X (.Compare a [op] [b] pos) (SE X cl (evE C (.cmp op da db))):=by
 refine PE.imp (wC (gB (cl:=cl) hu op) ha hb hm) ?_
 rintro σ H Q ⟨β,ρ,m,w,m',r,l,e,k⟩
 simp only [evE] at e
 obtain ⟨x,m1,e1,e⟩:=R.aa e
 obtain ⟨y,m2,e2,e⟩:=R.aa e
 refine ⟨β,ρ,m,x,m1,r,l,e1,fun β1 H1 v1 x1 r1 q1=>?_⟩
 refine ⟨β1,ρ,m1,y,m2,r1,l.mono r x1,e2,fun β2 H2 v2 x2 r2 q2=>?_⟩
 exact ⟨β2,m2,x,y,w,m',r2,q1.mono r1 x2,q2,e,fun β3 H3 v x3 r3 q3=>k β3 H3 v ((x1.trans r1 x2).trans r2 x3) r3 q3⟩
theorem CZ {op:CmpOp} (hu:UN X cl) (ha:PE X a (SE X cl (evE C da))) (hb:PE X b (SE X cl (evE C db))) (hm:behindInMarks op b=false):PT X (.Compare a [op] [b] pos) (ST X cl (evT C (.cmp op da db))):=by
 refine PT.imp (wD (gB (cl:=cl) hu op) ha hb hm) ?_
 rintro σ H Q ⟨β,ρ,m,w,m',r,l,e,k⟩
 simp only [evT] at e
 obtain ⟨x,m1,e1,e⟩:=R.aa e
 obtain ⟨y,m2,e2,e⟩:=R.aa e
 refine ⟨β,ρ,m,x,m1,r,l,e1,fun β1 H1 v1 x1 r1 q1=>?_⟩
 refine ⟨β1,ρ,m1,y,m2,r1,l.mono r x1,e2,fun β2 H2 v2 x2 r2 q2=>?_⟩
 refine ⟨β2,m2,x,y,.bl w,m',r2,q1.mono r1 x2,q2,by dsimp only; rw [e]; rfl,fun β3 H3 v x3 r3 q3=>?_⟩
 cases q3
 exact ⟨w,rfl,k β3 H3 ((x1.trans r1 x2).trans r2 x3) r3⟩
theorem C0 (ha:PE X a (SE X cl (evE C da))):PE X (.UnaryOp .USub a pos) (SE X cl (evE C (.neg da))):=by
 refine PE.imp (Co Ae ha) ?_
 rintro σ H Q ⟨β,ρ,m,w,m',r,l,e,k⟩
 simp only [evE] at e
 obtain ⟨x,m1,e1,e⟩:=R.aa e
 refine ⟨β,ρ,m,x,m1,r,l,e1,fun β1 H1 v1 x1 r1 q1=>?_⟩
 split at e
 ·cases e; cases q1
  exact ⟨_,rfl,k _ _ _ x1 r1 (.int _)⟩
 ·cases e
theorem C1 (ha:PE X a (SE X cl (evE C da))):PE X (.UnaryOp .Not a pos) (SE X cl (evE C (.not da))):=by
 refine PE.imp (zM ha) ?_
 rintro σ H Q ⟨β,ρ,m,w,m',r,l,e,k⟩
 simp only [evE] at e
 obtain ⟨x,m1,e1,e⟩:=R.aa e
 refine ⟨β,ρ,m,x,m1,r,l,e1,fun β1 H1 v1 x1 r1 q1=>?_⟩
 split at e
 ·cases e; cases q1
  exact ⟨_,rfl,k _ _ _ x1 r1 (.bl _)⟩
 ·cases e
theorem C2 (ha:PT X a (ST X cl (evT C da))):PT X (.UnaryOp .Not a pos) (ST X cl (evT C (.not da))):=by
 refine PT.imp (zK ha) ?_
 rintro σ H Q ⟨β,ρ,m,w,m',r,l,e,k⟩
 simp only [evT] at e
 obtain ⟨x,m1,e1,e⟩:=R.aa e
 cases e
 exact ⟨β,ρ,m,x,_,r,l,e1,fun β1 H1 x1 r1=>k _ _ x1 r1⟩
variable {rest:List Expr}
theorem C3 (ha:PE X a (SE X cl (evE C da))) (hb:PE X (.BoolOp .And (b::rest) pos) (SE X cl (evE C db))):PE X (.BoolOp .And (a::b::rest) pos) (SE X cl (evE C (.and da db))):=by
 refine PE.imp (zL ha hb) ?_
 rintro σ H Q ⟨β,ρ,m,w,m',r,l,e,k⟩
 simp only [evE] at e
 obtain ⟨x,m1,e1,e⟩:=R.aa e
 refine ⟨β,ρ,m,x,m1,r,l,e1,fun β1 H1 v1 x1 r1 q1=>?_⟩
 split at e
 ·rename_i c
  cases q1
  refine ⟨c,rfl,?_⟩
  split at e
  ·rename_i hc
   rw [if_pos hc]
   exact ⟨β1,ρ,m1,w,m',r1,l.mono r x1,e,fun β2 H2 v2 x2 r2 q2=>k _ _ _ (x1.trans r1 x2) r2 q2⟩
  ·rename_i hc
   rw [if_neg hc]
   cases e
   exact k _ _ _ x1 r1 (.bl _)
 ·cases e
theorem EK (ha:PE X a (SE X cl (evE C da))) (hb:PE X (.BoolOp .Or (b::rest) pos) (SE X cl (evE C db))):PE X (.BoolOp .Or (a::b::rest) pos) (SE X cl (evE C (.or da db))):=by
 refine PE.imp (B6 ha hb) ?_
 rintro σ H Q ⟨β,ρ,m,w,m',r,l,e,k⟩
 simp only [evE] at e
 obtain ⟨x,m1,e1,e⟩:=R.aa e
 refine ⟨β,ρ,m,x,m1,r,l,e1,fun β1 H1 v1 x1 r1 q1=>?_⟩
 split at e
 ·rename_i c
  cases q1
  refine ⟨c,rfl,?_⟩
  split at e
  ·rename_i hc
   rw [if_pos hc]
   cases e
   exact k _ _ _ x1 r1 (.bl _)
  ·rename_i hc
   rw [if_neg hc]
   exact ⟨β1,ρ,m1,w,m',r1,l.mono r x1,e,fun β2 H2 v2 x2 r2 q2=>k _ _ _ (x1.trans r1 x2) r2 q2⟩
 ·cases e
theorem w_and (ha:PT X a (ST X cl (evT C da))) (hb:PW X (.BoolOp .And (b::rest) pos) (ST X cl (evT C db))):PW X (.BoolOp .And (a::b::rest) pos) (ST X cl (evT C (.and da db))):=by
 refine PW.imp (zJ ha hb) ?_
 rintro σ H Q ⟨β,ρ,m,w,m',r,l,e,k⟩
 simp only [evT] at e
 obtain ⟨x,m1,e1,e⟩:=R.aa e
 refine ⟨β,ρ,m,x,m1,r,l,e1,fun β1 H1 x1 r1=>?_⟩
 split at e
 ·rename_i hc
  rw [if_pos hc]
  exact ⟨β1,ρ,m1,w,m',r1,l.mono r x1,e,fun β2 H2 x2 r2=>k _ _ (x1.trans r1 x2) r2⟩
 ·rename_i hc
  rw [if_neg hc]
  cases e
  exact k _ _ x1 r1
theorem w_or (ha:PT X a (ST X cl (evT C da))) (hb:PW X (.BoolOp .Or (b::rest) pos) (ST X cl (evT C db))):PW X (.BoolOp .Or (a::b::rest) pos) (ST X cl (evT C (.or da db))):=by
 refine PW.imp (B3 ha hb) ?_
 rintro σ H Q ⟨β,ρ,m,w,m',r,l,e,k⟩
 simp only [evT] at e
 obtain ⟨x,m1,e1,e⟩:=R.aa e
 refine ⟨β,ρ,m,x,m1,r,l,e1,fun β1 H1 x1 r1=>?_⟩
 split at e
 ·rename_i hc
  rw [if_pos hc]
  cases e
  exact k _ _ x1 r1
 ·rename_i hc
  rw [if_neg hc]
  exact ⟨β1,ρ,m1,w,m',r1,l.mono r x1,e,fun β2 H2 x2 r2=>k _ _ (x1.trans r1 x2) r2⟩
theorem rG {K:PySem.W.Frag} {β:List Addr} {m m':Mem} {H:Hp} {w:W} {v:V} {b:Bool} (r:Rel K cl β m H) (q:RW K β H w v) (e:truthy m w=.ok b m'):m'=m/\Ag K v H b:=by
 cases q with
 | non=>cases e; exact ⟨rfl,rfl⟩
 | bl c=>cases e; exact ⟨rfl,rfl⟩
 | int i=>cases e; exact ⟨rfl,rfl⟩
 | str x=>
  simp only [truthy] at e
  split at e
  ·rename_i h
   cases e
   exact ⟨rfl,Nat.le_trans h bH,rfl⟩
  ·cases e
 | tup h t=>
  cases e
  refine ⟨rfl,.inr (.inl ⟨_,h,?_⟩)⟩
  cases t<;>rfl
 | fz h t=>
  cases e
  refine ⟨rfl,.inl ⟨_,h.l,?_⟩⟩
  cases t<;>rfl
 | obj h e0 t=>cases e
 | ref h=>
  simp only [truthy] at e
  split at e
  ·rename_i xs e1
   cases e
   obtain ⟨a,vs,z,hs,t⟩:=r.getL (.ref h) e1
   cases z
   refine ⟨rfl,.inl ⟨_,hs,?_⟩⟩
   cases t<;>rfl
  ·cases e
theorem yQ (ha:PE X a (SE X cl (evE C da))) (he:∀whole,isTrue a X.env whole=(do let v <-whole; standAt a.pos; holding [v] (PySem.truthy v))) (hd:∀ρ m,evT C da ρ m=(evE C da ρ m).bind λ w m=>D.truthy m w):PT X a (ST X cl (evT C da)):=by
 refine PT.imp (sU ha he) ?_
 rintro σ H Q ⟨β,ρ,m,w,m',r,l,e,k⟩
 rw [hd] at e
 obtain ⟨x,m1,e1,e⟩:=R.aa e
 refine ⟨β,ρ,m,x,m1,r,l,e1,fun β1 H1 v1 x1 r1 q1=>?_⟩
 obtain ⟨rfl,z⟩:=rG r1 q1 e
 exact ⟨w,z,k _ _ x1 r1⟩
theorem C4 {t:Expr} {dt:E} (ht:PT X t (ST X cl (evT C dt))) (ha:PE X a (SE X cl (evE C da))) (hb:PE X b (SE X cl (evE C db))):PE X (.IfExp t a b pos) (SE X cl (evE C (.ife dt da db))):=by
 refine PE.imp (sL ht ha hb) ?_
 rintro σ H Q ⟨β,ρ,m,w,m',r,l,e,k⟩
 simp only [evE] at e
 obtain ⟨x,m1,e1,e⟩:=R.aa e
 refine ⟨β,ρ,m,x,m1,r,l,e1,fun β1 H1 x1 r1=>?_⟩
 split at e
 ·rename_i hc
  rw [if_pos hc]
  exact ⟨β1,ρ,m1,w,m',r1,l.mono r x1,e,fun β2 H2 v2 x2 r2 q2=>k _ _ _ (x1.trans r1 x2) r2 q2⟩
 ·rename_i hc
  rw [if_neg hc]
  exact ⟨β1,ρ,m1,w,m',r1,l.mono r x1,e,fun β2 H2 v2 x2 r2 q2=>k _ _ _ (x1.trans r1 x2) r2 q2⟩
theorem xq {o1 o2:CmpOp} (hu:UN X cl) (ha:PE X a (SE X cl (evE C da))) (hb:PE X b (SE X cl (evE C db))) (hc:PE X c (SE X cl (evE C dc)))
  (h:PE X (.Compare a [o1,o2] [b,c] pos) (nF (SO2 X cl λ x y m=>(aq o1 x y m).bind λ c m=>.ok (.bl c) m) (SO2 X cl λ x y m=>(aq o2 x y m).bind λ c m=>.ok (.bl c) m) (SE X cl (evE C da)) (SE X cl (evE C db)) (SE X cl (evE C dc)))) :
  PE X (.Compare a [o1,o2] [b,c] pos) (SE X cl (evE C (.chain o1 o2 da db dc))):=by
 refine PE.imp h ?_
 rintro σ H Q ⟨β,ρ,m,w,m',r,l,e,k⟩
 simp only [evE] at e
 obtain ⟨x,m1,e1,e⟩:=R.aa e
 obtain ⟨y,m2,e2,e⟩:=R.aa e
 obtain ⟨z,m3,e3,e⟩:=R.aa e
 refine ⟨β,ρ,m,x,m1,r,l,e1,fun β1 H1 v1 x1 r1 q1=>?_⟩
 refine ⟨β1,ρ,m1,y,m2,r1,l.mono r x1,e2,fun β2 H2 v2 x2 r2 q2=>?_⟩
 have l2:=(l.mono r x1).mono r1 x2
 refine ⟨β2,m2,x,y,.bl z,m3,r2,q1.mono r1 x2,q2,by dsimp only; rw [e3]; rfl,fun β3 H3 v3 x3 r3 q3=>?_⟩
 cases q3
 refine ⟨z,rfl,?_⟩
 have x03:=(x1.trans r1 x2).trans r2 x3
 split at e
 ·rename_i hc
  rw [if_pos hc]
  obtain ⟨u,m4,e4,e⟩:=R.aa e
  refine ⟨β3,ρ,m3,u,m4,r3,l2.mono r2 x3,e4,fun β4 H4 v4 x4 r4 q4=>?_⟩
  exact ⟨β4,m4,y,u,w,m',r4,(q2.mono r2 x3).mono r3 x4,q4,e,fun β5 H5 v5 x5 r5 q5=>k _ _ _ ((x03.trans r3 x4).trans r4 x5) r5 q5⟩
 ·rename_i hc
  rw [if_neg hc]
  cases e
  exact k _ _ _ x03 r3 (.bl _)
theorem yR:PA X [] (SA X cl (aI C .nil)):=by
 refine PA.imp dS ?_
 rintro σ H Q ⟨β,ρ,m,w,m',r,l,e,k⟩
 simp only [aI] at e
 cases e
 exact k _ _ _ Ext.refl r .nil
theorem oF {es:List Expr} {d:E} {ds:Es} (ha:PE X a (SE X cl (evE C d))) (hr:PA X es (SA X cl (aI C ds))) (hs:starEach (a::es) X.env=(false,eval a X.env)::starEach es X.env):PA X (a::es) (SA X cl (aI C (.cons d ds))):=by
 refine PA.imp (bU ha hr hs) ?_
 rintro σ H Q ⟨β,ρ,m,w,m',r,l,e,k⟩
 simp only [aI] at e
 obtain ⟨x,m1,e1,e⟩:=R.aa e
 obtain ⟨y,m2,e2,e⟩:=R.aa e
 cases e
 refine ⟨β,ρ,m,x,m1,r,l,e1,fun β1 H1 v1 x1 r1 q1=>?_⟩
 exact ⟨β1,ρ,m1,y,_,r1,l.mono r x1,e2,fun β2 H2 v2 x2 r2 q2=>k _ _ _ (x1.trans r1 x2) r2 (.cons (q1.mono r1 x2) q2)⟩
theorem C5 {es:List Expr} {ds:Es} {x1} (ha:PA X es (SA X cl (aI C ds))):PE X (.Tuple es x1 pos) (SE X cl (evE C (.tup ds))):=by
 refine PE.imp (Aj ha) ?_
 rintro σ H Q ⟨β,ρ,m,w,m',r,l,e,k⟩
 simp only [evE] at e
 obtain ⟨x,m1,e1,e⟩:=R.aa e
 split at e
 ·rename_i hl
  cases e
  refine ⟨β,ρ,m,x,_,r,l,e1,fun β1 H1 v1 x1 r1 q1=>⟨by rw [<-q1.length]; exact Nat.le_trans hl bH,λ p hp=>?_⟩⟩
  obtain ⟨x2,r2⟩:=r1.kQ hp v1
  exact k _ _ _ (x1.trans r1 x2) r2 (.tup (.of aB) (q1.mono r1 x2))
 ·cases e
theorem C6 {es:List Expr} {ds:Es} (ha:PA X es (SA X cl (aI C ds))):PE X (.List es pos) (SE X cl (evE C (.lst ds))):=by
 refine PE.imp (Ak ha) ?_
 rintro σ H Q ⟨β,ρ,m,w,m',r,l,e,k⟩
 simp only [evE] at e
 obtain ⟨x,m1,e1,e⟩:=R.aa e
 split at e
 ·rename_i hl
  cases e
  refine ⟨β,ρ,m,x,_,r,l,e1,fun β1 H1 v1 x1 r1 q1=>⟨by rw [<-q1.length]; exact Nat.le_trans hl bH,λ p hp=>?_⟩⟩
  obtain ⟨x2,r2⟩:=r1.newL hp q1
  exact k _ _ _ (x1.trans r1 x2) r2 (.ref (r1.last p))
 ·cases e
theorem C7 (ha:PE X a (SE X cl (evE C da))) (hb:PE X b (SE X cl (evE C db))) (hs:kF b):PE X (.Subscript a b pos) (SE X cl (evE C (.idx da db))):=by
 refine PE.imp (CD (AN (cl:=cl)) ha hb hs) ?_
 rintro σ H Q ⟨β,ρ,m,w,m',r,l,e,k⟩
 simp only [evE] at e
 obtain ⟨x,m1,e1,e⟩:=R.aa e
 obtain ⟨y,m2,e2,e⟩:=R.aa e
 refine ⟨β,ρ,m,x,m1,r,l,e1,fun β1 H1 v1 x1 r1 q1=>?_⟩
 refine ⟨β1,ρ,m1,y,m2,r1,l.mono r x1,e2,fun β2 H2 v2 x2 r2 q2=>?_⟩
 exact ⟨β2,m2,x,y,w,m',r2,q1.mono r1 x2,q2,e,fun β3 H3 v x3 r3 q3=>k β3 H3 v ((x1.trans r1 x2).trans r2 x3) r3 q3⟩
theorem AO:PO X none (SOo X cl (evO C .none)):=by
 refine PO.imp wN ?_
 rintro σ H Q ⟨β,ρ,m,w,m',r,l,e,k⟩
 simp only [evO] at e
 cases e
 exact k _ _ Ext.refl r
theorem AQ (ha:PE X a (SE X cl (evE C da))):PO X (some a) (SOo X cl (evO C (.some da))):=by
 refine PO.imp (wO ha) ?_
 rintro σ H Q ⟨β,ρ,m,w,m',r,l,e,k⟩
 simp only [evO] at e
 obtain ⟨x,m1,e1,e⟩:=R.aa e
 refine ⟨β,ρ,m,x,m1,r,l,e1,fun β1 H1 v1 x1 r1 q1=>?_⟩
 split at e
 ·cases e; cases q1
  exact ⟨_,rfl,k _ _ x1 r1⟩
 ·cases e
theorem pS {K:PySem.W.Frag} {β:List Addr} {H:Hp} {ws:List W} {vs:List V} {lo hi:Option Int} (t:RWs K β H ws vs):RWs K β H (kN ws lo hi) (kC vs lo hi):=by
 unfold kN kC
 rw [<-t.length]
 exact (t.drop _).take _
theorem AR:SlR X (λ x lo hi H Q=>∃β m wx w m',Rel X.K cl β m H/\RW X.K β H wx x/\fY wx lo hi m=.ok w m'/\∀β' H' v,Ext β H β' H'->Rel X.K cl β' m' H'->RW X.K β' H' w v->Q v H'):=by
 intro pins s σ H x v vl vu lo hi sl Q I rx hs pl pu h
 obtain ⟨β,m,wx,w,m',r,q,e,k⟩:=h
 unfold fY at e
 split at e
 ·cases e
  cases q with
  | tup h t=>
   rename_i xs a vs
   by_cases hw:HT.sIx vs.length 0 lo=0/\HT.sIx vs.length vs.length hi=vs.length
   ·refine xj pins s σ H _ v vl vu lo hi sl Q I rx hs pl pu ⟨_,_,rfl,h,hw,k _ _ _ Ext.refl r ?_⟩
    have:kN xs lo hi=xs:=by
     unfold kN
     rw [t.length,hw.1,hw.2,<-t.length]
     simp
    rw [this]
    exact .tup h t
   ·refine An pins s σ H _ v vl vu lo hi sl Q I rx hs pl pu ⟨_,_,rfl,h,hw,λ p hp=>?_⟩
    obtain ⟨x2,r2⟩:=r.kQ hp (kC _ lo hi)
    exact k _ _ _ x2 r2 (.tup (.of aB) ((pS t).mono r x2))
 ·split at e
  ·rename_i hl
   cases e; cases q
   exact AI pins s σ H _ v vl vu lo hi sl Q I rx hs pl pu ⟨_,rfl,Nat.le_trans hl bH,k _ _ _ Ext.refl r (.str _)⟩
  ·cases e
 ·split at e
  ·rename_i xs e1
   cases e
   obtain ⟨a,vs,rfl,hs',t⟩:=r.getL q e1
   refine wU pins s σ H _ v vl vu lo hi sl Q I rx hs pl pu ⟨_,_,rfl,hs',λ p hp=>?_⟩
   obtain ⟨x2,r2⟩:=r.newL hp (pS t)
   exact k _ _ _ x2 r2 (.ref (r.last p))
  ·cases e
theorem C8 {lo hi:Option Expr} {dl dh:Oe} {p2:Pos} (ha:PE X a (SE X cl (evE C da))) (hl:PO X lo (SOo X cl (evO C dl))) (hh:PO X hi (SOo X cl (evO C dh))):PE X (.Subscript a (.Slice lo hi none p2) pos) (SE X cl (evE C (.slc da dl dh))):=by
 refine PE.imp (tw (AR (cl:=cl)) ha hl hh) ?_
 rintro σ H Q ⟨β,ρ,m,w,m',r,l,e,k⟩
 simp only [evE] at e
 obtain ⟨x,m1,e1,e⟩:=R.aa e
 obtain ⟨y,m2,e2,e⟩:=R.aa e
 obtain ⟨z,m3,e3,e⟩:=R.aa e
 refine ⟨β,ρ,m,x,m1,r,l,e1,fun β1 H1 v1 x1 r1 q1=>?_⟩
 refine ⟨β1,ρ,m1,y,m2,r1,l.mono r x1,e2,fun β2 H2 x2 r2=>?_⟩
 refine ⟨β2,ρ,m2,z,m3,r2,(l.mono r x1).mono r1 x2,e3,fun β3 H3 x3 r3=>?_⟩
 exact ⟨β3,m3,x,w,m',r3,(q1.mono r1 x2).mono r2 x3,e,fun β4 H4 v x4 r4 q4=>k _ _ _ (((x1.trans r1 x2).trans r2 x3).trans r3 x4) r4 q4⟩
end
end D
end
section
namespace D
open PySem PySem.Spec PyProof.Rows L2 PySem.W
theorem pT {α:Type} {cmp:Nat->Nat->(Bool->Shared->Prop)->Shared->Prop} {n:Nat} {ans:Nat->Nat->Bool} {s:Shared} (hc:∀i j (Q:Bool->Shared->Prop),i < n->j < n->Q (ans i j) s->cmp i j Q s) {Q:α->Shared->Prop}:∀{t:KasT α} {a:α},t9 n ans t=some a->Q a s->t.kasWp cmp Q s
 | .ret a,_,h,q=>by cases h; exact q
 | .ask i j k,a,h,q=>by
  unfold t9 at h
  split at h
  ·rename_i hij
   exact hc i j _ hij.1 hij.2 (pT hc h q)
  ·cases h
noncomputable def TIs (K:PySem.W.Frag) (H:Hp) (v:V) (ns:List Int):Prop:=∃a,v=.ref a/\SqT K H a (ns.map V.int)
section
variable {X:L2.Cx}
theorem mD {prog:Program} {w:World} {A:Around} {Q:Bool->Shared->Prop} {s:Shared} {fin:Bool}:∀{us ws:List Value} {ns ms:List Int} {i:Nat},IntsAre us ns->IntsAre ws ms->ns.length=ms.length->fin=false->Q (HT.lexLt ns ms) s->KatLex prog w A true fin Q (us.zip ws) i s
 | _,_,_,_,i,.nil,.nil,_,hf,q=>by subst hf; exact kat_nil q
 | _,_,_,_,i,.nil,.cons _ _ _,hl,_,_=>by simp at hl
 | _,_,_,_,i,.cons _ _ _,.nil,hl,_,_=>by simp at hl
 | _,_,_,_,i,.cons a t hu,.cons c u hw,hl,hf,q=>by
  rw [List.zip_cons_cons]
  refine kat_cons (wpAny_eqBool_int ?_)
  rw [HT.fL] at q
  by_cases e:a=c
  ·have:(a==c)=true:=by simpa using e
   rw [this]
   rw [if_pos e] at q
   exact kat_yes (mD hu hw (by simpa using hl) hf q)
  ·have:(a==c)=false:=by simpa using e
   rw [this]
   rw [if_neg e] at q
   refine kat_no ?_
   cases hb:(true&&i==0) with
   | true=>exact oneLt_int q
   | false=>exact kat_one _ _ (lt_int q)
theorem kR:bL X (.builtin "sorted") (λ xs H Q=>∃(p:Addr) (ys:List V) (tss:List (List Int)) (k:Nat) (pm:Array Nat),xs=[.ref p]/\SqL X.K H p ys/\Paired (TIs X.K H) ys tss/\(∀t∈tss,t.length=k+1)/\2<=ys.length/\ys.length < 64/\
  t9 ys.length (λ i j=>HT.lexLt (tss.getD i []) (tss.getD j [])) (kas_sort ys.length)=some pm/\pm.size<=64/\∀l,H l=none->Q (.ref l) (upd H l (.lst (pm.toList.map λ i=>ys.getD i .non)))):=by
 intro pins s σ H xs us Q I rv h
 obtain ⟨p,ys,tss,k,pm,rfl,hq,hp,hk,h2,h64,hr,hpm,q⟩:=h
 obtain ⟨u,rfl,rx⟩:=vals1 rv
 cases rx
 obtain ⟨its,rvs,pl,hz⟩:=I.list hq
 obtain ⟨m,F⟩:=I.fr
 have hlen:=rvs.length
 rw [hlen] at h2 h64 hr
 refine kat_sorted F (sH (g:=X.base) (h:=s.heap) (L:=X.env.locals)) pl.isList h2 h64 λ D e1 h' F' N' hD=>?_
 have kept:∀b o,b≠X.env.locals->s.heap.get? b=some o->h'.get? b=some o:=λ b o hb e=>by
  cases z:X.base.get? b with
  | some u=>
   have:=I.bk b u z
   rw [e] at this; cases this
   exact F'.keep b _ z
  | none=>exact (N' (b,o) (.tail _ (dw hb z e))).1
 have uh:∀{a:Addr} {ns:List Int},SqT X.K H a (ns.map V.int)->∃its':List Value,IntsAre its' ns/\∃o n,h'.get? a=some o/\o.cls=.type "tuple"/\o.data=.seq its'.toArray n:=λ {a ns} ht=>by
  obtain ⟨its',rv',⟨o,e1,e2,n,e3⟩,_⟩:=I.tuple ht
  have na:a≠X.env.locals:=by
   rintro rfl
   obtain ⟨m',⟨o',es,ep,e',d',_⟩,_⟩:=I.loc
   rw [e'] at e1; cases e1
   rw [d'] at e3; cases e3
  exact ⟨its',intsAre_of rv',o,n,kept a o na e1,e2,e3⟩
 have firsts:∃fs:List Value,KatTups h' its fs/\fs.length=its.length/\∀v∈fs,∃i t,v=.int i t:=by
  clear hr q h2 h64 hz pl hlen hq
  induction hp generalizing its with
  | nil=>cases rvs; exact ⟨[],.nil,rfl,by simp⟩
  | @cons v ns ys tss hv ht ih=>
   cases rvs with
   | cons r rr=>
    obtain ⟨fs,f1,f2,f3⟩:=ih (λ t ht=>hk t (List.mem_cons_of_mem _ ht)) _ rr
    obtain ⟨a,rfl,hs⟩:=hv
    cases r
    obtain ⟨its',hi,o,n,e1,e2,e3⟩:=uh hs
    have hl:=hk ns List.mem_cons_self
    cases hi with
    | nil=>simp at hl
    | cons c t hi'=>
     exact ⟨.int c t::fs,.cons e1 e2 e3 rfl f1,by simp [f2],λ v hv=>(List.mem_cons.mp hv).elim (λ e=>⟨c,t,e⟩) (f3 v)⟩
 obtain ⟨fs,f1,f2,f3⟩:=firsts
 refine kat_kind (s:={s with heap:=h'}) (T:=.type "int") f1 (by omega) (λ v hv=>?_) rfl ?_
 ·obtain ⟨i,t,rfl⟩:=f3 v hv
  exact Looks.now
 refine pT (n:=its.length) (ans:=λ i j=>HT.lexLt (tss.getD i []) (tss.getD j [])) (λ i j C hi hj hc=>?_) hr ?_
 ·
  have item:∀i,i < its.length->∃a ns,its.getD i Value.none=.ref a/\tss.getD i []=ns/\ns.length=k+1/\SqT X.K H a (ns.map V.int):=λ i hi=>by
   have hy:i < ys.length:=by rw [hlen]; exact hi
   obtain ⟨u,e1,r1⟩:=rvs.get (i:=i) (x:=ys[i]) (by simp [hy])
   have:∀{ys:List V} {tss:List (List Int)} {i:Nat} {y:V},Paired (TIs X.K H) ys tss->ys[i]?=some y->∃t,tss[i]?=some t/\TIs X.K H y t:=by
    intro ys tss i y hp
    induction hp generalizing i with
    | nil=>intro e; simp at e
    | @cons a b l1 l2 h t ih=>
     intro e
     cases i with
     | zero=>simp at e; subst e; exact ⟨_,rfl,h⟩
     | succ i=>simpa using ih (by simpa using e)
   obtain ⟨t,e2,a,e3,hs⟩:=this hp (by simp [hy]:ys[i]?=some ys[i])
   rw [e3] at r1
   cases r1
   exact ⟨a,t,by simp [e1],by simp [e2],hk t (List.mem_of_getElem? e2),hs⟩
  obtain ⟨a,ns,x1,x2,x3,x4⟩:=item i hi
  obtain ⟨b,ms,y1,y2,y3,y4⟩:=item j hj
  obtain ⟨itsA,ia,oa,na,ea1,ea2,ea3⟩:=uh x4
  obtain ⟨itsB,ib,ob,nb,eb1,eb2,eb3⟩:=uh y4
  show wpAny _ _ (keyLt' (tuples' true) (its.getD i Value.none) (its.getD j Value.none)) C (λ _ _=>False) _
  rw [x1,y1]
  rw [x2,y2] at hc
  refine kat_lt (s:={s with heap:=h'}) ea1 ea3 eb1 eb3 (mD ia ib (by omega) ?_ hc)
  have l1:=ia.length
  have l2:=ib.length
  simp
  omega
 ·
  have hHD:H D=none:=by
   cases z:H D with
   | none=>rfl
   | some o=>
    obtain ⟨ob,eo⟩:∃ob,s.heap.get? D=some ob:=by
     have hlt:=I.hok.lt z
     cases y:s.heap.get? D with
     | some ob=>exact ⟨ob,rfl⟩
     | none=>
      have x:=I.hok D o z
      cases o with
      | lst xs=>obtain ⟨_,_,_,_,e⟩:=x; rw [y] at e; cases e
      | tup xs=>obtain ⟨_,_,_,o',e,_⟩:=x; rw [y] at e; cases e
      | dK kvs=>obtain ⟨_,_,_,_,o',_,_,e,_⟩:=x; rw [y] at e; cases e
      | dT kvs=>obtain ⟨_,_,_,_,o',_,_,e,_⟩:=x; rw [y] at e; cases e
      | set S n=>obtain ⟨o',_,_,_,e,_⟩:=x; rw [y] at e; cases e
      | ins C dx fs=>obtain ⟨_,_,_,e,_⟩:=x; rw [y] at e; cases e
      | own w=>obtain ⟨_,e⟩:=x; rw [y] at e; cases e
      | xd fs=>obtain ⟨_,⟨_,_,_,e,_⟩,_⟩:=x; rw [y] at e; cases e
      | rng lo hi=>obtain ⟨_,_,_,e⟩:=x; rw [y] at e; cases e
      | frz ob u=>obtain ⟨e,_⟩:=x; rw [y] at e; cases e
      | tbl ps=>have e:s.heap.get? D=some _:=x; rw [y] at e; cases e
      | met f w=>have e:s.heap.get? D=some _:=x; rw [y] at e; cases e
      | ext φ=>obtain ⟨_,⟨_,e⟩,_⟩:=x; rw [y] at e; cases e
    have nL:D≠X.env.locals:=λ e=>by rw [e,I.free] at z; cases z
    have nb:X.base.get? D=none:=by
     cases y:X.base.get? D with
     | none=>rfl
     | some u=>have:=(I.bs D u y).2; rw [z] at this; cases this
    exact absurd (hD (D,ob) (dw nL nb eo)) (Nat.lt_irrefl _)
  refine KasFin.intro F' N' (.head λ q hq=>Nat.ne_of_lt (hD q hq)) λ h'' c F'' N''=>?_
  have nD:=N'' (D,listOf _ c) (.head _)
  have pU:∀b o,b≠X.env.locals->s.heap.get? b=some o->h''.get? b=some o:=λ b o hb e=>by
   cases z:X.base.get? b with
   | some u=>
    have:=I.bk b u z
    rw [e] at this; cases this
    exact F''.keep b _ z
   | none=>exact (N'' (b,o) (.tail _ (dw hb z e))).1
  have outs:Vals (pm.toList.map λ i=>ys.getD i .non) (pm.toList.map λ i=>its.getD i Value.none):=by
   have:∀l:List Nat,Vals (l.map λ i=>ys.getD i .non) (l.map λ i=>its.getD i Value.none):=λ l=>by
    induction l with
    | nil=>exact .nil
    | cons i l ih=>
     refine .cons ?_ ih
     by_cases hi:i < ys.length
     ·obtain ⟨u,e1,r1⟩:=rvs.get (i:=i) (x:=ys[i]) (by simp [hi])
      simp only [List.getD,e1,Option.getD_some,List.getElem?_eq_getElem hi]
      exact r1
     ·have h1:ys[i]?=none:=List.getElem?_eq_none_iff.mpr (by omega)
      have h2:its[i]?=none:=List.getElem?_eq_none_iff.mpr (by omega)
      simp only [List.getD,h1,h2,Option.getD_none]
      rfl
   exact this _
  have sz:(pm.toList.map λ i=>ys.getD i .non).length<=sizeLine:=by
   rw [List.length_map,Array.length_toList]
   exact Nat.le_trans hpm (by rw [sizeLine_eq]; decide)
  have hL:=I.lt
  have noL:∀b u,H b=some u->b≠X.env.locals:=λ b u e z=>by rw [z,I.free] at e; cases e
  have hok:HOk X.prog X.w (upd H D (.lst (pm.toList.map λ i=>ys.getD i .non))) h'':=λ b u e=>by
   by_cases hb:b=D
   ·subst hb
    rw [aB] at e
    cases e
    exact ⟨sz,_,c,outs,nD.1⟩
   ·rw [aj hb] at e
    exact (I.hok b u e).stay (λ c' v hc q=>pU c' v (by
     rcases hc with z | z
     ·rw [z]; exact noL b u e
     ·exact noL c' _ z) q) (λ c' q=>by rw [aj (ak q hHD)]; exact q) λ c' xs q=>by rw [aj (ak q hHD)]; exact q
  have nDs:∀b o,s.heap.get? b=some o->b≠X.env.locals->X.base.get? b=none->b≠D:=λ b o e n1 n2=>Nat.ne_of_lt (hD (b,o) (dw n1 n2 e))
  have I2:Inv X pins σ (upd H D (.lst (pm.toList.map λ i=>ys.getD i .non))) {s with heap:=h'',toks:=s.toks}:=by
   refine I.step (g':=s.gens) (d':=s.drawn) (ch:=[]) (λ _ z=>nomatch z) (λ b o n1 _ _ e _=>pU b o n1 e) (λ b o n1 _ _ e _=>⟨o.slots,pU b o n1 e⟩) (λ b o _ e n=>?_) (λ b o _ e=>?_)
    (λ b xs e=>by rw [aj (ak e hHD)]; exact e) (λ b o u e=>by rw [aj (ak e hHD)]; exact e) (λ b ps e=>⟨#[],by rw [aj (ak e hHD),e]; simp⟩) (λ m' hm=>?_) hok I.bare
   ·rw [aj ?_]
    ·exact n
    ·rintro rfl
     by_cases h1:b=X.env.locals
     ·exact nD.2.1 h1
     ·cases h2:X.base.get? b with
      | some u=>rw [nD.2.2] at h2; cases h2
      | none=>exact nDs b o e h1 h2 rfl
   ·by_cases h1:b=X.env.locals
    ·subst h1
     obtain ⟨o',_,_,e',_⟩:=F''.ns
     exact ⟨o',e'⟩
    ·exact ⟨o,pU b o h1 e⟩
   ·have:=hm.eq_nsMap.trans F.ns.eq_nsMap.symm
    rw [this]; exact F''.ns
  exact ⟨.ref D,_,I2,rfl,q D hHD⟩
end
end D
end
section
namespace D
open PySem PySem.Spec PyProof.Rows L2
theorem kT {X:L2.Cx}:bL X (.builtin "sorted") (λ xs H Q=>∃(p:Addr) (y:V),xs=[.ref p]/\SqL X.K H p [y]/\∀l,H l=none->Q (.ref l) (upd H l (.lst [y]))):=by
 intro pins s σ H xs us Q I rv h
 obtain ⟨p,y,rfl,hq,q⟩:=h
 obtain ⟨u,rfl,rx⟩:=vals1 rv
 cases rx
 obtain ⟨its,rvs,pl,_⟩:=I.list hq
 obtain ⟨v,rfl,ry⟩:=vals1 rvs
 refine iy (v:=v) pl.isList λ D h' n' hD hg hk=>?_
 exact ⟨.ref D,_,I.laid (t':=s.toks) (o:=.lst [y]) hk hD ⟨by simp; decide +kernel,[v],n',.cons ry .nil,hg⟩,rfl,q _ (I.hok.fresh hD)⟩
end D
end
section
namespace D
open PySem PySem.Spec PyProof.Rows L2
section
variable {X:L2.Cx}
theorem rH {α β:Type} {R:α->β->Prop} {xs:List α} {ys:List β} (h:Paired R xs ys):∀{j:Nat} {y:β},ys[j]?=some y->∃x,xs[j]?=some x/\R x y:=by
 induction h with
 | nil=>intro j y e; simp at e
 | cons r t ih=>
  intro j y e
  cases j with
  | zero=>cases e; exact ⟨_,rfl,r⟩
  | succ j=>exact ih (by simpa using e)
theorem oG {α β:Type} {R:α->β->Prop} {xs:List α} {ys:List β} (h:Paired R xs ys):∀{j:Nat} {x:α},xs[j]?=some x->∃y,ys[j]?=some y/\R x y:=by
 induction h with
 | nil=>intro j y e; simp at e
 | cons r t ih=>
  intro j y e
  cases j with
  | zero=>cases e; exact ⟨_,rfl,r⟩
  | succ j=>exact ih (by simpa using e)
theorem pV {pins:List (Addr×Obj)} {σ:L2.St} {H:Hp} {s:Shared} {ys:List V} {its:List Value} {tss:List (List Int)} (I:Inv X pins σ H s) (rv:Vals ys its) (hp:Paired (TIs X.K H) ys tss) (j:Nat) (ns:List Int) (v:Value) (h1:tss[j]?=some ns) (h2:its.toArray[j]?=some v) :
  ∃(a:Addr) (jt:Array Value),v=Value.ref a/\IsTup s.heap a jt/\IntsAre jt.toList ns:=by
 obtain ⟨y,hy,a,rfl,hq⟩:=rH hp h1
 obtain ⟨u,hu,ru⟩:=oG rv hy
 have e:v=u:=by
  have:its[j]?=some v:=by simpa using h2
  rw [hu] at this; cases this; rfl
 subst e
 cases ru
 obtain ⟨jt,rj,tj,_⟩:=I.tuple hq
 exact ⟨a,jt.toArray,rfl,tj,by simpa using intsAre_of rj⟩
theorem um {prog:Program} {w:World} {vs:List Value} {ns:List Int} (h:IntsAre vs ns):ItemsAre (intKind prog w) ns vs:=by
 induction h with
 | nil=>exact .nil
 | cons a t h ih=>exact .cons (by show Value.isInt a (.int a t)=true; simp [Value.isInt]) ih
noncomputable def i7 (a:Addr) (n:Nat):HO:=.ext λ h=>∃hs,iX h a n hs
theorem rJ {P:Program} {w:World} {H:Hp} {h:Heap} {a:Addr} {n:Nat} (x:∃hs,iX h a n hs):bA P w H h a (i7 a n):=by
 obtain ⟨hs,es,ep,t,e,r⟩:=id x
 exact ⟨x,⟨_,e⟩,λ h1 h2 ⟨hs1,es1,ep1,t1,e1,r1⟩ k=>⟨hs1,es1,ep1,t1,k _ e1,r1⟩⟩
theorem rK (hh:X.A.handled=none) (hu:X.A.units+64 < cLine):bL X (.type "set") (λ xs H Q=>∃(p:Addr) (ys:List V) (tss:List (List Int)),xs=[.ref p]/\SqL X.K H p ys/\Paired (TIs X.K H) ys tss/\
  tss.length<=4/\(∀t∈tss,cy t=true)/\tss.Nodup/\∀l,H l=none->Q (.ref l) (upd H l (i7 l tss.length))):=by
 intro pins s σ H xs us Q I rv h
 obtain ⟨p,ys,tss,rfl,hq,hp,hz,hok,hnd,q⟩:=h
 obtain ⟨u,rfl,rx⟩:=vals1 rv
 cases rx
 obtain ⟨its,rvs,pl,_⟩:=I.list hq
 refine iY (kss:=tss) hh (by omega) pl.isList hz (by rw [List.size_toArray,<-rvs.length,hp.length]) hok hnd (λ j ks v h1 h2=>?_) λ h' tk hs hL hk=>?_
 ·obtain ⟨a,jt,hv,⟨o,ho,hc,n,hd⟩,hi⟩:=pV I rvs hp j ks v h1 h2
  exact ⟨a,hv,o,jt,n,ho,hc,hd,um hi⟩
 ·have kp:∀b o,s.heap.get? b=some o->h'.get? b=some o:=λ b o e=>hk b o (Heap.lt_size e) e
  exact ⟨.ref s.heap.objs.size,_,I.laid (t':=tk) (o:=i7 s.heap.objs.size tss.length) kp (Nat.le_refl _) (rJ ⟨hs,hL⟩),rfl,q _ (I.hok.fresh (Nat.le_refl _))⟩
theorem rL:bL X (.builtin "len") (λ xs H Q=>∃(a:Addr) (n:Nat),xs=[.ref a]/\H a=some (i7 a n)/\n<=4/\Q (.int n) H):=by
 intro pins s σ H xs us Q I r h
 obtain ⟨a,n,rfl,hq,hz,q⟩:=h
 obtain ⟨u,rfl,rx⟩:=vals1 r
 cases rx
 obtain ⟨⟨hs,es,ep,t,h1,h2,h3,h4,h5,h6⟩,_⟩:=I.hok _ _ hq
 subst h5
 refine call_len_set h1 ⟨rfl,rfl,rfl⟩ rfl (by unfold SetTable.fits SetTable.fill; rw [h2,h3,h4]; simp; omega) (by omega) ⟨.int _,H,I.tok _,⟨_,rfl⟩,q⟩
end
end D
end
section
namespace D
open PySem PySem.Spec PyProof.Rows L2
section
variable {X:L2.Cx}
noncomputable def C9 (K:PySem.W.Frag) (te:TE):TE:=fun σ H Q=>te σ H λ x H1=>∃(p:Addr) (ys:List V) (tss:List (List Int)),x=.ref p/\SqL K H1 p ys/\Paired (TIs K H1) ys tss/\(∀n0,tss.head?=some n0->∀ns∈tss,HT.lexLt ns n0=false)/\Q (ys.head?.getD .non) H1
theorem xr {e:Expr} {te:TE} {p pos kpos cpos:Pos} {j:Nat} (hh:X.A.handled=none) (hu:X.A.units+64 < cLine) (hg:Gl X "min") (hm:X.mg "min"=none) (ha:PE X e te) (he:starEach [e] X.env=[(false,eval e X.env)]) :
  PE X (.Call (.Name "min" p) [e] [⟨some "default",.Constant .none j cpos,kpos⟩] pos) (C9 X.K te):=by
 intro pins s σ H Q I h
 refine wpAny_Call_Name_kw (dD (u:=.builtin "min") I hg hm (by decide +kernel) ?_ (by decide +kernel) (by decide +kernel))
 refine callWith_builtin_kwB (by rw [he]; rfl) rfl ?_
 have hp:=bU ha dS he pos pins s σ H (λ vs H1=>match vs with
  | [x]=>∃(p:Addr) (ys:List V) (tss:List (List Int)),x=.ref p/\SqL X.K H1 p ys/\Paired (TIs X.K H1) ys tss/\(∀n0,tss.head?=some n0->∀ns∈tss,HT.lexLt ns n0=false)/\Q (ys.head?.getD .non) H1
  | _=>False) I h
 rw [he] at hp ⊢
 refine evalArgs_kwB rfl (thn hp λ us s1 hz=>?_)
 obtain ⟨vs,H1,I1,rv,hz⟩:=hz
 match vs,hz,rv with
 | [x],hz,rv=>
 obtain ⟨a,ys,tss,rfl,hq,hp,hlt,q⟩:=hz
 refine thn (wK sI Al pos pins s1 σ H1 (λ zs H2=>zs=[.non]/\H2=H1) I1 ⟨rfl,rfl⟩) λ ws s2 hz=>?_
 obtain ⟨zs,H2,I2,rz,rfl,rfl⟩:=hz
 obtain ⟨u,rfl,rx⟩:=vals1 rv
 obtain ⟨z,rfl,rz1⟩:=vals1 rz
 cases rx
 cases rz1
 obtain ⟨its,rvs,pl,_⟩:=I2.list hq
 refine jI (nss:=tss) hh (by omega) pl.isList (by rw [List.size_toArray,<-rvs.length,hp.length]) hlt (λ j ns v h1 h2=>pV I2 rvs hp j ns v h1 h2) λ h' tk hk=>?_
 cases rvs with
 | nil=>exact ⟨.non,H2,I2.kept (t':=tk) hk,rfl,q⟩
 | cons r t=>exact ⟨_,H2,I2.kept (t':=tk) hk,r,q⟩
end
end D
end
section
namespace D
open PySem PySem.Spec PyProof.Rows L2
section
variable {X:L2.Cx} {cl:Cl} {C:D.Cx} {pos:Pos}
theorem uo (bs:List Bool):((List.range bs.length).any λ i=>bs.getD i true)=bs.any id:=by
 have e:∀(f g:Nat->Bool) (l:List Nat),(∀i∈l,f i=g i)->l.any f=l.any g:=λ f g l h=>by
  induction l with
  | nil=>rfl
  | cons x r ih=>rw [List.any_cons,List.any_cons,h x List.mem_cons_self,ih λ i hi=>h i (List.mem_cons_of_mem _ hi)]
 induction bs with
 | nil=>rfl
 | cons b r ih=>
  rw [List.length_cons,List.range_succ_eq_map,List.any_cons,List.any_map,List.any_cons]
  have:((List.range r.length).any ((λ i=>(b::r).getD i true)∘Nat.succ))=((List.range r.length).any λ i=>r.getD i true):=e _ _ _ λ i _=>by simp
  rw [this,ih]
  rfl
theorem uq (hh:X.A.handled=none):bL X (.builtin "any") (λ xs H Q=>∃(p:Addr) (bs:List Bool),xs=[.ref p]/\SqL X.K H p (bs.map V.bl)/\Q (.bl (bs.any id)) H):=by
 intro pins s σ H xs us Q I r h
 obtain ⟨p,bs,rfl,hq,q⟩:=h
 obtain ⟨u,rfl,rx⟩:=vals1 r
 cases rx
 obtain ⟨its,rv,pl,hz⟩:=I.list hq
 have hl:=pl.isList
 have hlt:p < s.heap.objs.size:=by obtain ⟨_,e,_⟩:=hl; exact Heap.lt_size e
 have len:=rv.length
 rw [List.length_map] at len
 refine call_any_walk (wpAny_pyIter_list hl ?_)
 refine ⟨_,_,_,_,_,_,(λ i=>bs.getD i true),rfl,Walks.list (A:=X.A.in1) hh s.heap.objs.size p (Nat.ne_of_lt hlt) its.toArray,⟨⟨_,Heap.get?_push_size _ rfl,rfl,rfl⟩,hl.push _⟩,?_,?_⟩
 ·intro i v s' Q' E' hv hq'
  have hv:its[i]?=some v:=by simpa using hv
  have hi:i < its.length:=(List.getElem?_eq_some_iff.mp hv).1
  have hb:i < bs.length:=by omega
  have e:(bs.map V.bl)[i]?=some (V.bl (bs[i])):=by simp [hb]
  obtain ⟨u,hu,ru⟩:=rv.get e
  rw [hv] at hu
  cases hu
  cases ru
  have:bs.getD i true=bs[i]:=by simp [List.getD,hb]
  dsimp only at hq'
  rw [this] at hq'
  exact wpAny_truthy_bool hq'
 ·intro h' tk hk
  have e:((List.range its.toArray.size).any λ i=>bs.getD i true)=bs.any id:=by
   rw [List.size_toArray,<-len]
   exact uo bs
  rw [e]
  refine ⟨.bl _,H,I.kept (t':=tk) λ b o eb=>hk b o (λ z=>?_) (Heap.get?_push_of_some _ eb),rfl,q⟩
  rw [List.mem_singleton] at z
  exact Nat.ne_of_lt (Heap.lt_size eb) z
noncomputable def ur:B->Value
 | .len=>.builtin "len" | .abs=>.builtin "abs" | .max=>.builtin "max" | .min=>.builtin "min" | .divmod=>.builtin "divmod" | .all=>.builtin "all" | .any=>.builtin "any"
 | .list=>.type "list" | .tuple=>.type "tuple" | .int=>.type "int" | .sorted=>.builtin "sorted" | .sum=>.builtin "sum" | .repr=>.builtin "repr"
theorem eH {K:PySem.W.Frag} {β:List Addr} {H:Hp} {w:W} {vs:List V} (h:RWs K β H [w] vs):∃v,vs=[v]/\RW K β H w v:=by
 cases h with
 | cons q t=>cases t; exact ⟨_,rfl,q⟩
theorem AS {K:PySem.W.Frag} {β:List Addr} {H:Hp} {w w':W} {vs:List V} (h:RWs K β H [w,w'] vs):∃v v',vs=[v,v']/\RW K β H w v/\RW K β H w' v':=by
 cases h with
 | cons q t=>obtain ⟨v',rfl,q'⟩:=eH t; exact ⟨_,_,rfl,q,q'⟩
theorem RWs.pick {K:PySem.W.Frag} {β:List Addr} {H:Hp} {ws:List W} {vs:List V} (t:RWs K β H ws vs):∀(is:List Nat),RWs K β H (is.map λ i=>ws.getD i .non) (is.map λ i=>vs.getD i .non)
 | []=>.nil
 | i::is=>by
  refine .cons ?_ (t.pick is)
  dsimp only
  by_cases h:i < ws.length
  ·obtain ⟨v,e,q⟩:=t.get (i:=i) (w:=ws[i]) (by simp [h])
   have h1:ws.getD i .non=ws[i]:=by simp [List.getD,h]
   have h2:vs.getD i .non=v:=by simp [List.getD,e]
   rw [h1,h2]; exact q
  ·have h':¬i < vs.length:=by rw [<-t.length]; exact h
   have h1:ws.getD i .non=.non:=by simp [List.getD,List.getElem?_eq_none (Nat.le_of_not_lt h)]
   have h2:vs.getD i .non=.non:=by simp [List.getD,List.getElem?_eq_none (Nat.le_of_not_lt h')]
   rw [h1,h2]; exact .non
theorem RWs.tups {K:PySem.W.Frag} {β:List Addr} {H:Hp}:∀{ws:List W} {vs:List V} {tss:List (List Int)},RWs K β H ws vs->cg dU ws=some tss->Paired (TIs K H) vs tss
 | _,_,_,.nil,h=>by cases h; exact .nil
 | _,_,_,.cons (w:=w) q t,h=>by
  simp only [cg] at h
  split at h
  ·cases h
  ·rename_i d h1
   split at h
   ·cases h
   ·rename_i ds h2
    cases h
    refine .cons ?_ (t.tups h2)
    cases w with
    | tup xs=>
     cases q with
     | tup hs t'=>
      have:=t'.eE h1
      subst this
      exact ⟨_,rfl,hs⟩
    | _=>cases h1
set_option maxHeartbeats 2000000 in
theorem uu (hu:UN X cl) (hc:X.calm=true) (hh:X.A.handled=none) (b:B):bL X (ur b) (SOl X cl (aP b)):=by
 intro pins s σ H xs us Q I rv h
 obtain ⟨β,m,ws,w,m',r,q,e,k⟩:=h
 unfold aP at e
 split at e
 ·split at e
  ·
   split at e
   ·split at e
    ·rename_i hl
     cases e
     obtain ⟨v,rfl,qv⟩:=eH q
     cases qv
     exact kI pins s σ H _ us Q I rv ⟨_,rfl,Nat.le_trans hl bH,k _ _ _ Ext.refl r (.int _)⟩
    ·cases e
   ·split at e
    ·rename_i ys e1
     cases e
     obtain ⟨v,rfl,qv⟩:=eH q
     obtain ⟨a,vs,rfl,hs,t⟩:=r.aC qv e1
     exact kH pins s σ H _ us Q I rv ⟨_,_,rfl,hs,k _ _ _ Ext.refl r (by rw [<-t.length]; exact .int _)⟩
    ·cases e
  ·cases e
 ·split at e
  ·
   cases e
   obtain ⟨v,rfl,qv⟩:=eH q
   cases qv
   exact sV pins s σ H _ us Q I rv ⟨_,rfl,k _ _ _ Ext.refl r (.int _)⟩
  ·cases e
 ·split at e
  ·cases e
   obtain ⟨v,v',rfl,qv,qv'⟩:=AS q
   cases qv; cases qv'
   exact qN hc pins s σ H _ us Q I rv ⟨_,_,rfl,k _ _ _ Ext.refl r (.int _)⟩
  ·cases e
 ·split at e
  ·cases e
   obtain ⟨v,v',rfl,qv,qv'⟩:=AS q
   cases qv; cases qv'
   exact qO hc pins s σ H _ us Q I rv ⟨_,_,rfl,k _ _ _ Ext.refl r (.int _)⟩
  ·cases e
 ·split at e
  ·split at e
   ·rename_i hd
    cases e
    obtain ⟨v,v',rfl,qv,qv'⟩:=AS q
    cases qv; cases qv'
    refine lT pins s σ H _ us Q I rv ⟨_,_,rfl,hd,λ p hp=>?_⟩
    obtain ⟨x2,r2⟩:=r.kQ hp [.int _,.int _]
    exact k _ _ _ x2 r2 (.tup (.of aB) (.cons (.int _) (.cons (.int _) .nil)))
   ·cases e
  ·cases e
 ·split at e
  ·
   split at e
   ·rename_i ys e1
    split at e
    ·rename_i bs e2
     cases e
     obtain ⟨v,rfl,qv⟩:=eH q
     obtain ⟨a,vs,rfl,hs,t⟩:=r.getL qv e1
     have z:=t.bools e2
     subst z
     exact tO hh pins s σ H _ us Q I rv ⟨_,_,rfl,hs,k _ _ _ Ext.refl r (.bl _)⟩
    ·cases e
   ·cases e
  ·cases e
 ·split at e
  ·split at e
   ·rename_i ys e1
    split at e
    ·rename_i bs e2
     cases e
     obtain ⟨v,rfl,qv⟩:=eH q
     obtain ⟨a,vs,rfl,hs,t⟩:=r.getL qv e1
     have z:=t.bools e2
     subst z
     exact uq hh pins s σ H _ us Q I rv ⟨_,_,rfl,hs,k _ _ _ Ext.refl r (.bl _)⟩
    ·cases e
   ·cases e
  ·cases e
 ·split at e
  ·
   split at e
   ·rename_i ys e1
    cases e
    obtain ⟨v,rfl,qv⟩:=eH q
    obtain ⟨a,vs,rfl,hs,t⟩:=r.aC qv e1
    refine kJ pins s σ H _ us Q I rv ⟨_,_,rfl,hs,λ p hp=>?_⟩
    obtain ⟨x2,r2⟩:=r.newL hp t
    exact k _ _ _ x2 r2 (.ref (r.last p))
   ·cases e
  ·cases e
 ·split at e
  ·split at e
   ·rename_i ys e1
    cases e
    obtain ⟨v,rfl,qv⟩:=eH q
    obtain ⟨a,vs,rfl,hs,t⟩:=r.aC qv e1
    refine jD pins s σ H _ us Q I rv ⟨_,vs,rfl,?_⟩
    rcases hs with hs | hs
    ·refine .inl ⟨hs,λ p hp=>?_⟩
     obtain ⟨x2,r2⟩:=r.kQ hp vs
     exact k _ _ _ x2 r2 (.tup (.of aB) (t.mono r x2))
    ·exact .inr ⟨hs,k _ _ _ Ext.refl r (.tup hs t)⟩
   ·cases e
  ·cases e
 ·split at e
  ·cases e
   obtain ⟨v,rfl,qv⟩:=eH q
   cases qv
   exact jU pins s σ H _ us Q I rv (.inl ⟨_,rfl,k _ _ _ Ext.refl r (.int _)⟩)
  ·cases e
   obtain ⟨v,rfl,qv⟩:=eH q
   cases qv
   exact jU pins s σ H _ us Q I rv (.inr ⟨_,rfl,k _ _ _ Ext.refl r (.int _)⟩)
  ·cases e
 ·split at e
  ·
   split at e
   ·rename_i ys e1
    split at e
    ·rename_i tss e2
     split at e
     ·rename_i zs e3
      cases e
      obtain ⟨v,rfl,qv⟩:=eH q
      obtain ⟨a,vs,rfl,hs,t⟩:=r.getL qv e1
      unfold yP at e3
      split at e3
      ·rename_i h1
       cases e3
       have hl:=t.length
       obtain ⟨y,rfl⟩:=List.length_eq_one_iff.mp (hl.symm.trans h1)
       refine kT pins s σ H _ us Q I rv ⟨a,y,rfl,hs,λ p hp=>?_⟩
       obtain ⟨x2,r2⟩:=r.newL hp t
       exact k _ _ _ x2 r2 (.ref (r.last p))
      split at e3
      ·rename_i hz
       split at e3
       ·rename_i pm e4
        split at e3
        ·rename_i hpm
         cases e3
         have hl:=t.length
         refine kR pins s σ H _ us Q I rv ⟨a,vs,tss,(tss.headD []).length - 1,pm,rfl,hs,t.tups e2,λ x hx=>?_,by omega,by omega,by rw [<-hl]; exact e4,hpm,λ p hp=>?_⟩
         ·have:=List.all_eq_true.mp hz.2.1 x hx
          have:=beq_iff_eq.mp this
          omega
         ·obtain ⟨x2,r2⟩:=r.newL hp (t.pick pm.toList)
          exact k _ _ _ x2 r2 (.ref (r.last p))
        ·cases e3
       ·cases e3
      ·cases e3
     ·cases e
    ·cases e
   ·cases e
  ·cases e
 ·split at e
  ·split at e
   ·rename_i d e1
    split at e
    ·rename_i hd
     cases e
     obtain ⟨v,rfl,qv⟩:=eH q
     have z:=dF r _ qv e1
     simp only [shD,Bool.and_eq_true,Bool.not_eq_true',decide_eq_true_eq] at hd
     obtain ⟨a,rfl⟩:∃a,v=.ref a:=by
      have EL:=hd.1.1.1.1.1
      cases z<;>first | exact ⟨_,rfl⟩ | cases EL
     exact qU hu.gd hu.un pins s σ H _ us Q I rv ⟨_,d,rfl,z,hd.1.1.1.1.2,hd.1.1.1.2,hd.1.1.2,hd.1.2,hd.2,k _ _ _ Ext.refl r (.str _)⟩
    ·cases e
   ·cases e
  ·cases e
 ·cases e
theorem AU {x:Str} {b:B} {id:String} {a:Expr} {es:List Expr} {p:Pos} {ds:Es} (hu:UN X cl) (hc:X.calm=true) (hh:X.A.handled=none) (hb:ur b=.builtin id) (hg:Gl X x) (hm:X.mg x=none) (hv:bootBuiltins x=some (.builtin id)) (ha:PA X (a::es) (SA X cl (aI C ds)))
  (hn:x≠"__name__") (hdb:(x==("__debug__":Str))=false) (he:starEach (a::es) X.env=(false,eval a X.env)::starEach es X.env) (hpl:(backTo pos (starEach es X.env)).any (·.1)=false):PE X (.Call (.Name x p) (a::es) [] pos) (SE X cl (evE C (.blt b ds))):=by
 refine PE.imp (iP (hb▸uu (cl:=cl) hu hc hh b) hg hm hv ha hn hdb he hpl) ?_
 rintro σ H Q ⟨β,ρ,m,w,m',r,l,e,k⟩
 simp only [evE] at e
 obtain ⟨x,m1,e1,e⟩:=R.aa e
 exact ⟨β,ρ,m,x,m1,r,l,e1,fun β1 H1 v1 x1 r1 q1=>⟨β1,m1,x,w,m',r1,q1,e,fun β2 H2 v2 x2 r2 q2=>k _ _ _ (x1.trans r1 x2) r2 q2⟩⟩
theorem AV {x:Str} {b:B} {id:String} {a:Expr} {es:List Expr} {p:Pos} {ds:Es} (hu:UN X cl) (hc:X.calm=true) (hh:X.A.handled=none) (hb:ur b=.type id) (hg:Gl X x) (hm:X.mg x=none) (hv:bootBuiltins x=some (.type id)) (ha:PA X (a::es) (SA X cl (aI C ds)))
  (hn:x≠"__name__") (hdb:(x==("__debug__":Str))=false) (he:starEach (a::es) X.env=(false,eval a X.env)::starEach es X.env) (hpl:(backTo pos (starEach es X.env)).any (·.1)=false):PE X (.Call (.Name x p) (a::es) [] pos) (SE X cl (evE C (.blt b ds))):=by
 refine PE.imp (jZ (hb▸uu (cl:=cl) hu hc hh b) hg hm hv ha hn hdb he hpl) ?_
 rintro σ H Q ⟨β,ρ,m,w,m',r,l,e,k⟩
 simp only [evE] at e
 obtain ⟨x,m1,e1,e⟩:=R.aa e
 exact ⟨β,ρ,m,x,m1,r,l,e1,fun β1 H1 v1 x1 r1 q1=>⟨β1,m1,x,w,m',r1,q1,e,fun β2 H2 v2 x2 r2 q2=>k _ _ _ (x1.trans r1 x2) r2 q2⟩⟩
theorem Rel.Dc {K:PySem.W.Frag} {cl:Cl} {β:List Addr} {H:Hp} {m:Mem} (r:Rel K cl β m H) {p:Addr} (hp:H p=none) (o:HO):Ext β H β (upd H p o)/\Rel K cl β m (upd H p o):=by
 have x:Ext β H β (upd H p o):=⟨⟨[],by simp,by simp⟩,λ h _ _=>by rw [aj (ak h hp)]; exact h⟩
 refine ⟨x,r.len,r.nd,λ h1 h2=>?_⟩
 have q:=r.obj h1 h2
 obtain ⟨u,e,_⟩:=q.ex
 exact q.mono r x (aj (ak e hp))
noncomputable def bJ:List String:=["int","bool","str","list","tuple","dict","NoneType"]
theorem oH (K:PySem.W.Frag):∀t∈bJ,∀c∈bJ,PySem.W.kitOne K (.type t) (.type c)=some (t==c||(t=="bool"&&c=="int")):=by
 intro t ht c hc
 simp only [bJ,List.mem_cons,List.not_mem_nil,or_false] at ht hc
 rcases ht with rfl | rfl | rfl | rfl | rfl | rfl | rfl<;>rcases hc with rfl | rfl | rfl | rfl | rfl | rfl | rfl<;>with_unfolding_all rfl
theorem uv {pins:List (Addr×Obj)} {s:Shared} {σ:L2.St} {H:Hp} {a:Addr} {vs:List V} {c:Value} {b:Bool} {A:Around} {Q:Value->Shared->Prop} {E:Value->Shared->Prop} (I:Inv X pins σ H s) (h:SqT X.K H a vs) (e:PySem.W.kitOne X.K (.type "tuple") c=some b) (q:∀tk,Q (.bool b) {s with toks:=tk}) :
  wpAny (model X.prog X.w) A (call (.builtin "isinstance") [.ref a,c]) Q E s:=by
 obtain ⟨its,rv,⟨o,e1,e2,n,e3⟩,hz⟩:=I.tuple h
 exact PySem.W.kia_one PySem.W.kitx_tuple I.kIn ⟨_,e1,e2⟩ e (λ z=>nomatch z) q
theorem mE {pins:List (Addr×Obj)} {s:Shared} {σ:L2.St} {H:Hp} {a:Addr} {vs:List V} {c:Value} {b:Bool} {A:Around} {Q:Value->Shared->Prop} {E:Value->Shared->Prop} (I:Inv X pins σ H s) (h:SqL X.K H a vs) (e:PySem.W.kitOne X.K (.type "list") c=some b) (q:∀tk,Q (.bool b) {s with toks:=tk}) :
  wpAny (model X.prog X.w) A (call (.builtin "isinstance") [.ref a,c]) Q E s:=by
 obtain ⟨its,rv,⟨o,n,e1,e2,e3,e4⟩,hz⟩:=I.list h
 exact PySem.W.kia_one PySem.W.kitx_list I.kIn ⟨_,e1,e2⟩ e (λ z=>nomatch z) q
theorem AW {t:String} (ht:t∈bJ):bL X (.builtin "isinstance") (λ xs H Q=>∃x,xs=[x,.ty t]/\∃β m w b,Rel X.K cl β m H/\RW X.K β H w x/\fB m t w=some b/\Q (.bl b) H):=by
 intro pins s σ H xs us Q I rv h
 obtain ⟨x,rfl,β,m,w,b,r,q,e,k⟩:=h
 obtain ⟨u,u',rfl,r1,r2⟩:=vals2 rv
 cases r2
 have fin:∀tk,EP X pins σ Q (.bool b) {s with toks:=tk}:=λ tk=>⟨.bl b,H,I.tok tk,rfl,k⟩
 cases q with
 | non=>simp only [fB] at e; exact eV I r1 .non (by rw [oH _ _ (by decide) _ ht,<-e]; simp only [bJ,List.mem_cons,List.not_mem_nil,or_false] at ht; rcases ht with rfl | rfl | rfl | rfl | rfl | rfl | rfl<;>rfl) fin
 | bl c=>simp only [fB] at e; exact eV I r1 (.bl c) (by rw [oH _ _ (by decide) _ ht,<-e]; simp only [bJ,List.mem_cons,List.not_mem_nil,or_false] at ht; rcases ht with rfl | rfl | rfl | rfl | rfl | rfl | rfl<;>rfl) fin
 | int i=>simp only [fB] at e; exact eV I r1 (.int i) (by rw [oH _ _ (by decide) _ ht,<-e]; simp only [bJ,List.mem_cons,List.not_mem_nil,or_false] at ht; rcases ht with rfl | rfl | rfl | rfl | rfl | rfl | rfl<;>rfl) fin
 | str y=>simp only [fB] at e; exact eV I r1 (.str y) (by rw [oH _ _ (by decide) _ ht,<-e]; simp only [bJ,List.mem_cons,List.not_mem_nil,or_false] at ht; rcases ht with rfl | rfl | rfl | rfl | rfl | rfl | rfl<;>rfl) fin
 | tup h tt=>
  simp only [fB] at e
  cases r1
  exact uv I h (by rw [oH _ _ (by decide) _ ht,<-e]; simp only [bJ,List.mem_cons,List.not_mem_nil,or_false] at ht; rcases ht with rfl | rfl | rfl | rfl | rfl | rfl | rfl<;>rfl) fin
 | fz h tt=>
  simp only [fB] at e
  cases r1
  exact mE I h.l (by rw [oH _ _ (by decide) _ ht,<-e]; simp only [bJ,List.mem_cons,List.not_mem_nil,or_false] at ht; rcases ht with rfl | rfl | rfl | rfl | rfl | rfl | rfl<;>rfl) fin
 | obj h e0 tt=>simp only [fB] at e; cases e
 | ref h=>
  simp only [fB] at e
  cases r1
  rename_i n0 a0
  have go:∀{vs:List V},SqL X.K H a0 vs->some (t=="list")=some b->wpAny (model X.prog X.w) X.A (call (.builtin "isinstance") [.ref a0,.type t]) (EP X pins σ Q) X.xe s:=λ {vs} hs e=>mE (A:=X.A) (E:=X.xe) I hs (c:=.type t) (b:=b) (by rw [oH _ _ (by decide) _ ht,<-e]; simp only [bJ,List.mem_cons,List.not_mem_nil,or_false] at ht; rcases ht with rfl | rfl | rfl | rfl | rfl | rfl | rfl<;>rfl) fin
  split at e
  ·rename_i xs e1
   obtain ⟨vs,z,_⟩:=r.obj e1 h
   exact go (.inl (.inl z)) e
  ·cases e
theorem Dd {a:Expr} {d:E} {t:Str} {tn:String} {p p2:Pos} (ht:tn∈bJ) (hg:Gl X "isinstance") (hm:X.mg "isinstance"=none) (hg2:Gl X t) (hm2:X.mg t=none) (hb2:bootBuiltins t=some (.type tn)) (ha:PE X a (SE X cl (evE C d)))
  (hn:t≠"__name__") (hdb:(t==("__debug__":Str))=false) (he:starEach [a,.Name t p2] X.env=(false,eval a X.env)::starEach [.Name t p2] X.env):PE X (.Call (.Name "isinstance" p) [a,.Name t p2] [] pos) (SE X cl (evE C (.isI d tn))):=by
 refine PE.imp (iP (AW (cl:=cl) ht) hg hm (by decide +kernel) (bU ha (bU (vZ (v:=.ty tn) (u:=.type tn) hg2 hm2 hb2 rfl hn hdb) dS) he) (by decide +kernel) (by decide +kernel) he rfl) ?_
 rintro σ H Q ⟨β,ρ,m,w,m',r,l,e,k⟩
 simp only [evE] at e
 obtain ⟨x,m1,e1,e⟩:=R.aa e
 split at e
 ·rename_i b e2
  cases e
  exact ⟨β,ρ,m,x,_,r,l,e1,fun β1 H1 v1 x1 r1 q1=>⟨v1,rfl,β1,_,x,b,r1,q1,e2,k _ _ _ x1 r1 (.bl b)⟩⟩
 ·cases e
noncomputable def SM (X:L2.Cx) (cl:Cl) (name:String):V->List V->Hp->VK->Prop:=λ x xs H Q=>∃β m wx ws w m',Rel X.K cl β m H/\RW X.K β H wx x/\RWs X.K β H ws xs/\aZ wx name ws m=.ok w m'/\∀β' H' v,Ext β H β' H'->Rel X.K cl β' m' H'->RW X.K β' H' w v->Q v H'
theorem xu {name:String} (h:kdM name=.lst):¬name="join"/\¬name="index"/\¬name="add":=by
 unfold kdM at h
 split at h
 ·cases h
 ·rename_i h1
  split at h
  ·cases h
  ·rename_i h2
   exact ⟨λ z=>h1 (.inl z),λ z=>h1 (.inr z),h2⟩
theorem f9 {o:W} {name:String} {ws:List W} {m m':Mem} {w:W} (hn:kdM name=.lst) (e:aZ o name ws m=.ok w m'):∃n ys,o=.ref n/\m[n]?=some (.lst ys)/\dJ n ys name ws m=.ok w m':=by
 obtain ⟨h1,h2,h3⟩:=xu hn
 unfold aZ at e
 split at e
 ·split at e
  ·rename_i n _ ys e1
   exact ⟨_,_,rfl,e1,e⟩
  ·simp only [eY,h3,if_false] at e; cases e
  ·cases e
 ·simp only [pQ,h1,h2,if_false] at e; cases e
 ·cases e
theorem rM:MtR X "list.append" (SM X cl "append"):=by
 intro pins s σ H x xs v us Q I rx rv h
 obtain ⟨β,m,wx,ws,w,m',r,qx,qs,e,k⟩:=h
 obtain ⟨n,ys,rfl,e0,e⟩:=f9 (by decide) e
 simp only [dJ,if_pos] at e
 unfold fZ at e
 split at e
 ·split at e
  ·rename_i hl
   cases e
   obtain ⟨a,vs,rfl,hb,ha,t⟩:=r.lst qx e0
   obtain ⟨v1,rfl,q1⟩:=eH qs
   obtain ⟨x2,r2⟩:=r.rF e0 hb (t.append (.cons q1 .nil))
   exact j3 pins s σ H _ _ v us Q I rx rv ⟨_,_,_,rfl,rfl,ha,Nat.lt_of_lt_of_le (by rw [<-t.length]; exact hl) bH,k _ _ _ x2 r2 .non⟩
  ·cases e
 ·cases e
theorem uw:MtR X "list.clear" (SM X cl "clear"):=by
 intro pins s σ H x xs v us Q I rx rv h
 obtain ⟨β,m,wx,ws,w,m',r,qx,qs,e,k⟩:=h
 obtain ⟨n,ys,rfl,e0,e⟩:=f9 (by decide) e
 simp only [dJ,if_pos,String.reduceEq,if_false] at e
 unfold kO at e
 split at e
 ·cases e
  obtain ⟨a,vs,rfl,hb,ha,t⟩:=r.lst qx e0
  cases qs
  obtain ⟨x2,r2⟩:=r.rF e0 hb .nil
  exact tG pins s σ H _ _ v us Q I rx rv ⟨_,_,rfl,rfl,ha,k _ _ _ x2 r2 .non⟩
 ·cases e
theorem oJ:MtR X "list.reverse" (SM X cl "reverse"):=by
 intro pins s σ H x xs v us Q I rx rv h
 obtain ⟨β,m,wx,ws,w,m',r,qx,qs,e,k⟩:=h
 obtain ⟨n,ys,rfl,e0,e⟩:=f9 (by decide) e
 simp only [dJ,if_pos,String.reduceEq,if_false] at e
 unfold gw at e
 split at e
 ·cases e
  obtain ⟨a,vs,rfl,hb,ha,t⟩:=r.lst qx e0
  cases qs
  obtain ⟨x2,r2⟩:=r.rF e0 hb t.reverse
  exact nY pins s σ H _ _ v us Q I rx rv ⟨_,_,rfl,rfl,ha,k _ _ _ x2 r2 .non⟩
 ·cases e
theorem AX:MtR X "list.pop" (SM X cl "pop"):=by
 intro pins s σ H x xs v us Q I rx rv h
 obtain ⟨β,m,wx,ws,w,m',r,qx,qs,e,k⟩:=h
 obtain ⟨n,ys,rfl,e0,e⟩:=f9 (by decide) e
 simp only [dJ,if_pos,String.reduceEq,if_false] at e
 unfold pP at e
 obtain ⟨a,vs,rfl,hb,ha,t⟩:=r.lst qx e0
 split at e
 ·split at e
  ·rename_i y e1
   cases e
   cases qs
   obtain ⟨z,e2,qz⟩:=t.get e1
   obtain ⟨x2,r2⟩:=r.rF e0 hb t.dropLast
   exact Au pins s σ H _ _ v us Q I rx rv ⟨_,_,_,rfl,rfl,ha,by rw [<-t.length]; exact e2,k _ _ _ x2 r2 (qz.mono r x2)⟩
  ·cases e
 ·split at e
  ·rename_i hi
   split at e
   ·rename_i kk e3
    split at e
    ·rename_i y e1
     cases e
     obtain ⟨v1,rfl,q1⟩:=eH qs
     cases q1
     obtain ⟨z,e2,qz⟩:=t.get e1
     obtain ⟨x2,r2⟩:=r.rF e0 hb (t.eraseIdx kk)
     exact tE pins s σ H _ _ v us Q I rx rv ⟨_,_,_,kk,_,rfl,rfl,ha,hi.1,hi.2,by rw [<-t.length]; exact e3,e2,k _ _ _ x2 r2 (qz.mono r x2)⟩
    ·cases e
   ·cases e
  ·cases e
 ·cases e
theorem mF {o:W} {name:String} {ws:List W} {m m':Mem} {w:W} (hn:kdM name=.str) (e:aZ o name ws m=.ok w m'):∃z,o=.str z/\pQ z name ws m=.ok w m':=by
 have hj:name="join"\/name="index":=by
  unfold kdM at hn
  split at hn
  ·assumption
  ·split at hn<;>cases hn
 unfold aZ at e
 split at e
 ·split at e
  ·rcases hj with rfl | rfl<;>(simp only [dJ,String.reduceEq,if_false] at e; cases e)
  ·rcases hj with rfl | rfl<;>(simp only [eY,String.reduceEq,if_false] at e; cases e)
  ·cases e
 ·exact ⟨_,rfl,e⟩
 ·cases e
theorem RWs.i0 {K:PySem.W.Frag} {β:List Addr} {H:Hp}:∀{ws:List W} {vs:List V} {ns:List Str},RWs K β H ws vs->D.i0 ws=some ns->vs=ns.map V.str
 | _,_,_,.nil,h=>by cases h; rfl
 | _,_,_,.cons (w:=w) q t,h=>by
  cases w with
  | str i=>
   simp only [D.i0,Option.map_eq_some_iff] at h
   obtain ⟨r,h1,rfl⟩:=h
   cases q
   rw [t.i0 h1]; rfl
  | _=>cases h
theorem xw:MtR X "str.join" (SM X cl "join"):=by
 intro pins s σ H x xs v us Q I rx rv h
 obtain ⟨β,m,wx,ws,w,m',r,qx,qs,e,k⟩:=h
 obtain ⟨z,rfl,e⟩:=mF (by decide) e
 replace e:oA z ws m=.ok w m':=e
 unfold oA at e
 split at e
 ·split at e
  ·rename_i ys e1
   split at e
   ·rename_i ss e2
    split at e
    ·rename_i hl
     cases e; cases qx
     obtain ⟨v1,rfl,q1⟩:=eH qs
     obtain ⟨a,vs,rfl,hs,t⟩:=r.getL q1 e1
     have z1:=t.i0 e2
     subst z1
     exact wX pins s σ H _ _ v us Q I rx rv ⟨_,_,_,rfl,rfl,hs,hl,k _ _ _ Ext.refl r (.str _)⟩
    ·cases e
   ·cases e
  ·cases e
 ·cases e
theorem rN:MtR X "str.index" (SM X cl "index"):=by
 intro pins s σ H x xs v us Q I rx rv h
 obtain ⟨β,m,wx,ws,w,m',r,qx,qs,e,k⟩:=h
 obtain ⟨z,rfl,e⟩:=mF (by decide) e
 replace e:i6 z ws m=.ok w m':=e
 unfold i6 at e
 split at e
 ·rename_i _ y _
  split at e
  ·rename_i p e1
   cases e; cases qx
   obtain ⟨v1,rfl,q1⟩:=eH qs
   cases q1
   obtain ⟨t,rfl⟩:=rx
   obtain ⟨u,rfl,t2,rfl⟩:=Vals.one rv
   cases ho:Builtin.Str.occurrences z y 0 z.length 1 with
   | nil=>rw [ho] at e1; cases e1
   | cons i rest=>
    rw [ho] at e1
    cases e1
    exact SC.index ho ⟨.int _,H,I.tok _,⟨_,rfl⟩,k _ _ _ Ext.refl r (.int _)⟩
  ·cases e
 ·cases e
theorem ux {o:W} {ws:List W} {m m':Mem} {w:W} (e:aZ o "add" ws m=.ok w m'):∃n ks,o=.ref n/\m[n]?=some (.set ks)/\eY n ks "add" ws m=.ok w m':=by
 unfold aZ at e
 split at e
 ·split at e
  ·simp only [dJ,String.reduceEq,if_false] at e; cases e
  ·rename_i n _ ks e1
   exact ⟨_,_,rfl,e1,e⟩
  ·cases e
 ·simp only [pQ,String.reduceEq,if_false] at e; cases e
 ·cases e
theorem Rel.EM {K:PySem.W.Frag} {cl:Cl} {β:List Addr} {H:Hp} {m:Mem} {a:Addr} (r:Rel K cl β m H) {n:Nat} {o:O} {ks:List L2.Key} {S:L2.Key->Bool} (hm:m[n]?=some o) (hb:β[n]?=some a) (q:∀k,S k=iZ k ks) :
  Ext β H β (upd H a (iW cl.P cl.w a S ks.length))/\Rel K cl β (m.set n (.set ks)) (upd H a (iW cl.P cl.w a S ks.length)):=by
 have ha:a∈β:=List.mem_of_getElem? hb
 have x:Ext β H β (upd H a (iW cl.P cl.w a S ks.length)):=⟨⟨[],by simp,by simp⟩,λ {b u} h hn _=>by rw [aj (show b≠a from λ z=>hn (by rw [z]; exact ha))]; exact h⟩
 refine ⟨x,by simp [r.len],r.nd,λ {k o' b} h1 h2=>?_⟩
 by_cases hk:n=k
 ·subst hk
  rw [hb] at h2; cases h2
  rw [List.getElem?_set_self (List.getElem?_eq_some_iff.mp hm).1] at h1
  cases h1
  exact ⟨S,aB,q⟩
 ·rw [List.getElem?_set_ne hk] at h1
  have q':=r.obj h1 h2
  refine q'.mono r x (aj ?_)
  rintro rfl
  obtain ⟨h3,e3⟩:=List.getElem?_eq_some_iff.mp h2
  obtain ⟨h4,e4⟩:=List.getElem?_eq_some_iff.mp hb
  exact hk ((List.getElem_inj r.nd).mp (e4.trans e3.symm))
theorem AY (hu:UN X cl):MtR X "set.add" (SM X cl "add"):=by
 intro pins s σ H x xs v us Q I rx rv h
 obtain ⟨β,m,wx,ws,w,m',r,qx,qs,e,k⟩:=h
 obtain ⟨n,ks,rfl,e0,e⟩:=ux e
 simp only [eY,if_pos] at e
 unfold ud at e
 split at e
 ·split at e
  ·rename_i kk e1
   split at e
   ·rename_i hl
    cases e
    obtain ⟨v1,rfl,q1⟩:=eH qs
    have z:=mC q1 e1
    subst z
    cases qx with
    | ref hb=>
     obtain ⟨S,hS,hk⟩:=r.obj e0 hb
     have hS':=hS
     rw [hu.P,hu.w] at hS'
     refine n8 pins s σ H _ _ v us Q I rx rv ⟨_,S,_,kk,rfl,rfl,hS',hl,?_⟩
     have hk':∀j,(S j||decide (j=kk))=iZ j (if iZ kk ks then ks else ks++[kk]):=λ j=>by
      rw [hk]
      split
      ·rename_i hm
       cases hd:decide (j=kk) with
       | false=>simp
       | true=>
        have:=of_decide_eq_true hd
        subst this
        simp [hm]
      ·simp only [iZ,List.any_append,List.any_cons,List.any_nil,Bool.or_false]
       congr 1
       exact decide_eq_decide.mpr eq_comm
     obtain ⟨x2,r2⟩:=r.EM e0 hb hk'
     have hlen:(if iZ kk ks then ks else ks++[kk]).length=if S kk then ks.length else ks.length+1:=by
      rw [hk]; split<;>simp
     rw [hlen,hu.P,hu.w] at x2 r2
     exact k _ _ _ x2 r2 .non
   ·cases e
  ·cases e
 ·cases e
noncomputable def TyG (X:L2.Cx) (T:String) (x:V) (H:Hp):Prop:=∀(pins:List (Addr×Obj)) (s:Shared) (σ:L2.St) (v:Value),Inv X pins σ H s->RelV x v->s.TypeIs v T/\∀a,v=.ref a->∃ob,s.heap.get? a=some ob/\ob.dict=none
noncomputable def kdT:Kd->String
 | .lst=>"list" | .str=>"str" | .set=>"set" | .no=>""
theorem yS {β:List Addr} {m:Mem} {H:Hp} {w:W} {v:V} {kd:Kd} (r:Rel X.K cl β m H) (q:RW X.K β H w v) (hk:kd≠.no) (e:kdOf m w=kd):TyG X (kdT kd) v H:=by
 intro pins s σ u I rv
 cases q with
 | ref h=>
  simp only [kdOf] at e
  split at e
  ·rename_i ws e1
   obtain ⟨vs,z,_⟩:=r.obj e1 h
   subst e
   exact tB (T:="list") I rv (.inl ⟨rfl,_,.inl (.inl z)⟩)
  ·rename_i ks e1
   subst e
   obtain ⟨S,z,_⟩:=r.obj e1 h
   cases rv
   obtain ⟨⟨o,_,_,_,e,ex,_⟩,_⟩:=I.hok _ _ z
   refine ⟨⟨o,e,ex.1⟩,λ a e2=>?_⟩
   cases e2
   exact ⟨o,e,ex.2.1⟩
  ·exact absurd e.symm hk
 | str x=>
  simp only [kdOf] at e
  subst e
  exact tB (T:="str") I rv rfl
 | _=>exact absurd (by simpa [kdOf] using e.symm) hk
section
variable {o:Expr} {d:E} {name:Str} {nm id:String} {apos:Pos}
theorem xy {T:String} (hT:T=kdT (kdM nm)) (pa:PlainAttrs T) (slot:Slot T name id) (hty:typeOf (.builtin id)=pure (.type "method_descriptor")) (hm:MtR X id (SM X cl nm)) (ho:PE X o (SE X cl (evE C d)))
  (hbase:attributeBase o name X.env (eval o X.env)=eval o X.env) (hline:(apos.endLine==pos.line)=true):PE X (.Call (.Attribute o name apos) [] [] pos) (SE X cl (evE C (.meth d nm .nil))):=by
 intro pins s σ H Q I h
 refine wpAny_Call_method0_late hbase hline ?_
 obtain ⟨β,ρ,m,w,m',r,l,e,k⟩:=h
 simp only [evE] at e
 obtain ⟨x,m1,e1,e⟩:=R.aa e
 refine thn (ho pins s σ H (λ v H1=>TyG X T v H1/\SM X cl nm v [] H1 Q) I ⟨β,ρ,m,x,m1,r,l,e1,fun β1 H1 v1 x1 r1 q1=>?_⟩) λ v s1 ⟨x,H1,I1,r1,ty,q1⟩=>?_
 ·split at e
  ·rename_i hk
   simp only [aI,R.bind] at e
   exact ⟨by rw [hT]; exact yS r1 q1 (by unfold kdM; split<;>(try split)<;>(intro z; cases z)) hk,β1,m1,x,[],w,m',r1,q1,.nil,e,fun β2 H2 v2 x2 r2 q2=>k _ _ _ (x1.trans r1 x2) r2 q2⟩
  ·cases e
 ·obtain ⟨h1,h2⟩:=ty pins s1 σ v I1 r1
  exact ⟨T,id,pa,slot,hty,h1,h2,Calls.callWith_builtin rfl (PySem.evalArgs_none (hm pins s1 σ H1 x [] v [] Q I1 r1 .nil q1))⟩
theorem AZ {T:String} {a:Expr} {es:List Expr} {ds:Es} (hT:T=kdT (kdM nm)) (pa:PlainAttrs T) (slot:Slot T name id) (hty:typeOf (.builtin id)=pure (.type "method_descriptor")) (hm:MtR X id (SM X cl nm)) (ho:PE X o (SE X cl (evE C d))) (ha:PA X (a::es) (SA X cl (aI C ds)))
  (hbase:attributeBase o name X.env (eval o X.env)=eval o X.env)
  (hfew:((backTo pos (starEach (a::es) X.env)).all (λ x=>!x.1)&&(backToKw pos (keywordEach [] X.env)).all (λ x=>x.1.isSome)
   && decide ((a::es).length+([]:List Keyword).length+(if ([]:List Keyword).isEmpty then 0 else 1) < 30))=true)
  (hline:(apos.endLine==pos.line)=true) (hs:starEach (a::es) X.env=(false,eval a X.env)::starEach es X.env) (hplain:(backTo pos (starEach es X.env)).any (·.1)=false):PE X (.Call (.Attribute o name apos) (a::es) [] pos) (SE X cl (evE C (.meth d nm ds))):=by
 intro pins s σ H Q I h
 refine wpAny_Call_method_late hbase hfew hline rfl ?_
 obtain ⟨β,ρ,m,w,m',r,l,e,k⟩:=h
 simp only [evE] at e
 obtain ⟨x,m1,e1,e⟩:=R.aa e
 refine thn (ho pins s σ H (λ v H1=>TyG X T v H1/\SA X cl (aI C ds) σ H1 λ xs H2=>SM X cl nm v xs H2 Q) I ⟨β,ρ,m,x,m1,r,l,e1,fun β1 H1 v1 x1 r1 q1=>?_⟩) λ v s1 ⟨x,H1,I1,r1,ty,q1⟩=>?_
 ·split at e
  ·rename_i hk
   obtain ⟨ws,m2,e2,e⟩:=R.aa e
   exact ⟨by rw [hT]; exact yS r1 q1 (by unfold kdM; split<;>(try split)<;>(intro z; cases z)) hk,β1,ρ,m1,ws,m2,r1,l.mono r x1,e2,fun β2 H2 v2 x2 r2 q2=>
    ⟨β2,m2,x,ws,w,m',r2,q1.mono r1 x2,q2,e,fun β3 H3 v3 x3 r3 q3=>k _ _ _ ((x1.trans r1 x2).trans r2 x3) r3 q3⟩⟩
  ·cases e
 ·obtain ⟨h1,h2⟩:=ty pins s1 σ v I1 r1
  refine ⟨T,id,pa,slot,hty,h1,h2,?_⟩
  have hA:=ha pos pins s1 σ H1 _ I1 q1
  rw [hs] at hA ⊢
  refine Calls.callWith_builtin (by show (false||(backTo pos (starEach es X.env)).any (·.1))=false; rw [hplain]<;>rfl) (Calls.evalArgs_plain ?_)
  exact thn hA λ us s2 ⟨vs,H2,I2,r2,q2⟩=>hm pins s2 σ H2 x vs v us Q I2 r1 r2 q2
end
theorem A1 {p:Pos} (hu:UN X cl) (hg:Gl X "set") (hm:X.mg "set"=none):PE X (.Call (.Name "set" p) [] [] pos) (SE X cl (evE C .set0)):=by
 refine PE.imp (nQ qX hg hm (by decide +kernel) (by decide +kernel) (by decide +kernel)) ?_
 rintro σ H Q ⟨β,ρ,m,w,m',r,l,e,k⟩
 simp only [evE,new] at e
 cases e
 refine ⟨rfl,λ p hp=>?_⟩
 have:=r.AL (o:=.set []) (ho:=iW cl.P cl.w p (λ _=>false) 0) hp λ x=>⟨_,aB,λ _=>rfl⟩
 rw [hu.P,hu.w] at this
 exact k _ _ _ this.1 this.2 (.ref (r.last p))
noncomputable def spD (K:PySem.W.Frag) (cl:Cl) (np:Nat) (f:List W->Mem->R W):Sp:=λ vs H Q _=>vs.length=np/\∃β m ws w m',Rel K cl β m H/\RWs K β H ws vs/\f ws m=.ok w m'/\∀β' H' v,Ext β H β' H'->Rel K cl β' m' H'->RW K β' H' w v->Q v H'
theorem s_call {k f:Nat} {fa:Addr} {fd:FuncData} {ps:List Str} {x:Str} {p:Pos} {a:Expr} {es:List Expr} {ds:Es} (F:dH X.prog X.w X.K X.mg X.base CX0 k fa fd ps (spD X.K cl ps.length (C.call f))) (hr:bZ k X.A) (hg:Gl X x) (hm:X.mg x=some (.ref fa)) (hk:PySem.W.keepIn X.K (.ref fa)=true) (hb:Binds X.K fd ps [])
  (ha:PA X (a::es) (SA X cl (aI C ds))) (hl:∀ρ m ws m',aI C ds ρ m=.ok ws m'->ws.length=ps.length) (hdb:(x==("__debug__":Str))=false) (he:starEach (a::es) X.env=(false,eval a X.env)::starEach es X.env) (hpl:(backTo pos (starEach es X.env)).any (·.1)=false) :
  PE X (.Call (.Name x p) (a::es) [] pos) (SE X cl (evE C (.call f ds))):=by
 refine PE.imp (wI F hr hg hm hk hb .nil lY ha hdb he hpl) ?_
 rintro σ H Q ⟨β,ρ,m,w,m',r,l,e,k⟩
 simp only [evE] at e
 obtain ⟨x,m1,e1,e⟩:=R.aa e
 refine ⟨β,ρ,m,x,m1,r,l,e1,fun β1 H1 v1 x1 r1 q1=>⟨?_,β1,m1,x,w,m',r1,by rw [List.append_nil]; exact q1,e,fun β2 H2 v2 x2 r2 q2=>k _ _ _ (x1.trans r1 x2) r2 q2⟩⟩
 rw [List.append_nil,<-q1.length]
 exact hl _ _ _ _ e1
end
end D
end
section
namespace D
open PySem PySem.Spec PyProof.Rows L2
section
variable (X:L2.Cx) (cl:Cl)
noncomputable def IS (J:It) (src:Src) (β0:List Addr) (H0:Hp):Prop:=∀(β:List Addr) (m:Mem) (H:Hp) (i:Nat),(∃γ,β=β0++γ)->(∀{a:Addr} {vs:List V},SqT X.K H0 a vs->SqT X.K H a vs)->(∀{a:Addr} {o:Obj} {u:HO},H0 a=some (.frz o u)->H a=some (.frz o u))->Rel X.K cl β m H->
 (∀w,src.get m i=.it w->J.go i H/\∀x H',J.yld i H x H'->Ext β H β H'/\Rel X.K cl β m H'/\RW X.K β H' w x)/\(src.get m i=.fin->J.stop i H)
noncomputable def SI (ev:Loc->Mem->R Src):TI:=fun σ H Rr=>∃β ρ m src m',Rel X.K cl β m H/\RL X.K β H ρ σ/\ev ρ m=.ok src m'/\∀β' H' J,Ext β H β' H'->Rel X.K cl β' m' H'->IS X cl J src β' H'->Rr J H'
noncomputable def SG (ev:W->Loc->Mem->R Loc):TG:=λ v σ H Q=>∃β ρ m w ρ' m',Rel X.K cl β m H/\RL X.K β H ρ σ/\RW X.K β H w v/\ev w ρ m=.ok ρ' m'/\∀β' H' σ',Ext β H β' H'->Rel X.K cl β' m' H'->RL X.K β' H' ρ' σ'->Q σ' H'
noncomputable def SGs (ev:List W->Loc->Mem->R Loc):TGs:=λ vs σ H Q=>∃β ρ m ws ρ' m',Rel X.K cl β m H/\RL X.K β H ρ σ/\RWs X.K β H ws vs/\ev ws ρ m=.ok ρ' m'/\∀β' H' σ',Ext β H β' H'->Rel X.K cl β' m' H'->RL X.K β' H' ρ' σ'->Q σ' H'
noncomputable def EN (D:Ends) (β:List Addr) (H:Hp):F->Prop
 | .nx ρ=>∀σ,RL X.K β H ρ σ->D.nx σ H
 | .rt w=>∀v,RW X.K β H w v->D.rt v H
 | .bk ρ=>∀σ,RL X.K β H ρ σ->D.bk σ H
 | .ct ρ=>∀σ,RL X.K β H ρ σ->D.ct σ H
noncomputable def SS (ev:Loc->Mem->R F):TS:=λ D σ H=>∃β ρ m f m',Rel X.K cl β m H/\RL X.K β H ρ σ/\ev ρ m=.ok f m'/\∀β' H',Ext β H β' H'->Rel X.K cl β' m' H'->EN X D β' H' f
end
theorem PI.imp {X:L2.Cx} {tg e:Expr} {t t':TI} (h:PI X tg e t) (i:∀σ H R,t' σ H R->t σ H R):PI X tg e t':=λ pins s σ H R I q=>h pins s σ H R I (i σ H R q)
theorem PI.or {X:L2.Cx} {tg e:Expr} {t t':TI} (h:PI X tg e t) (h':PI X tg e t'):PI X tg e (fun σ H R=>t σ H R\/t' σ H R):=λ pins s σ H R I q=>q.elim (h pins s σ H R I) (h' pins s σ H R I)
theorem PG.imp {X:L2.Cx} {e:Expr} {t t':TG} (h:PG X e t) (i:∀v σ H Q,t' v σ H Q->t v σ H Q):PG X e t':=λ pins s σ H v u Q I r q=>h pins s σ H v u Q I r (i v σ H Q q)
theorem PGs.imp {X:L2.Cx} {e:List Expr} {t t':TGs} (h:PGs X e t) (i:∀v σ H Q,t' v σ H Q->t v σ H Q):PGs X e t':=λ pins s σ H v u Q I r q=>h pins s σ H v u Q I r (i v σ H Q q)
theorem PS.imp {X:L2.Cx} {e:Stmt} {t t':TS} (h:PS X e t) (i:∀D σ H,t' D σ H->t D σ H):PS X e t':=λ pins s σ H D I q=>h pins s σ H D I (i D σ H q)
theorem PSs.imp {X:L2.Cx} {e:List Stmt} {t t':TS} (h:PSs X e t) (i:∀D σ H,t' D σ H->t D σ H):PSs X e t':=λ pins s σ H D I q=>h pins s σ H D I (i D σ H q)
section
variable {X:L2.Cx} {cl:Cl} {C:D.Cx} {pos:Pos}
theorem SqF.keep {K:PySem.W.Frag} {H H':Hp} (hf:∀{a:Addr} {o:Obj} {u:HO},H a=some (.frz o u)->H' a=some (.frz o u)) {a:Addr} {vs:List V} (h:SqF K H a vs):SqF K H' a vs:=
 h.elim (λ ⟨o,e⟩=>.inl ⟨o,hf e⟩) .inr
theorem RW.keep {K:PySem.W.Frag} {β β':List Addr} {H H':Hp} (hb:∃γ,β'=β++γ) (ht:∀{a:Addr} {vs:List V},SqT K H a vs->SqT K H' a vs) (hf:∀{a:Addr} {o:Obj} {u:HO},H a=some (.frz o u)->H' a=some (.frz o u)) {w:W} {v:V} (q:RW K β H w v):RW K β' H' w v:=
 q.gen ht (λ h=>h.keep hf) hf (λ h=>by obtain ⟨γ,rfl⟩:=hb; rw [List.getElem?_append_left (List.getElem?_eq_some_iff.mp h).1]; exact h)
theorem RWs.keep {K:PySem.W.Frag} {β β':List Addr} {H H':Hp} (hb:∃γ,β'=β++γ) (ht:∀{a:Addr} {vs:List V},SqT K H a vs->SqT K H' a vs) (hf:∀{a:Addr} {o:Obj} {u:HO},H a=some (.frz o u)->H' a=some (.frz o u)) {w:List W} {v:List V} (q:RWs K β H w v):RWs K β' H' w v:=q.rE (RW.keep hb ht hf)
theorem uy {n:Nat} {a:Addr} {β0:List Addr} {H0:Hp} (hb:β0[n]?=some a):IS X cl (Itl X.K a) (.lst n) β0 H0:=by
 intro β m H i hβ _ _ r
 obtain ⟨γ,rfl⟩:=hβ
 have hb':(β0++γ)[n]?=some a:=by rw [List.getElem?_append_left (List.getElem?_eq_some_iff.mp hb).1]; exact hb
 refine ⟨λ w e=>?_,λ e=>?_⟩
 ·simp only [Src.get] at e
  split at e
  ·rename_i xs e1
   split at e
   ·rename_i w' e2
    cases e
    obtain ⟨a',vs,z,hs,t⟩:=r.getL (.ref hb') e1
    cases z
    obtain ⟨v,e3,q⟩:=t.get e2
    refine ⟨⟨vs,v,hs,e3⟩,λ x H' y=>?_⟩
    obtain ⟨rfl,y⟩:=y
    have:=y vs hs
    rw [e3] at this
    cases this
    exact ⟨Ext.refl,r,q⟩
   ·cases e
  ·cases e
 ·simp only [Src.get] at e
  split at e
  ·rename_i xs e1
   split at e
   ·cases e
   ·rename_i e2
    obtain ⟨a',vs,z,hs,t⟩:=r.getL (.ref hb') e1
    cases z
    refine ⟨vs,hs,?_⟩
    rw [<-t.length]
    exact List.getElem?_eq_none_iff.mp e2
  ·cases e
theorem uz {a:Addr} {vs:List V} {ws:List W} {β0:List Addr} {H0:Hp} (hq0:SqT X.K H0 a vs) (t0:RWs X.K β0 H0 ws vs):IS X cl (Itt X.K a) (.tup ws) β0 H0:=by
 intro β m H i hβ ht hf r
 have hq:=ht hq0
 have t:=t0.keep hβ ht hf
 refine ⟨λ w e=>?_,λ e=>?_⟩
 ·simp only [Src.get] at e
  split at e
  ·rename_i w' e2
   cases e
   obtain ⟨v,e3,q⟩:=t.get e2
   refine ⟨⟨vs,v,hq,e3⟩,λ x H' y=>?_⟩
   obtain ⟨rfl,y⟩:=y
   have:=y vs hq
   rw [e3] at this
   cases this
   exact ⟨Ext.refl,r,q⟩
  ·cases e
 ·simp only [Src.get] at e
  split at e
  ·cases e
  ·rename_i e2
   exact ⟨vs,hq,by rw [<-t.length]; exact List.getElem?_eq_none_iff.mp e2⟩
theorem yT {a:Addr} {vs:List V} {ws:List W} {β0:List Addr} {H0:Hp} (hq0:SqF X.K H0 a vs) (t0:RWs X.K β0 H0 ws vs):IS X cl (Itl X.K a) (.tup ws) β0 H0:=by
 intro β m H i hβ ht hf r
 have hq:=(hq0.keep hf).l
 have t:=t0.keep hβ ht hf
 refine ⟨λ w e=>?_,λ e=>?_⟩
 ·simp only [Src.get] at e
  split at e
  ·rename_i w' e2
   cases e
   obtain ⟨v,e3,q⟩:=t.get e2
   refine ⟨⟨vs,v,hq,e3⟩,λ x H' y=>?_⟩
   obtain ⟨rfl,y⟩:=y
   have:=y vs hq
   rw [e3] at this
   cases this
   exact ⟨Ext.refl,r,q⟩
  ·cases e
 ·simp only [Src.get] at e
  split at e
  ·cases e
  ·rename_i e2
   exact ⟨vs,hq,by rw [<-t.length]; exact List.getElem?_eq_none_iff.mp e2⟩
theorem A2 {a:Addr} {vs:List V} {ws:List W} {β0:List Addr} {H0:Hp} (hq0:SqF X.K H0 a vs) (t0:RWs X.K β0 H0 ws vs):IS X cl (Iel X.K a) (.enm (.tup ws)) β0 H0:=by
 intro β m H i hβ ht hf r
 obtain ⟨k1,k2⟩:=yT (X:=X) (cl:=cl) hq0 t0 β m H i hβ ht hf r
 refine ⟨λ w e=>?_,λ e=>?_⟩
 ·simp only [Src.get] at e k1
  split at e
  ·rename_i w' e1
   cases e
   obtain ⟨⟨xs,x,hs,hx⟩,g⟩:=k1 w' e1
   refine ⟨⟨xs,x,hs,hx⟩,λ y H' z=>?_⟩
   obtain ⟨p,v,hp,rfl,rfl,hv⟩:=z
   obtain ⟨_,_,q⟩:=g v H ⟨rfl,hv⟩
   obtain ⟨x2,r2⟩:=r.kQ hp [.int i,v]
   exact ⟨x2,r2,.tup (.of aB) (.cons (.int _) (.cons (q.mono r x2) .nil))⟩
  ·cases e
  ·cases e
 ·simp only [Src.get] at e k2
  split at e
  ·cases e
  ·rename_i e1
   exact k2 e1
  ·cases e
theorem uA {lo:Int} {n:Nat} {β0:List Addr} {H0:Hp}:IS X cl (Itr lo n) (.rng lo n) β0 H0:=by
 intro β m H i hβ _ _ r
 refine ⟨λ w e=>?_,λ e=>?_⟩
 ·simp only [Src.get] at e
  split at e
  ·rename_i h
   cases e
   refine ⟨h,λ x H' y=>?_⟩
   obtain ⟨rfl,rfl⟩:=y
   exact ⟨Ext.refl,r,.int _⟩
  ·cases e
 ·simp only [Src.get] at e
  split at e
  ·cases e
  ·rename_i h
   exact Nat.le_of_not_lt h
theorem uB {β:List Addr} {m:Mem} {H:Hp} {w:W} {v:V} {s:Src} (r:Rel X.K cl β m H) (q:RW X.K β H w v) (e:srcOf m w=some s) :
  ∃a,v=.ref a/\((∃n vs,s=.lst n/\w=.ref n/\β[n]?=some a/\SqL X.K H a vs)\/(∃ws vs,s=.tup ws/\w=.fz ws/\SqF X.K H a vs/\RWs X.K β H ws vs)\/∃ws vs,s=.tup ws/\w=.tup ws/\SqT X.K H a vs/\RWs X.K β H ws vs):=by
 cases q with
 | tup h t=>cases e; exact ⟨_,rfl,.inr (.inr ⟨_,_,rfl,rfl,h,t⟩)⟩
 | fz h t=>cases e; exact ⟨_,rfl,.inr (.inl ⟨_,_,rfl,rfl,h,t⟩)⟩
 | ref h=>
  simp only [srcOf] at e
  split at e
  ·rename_i xs e1
   cases e
   obtain ⟨a,vs,z,hs,t⟩:=r.getL (.ref h) e1
   cases z
   exact ⟨_,rfl,.inl ⟨_,_,rfl,rfl,h,hs⟩⟩
  ·cases e
 | _=>cases e
theorem pX {β:List Addr} {m:Mem} {H:Hp} {ws:List W} {v:V} {s:Src} (r:Rel X.K cl β m H) (q:RW X.K β H (.tup ws) v) (e:srcOf m (.tup ws)=some s):∃a vs,v=.ref a/\s=.tup ws/\SqT X.K H a vs/\RWs X.K β H ws vs:=by
 cases q with
 | tup h t=>cases e; exact ⟨_,_,rfl,rfl,h,t⟩
theorem uC {β:List Addr} {m:Mem} {H:Hp} {ws:List W} {v:V} {s:Src} (r:Rel X.K cl β m H) (q:RW X.K β H (.fz ws) v) (e:srcOf m (.fz ws)=some s):∃a vs,v=.ref a/\s=.tup ws/\SqF X.K H a vs/\RWs X.K β H ws vs:=by
 cases q with
 | fz h t=>cases e; exact ⟨_,_,rfl,rfl,h,t⟩
theorem pY {β:List Addr} {m:Mem} {H:Hp} {n:Nat} {v:V} {s:Src} (r:Rel X.K cl β m H) (q:RW X.K β H (.ref n) v) (e:srcOf m (.ref n)=some s):∃a vs,v=.ref a/\s=.lst n/\β[n]?=some a/\SqL X.K H a vs:=by
 obtain ⟨a,rfl,⟨n',vs,rfl,z,hb,hs⟩ | ⟨_,_,_,z,_⟩ | ⟨_,_,_,z,_⟩⟩:=uB r q e
 ·cases z; exact ⟨a,vs,rfl,rfl,hb,hs⟩
 ·cases z
 ·cases z
theorem A3 {z:Str} {β0:List Addr} {H0:Hp}:IS X cl (Its z) (.tup (signs z)) β0 H0:=by
 intro β m H i hβ _ _ r
 have hg:∀j:Nat,(signs z)[j]?=(z.cps[j]?).map λ c=>W.str ⟨#[c]⟩:=λ j=>by simp [signs]
 refine ⟨λ w e=>?_,λ e=>?_⟩
 ·simp only [Src.get,hg] at e
  cases hc:z.cps[i]? with
  | none=>rw [hc] at e; cases e
  | some c=>
   rw [hc] at e
   cases e
   have hi:i < z.cps.size:=by
    rcases Nat.lt_or_ge i z.cps.size with h | h
    ·exact h
    ·rw [Array.getElem?_eq_none h] at hc; cases hc
   refine ⟨hi,λ x H' y=>?_⟩
   obtain ⟨rfl,c',h1,rfl⟩:=y
   rw [hc] at h1; cases h1
   exact ⟨Ext.refl,r,.str _⟩
 ·simp only [Src.get,hg] at e
  cases hc:z.cps[i]? with
  | none=>exact Array.getElem?_eq_none_iff.mp hc
  | some c=>rw [hc] at e; cases e
theorem De {tg a:Expr} {d:E} (ha:PE X a (SE X cl (evE C d))) (hd:∀ρ m,evI C d ρ m=(evE C d ρ m).bind toI):PI X tg a (SI X cl (evI C d)):=by
 refine PI.imp (PI.or (PI.or (wk ha) (zX ha)) (AF ha)) ?_
 rintro σ H Rr ⟨β,ρ,m,src,m',r,l,e,k⟩
 rw [hd] at e
 obtain ⟨x,m1,e1,e⟩:=R.aa e
 unfold toI at e
 split at e
 ·rename_i s e2
  cases e
  cases x with
  | tup xs=>
   refine .inl (.inr ⟨β,ρ,m,_,_,r,l,e1,fun β1 H1 v1 x1 r1 q1=>?_⟩)
   obtain ⟨a,vs,rfl,rfl,hs,t⟩:=pX r1 q1 e2
   exact ⟨a,rfl,⟨vs,hs⟩,k _ _ _ x1 r1 (uz hs t)⟩
  | fz xs=>
   refine .inl (.inl ⟨β,ρ,m,_,_,r,l,e1,fun β1 H1 v1 x1 r1 q1=>?_⟩)
   obtain ⟨a,vs,rfl,rfl,hs,t⟩:=uC r1 q1 e2
   exact ⟨a,rfl,⟨vs,hs.l⟩,k _ _ _ x1 r1 (yT hs t)⟩
  | ref n=>
   refine .inl (.inl ⟨β,ρ,m,_,_,r,l,e1,fun β1 H1 v1 x1 r1 q1=>?_⟩)
   obtain ⟨a,vs,rfl,rfl,hb,hs⟩:=pY r1 q1 e2
   exact ⟨a,rfl,⟨vs,hs⟩,k _ _ _ x1 r1 (uy hb)⟩
  | str z=>
   refine .inr ⟨β,ρ,m,_,_,r,l,e1,fun β1 H1 v1 x1 r1 q1=>?_⟩
   cases q1
   simp only [ue] at e2
   split at e2
   ·rename_i hz
    cases e2
    exact ⟨z,rfl,hz,k _ _ _ x1 r1 A3⟩
   ·cases e2
  | _=>cases e2
 ·cases e
theorem Df {tg a:Expr} {d:E} {p:Pos} (hg:Gl X "range") (hm:X.mg "range"=none) (ha:PE X a (SE X cl (evE C d))) (hs:starEach [a] X.env=[(false,eval a X.env)]):PI X tg (.Call (.Name "range" p) [a] [] pos) (SI X cl (evI C (.rng d))):=by
 refine PI.imp (qI hg hm (bU ha dS hs) hs) ?_
 rintro σ H Rr ⟨β,ρ,m,src,m',r,l,e,k⟩
 simp only [evI] at e
 obtain ⟨x,m1,e1,e⟩:=R.aa e
 refine ⟨β,ρ,m,x,m1,r,l,e1,fun β1 H1 v1 x1 r1 q1=>?_⟩
 split at e
 ·split at e
  ·rename_i hj
   cases e; cases q1
   exact ⟨_,rfl,hj.1,hj.2,k _ _ _ x1 r1 uA⟩
  ·cases e
 ·cases e
theorem A4 {tg a b:Expr} {d d':E} {p:Pos} (hg:Gl X "range") (hm:X.mg "range"=none) (ha:PE X a (SE X cl (evE C d))) (hb:PE X b (SE X cl (evE C d'))) (hs:starEach [a,b] X.env=[(false,eval a X.env),(false,eval b X.env)]) (hs2:starEach [b] X.env=[(false,eval b X.env)]):PI X tg (.Call (.Name "range" p) [a,b] [] pos) (SI X cl (evI C (.rng2 d d'))):=by
 refine PI.imp (qJ hg hm (bU ha (bU hb dS hs2) (by rw [hs,hs2])) hs hs2) ?_
 rintro σ H Rr ⟨β,ρ,m,src,m',r,l,e,k⟩
 simp only [evI] at e
 obtain ⟨x,m1,e1,e⟩:=R.aa e
 obtain ⟨y,m2,e2,e⟩:=R.aa e
 refine ⟨β,ρ,m,x,m1,r,l,e1,fun β1 H1 v1 x1 r1 q1=>?_⟩
 refine ⟨β1,ρ,m1,y,m2,r1,l.mono r x1,e2,fun β2 H2 v2 x2 r2 q2=>?_⟩
 have q1:=q1.mono r1 x2
 split at e
 ·split at e
  ·rename_i hj
   cases e; cases q1; cases q2
   exact ⟨_,_,rfl,hj,k _ _ _ (x1.trans r1 x2) r2 uA⟩
  ·cases e
 ·cases e
theorem A5 {n:Nat} {a:Addr} {β0:List Addr} {H0:Hp} (hb:β0[n]?=some a):IS X cl (Iel X.K a) (.enm (.lst n)) β0 H0:=by
 intro β m H i hβ ht hf r
 obtain ⟨k1,k2⟩:=uy (X:=X) (cl:=cl) (H0:=H0) hb β m H i hβ ht hf r
 refine ⟨λ w e=>?_,λ e=>?_⟩
 ·simp only [Src.get] at e k1
  split at e
  ·rename_i w' e1
   cases e
   obtain ⟨⟨xs,x,hs,hx⟩,g⟩:=k1 w' e1
   refine ⟨⟨xs,x,hs,hx⟩,λ y H' z=>?_⟩
   obtain ⟨p,v,hp,rfl,rfl,hv⟩:=z
   obtain ⟨_,_,q⟩:=g v H ⟨rfl,hv⟩
   obtain ⟨x2,r2⟩:=r.kQ hp [.int i,v]
   exact ⟨x2,r2,.tup (.of aB) (.cons (.int _) (.cons (q.mono r x2) .nil))⟩
  ·cases e
  ·cases e
 ·simp only [Src.get] at e k2
  split at e
  ·cases e
  ·rename_i e1
   exact k2 e1
  ·cases e
theorem A6 {a:Addr} {vs:List V} {ws:List W} {β0:List Addr} {H0:Hp} (hq0:SqT X.K H0 a vs) (t0:RWs X.K β0 H0 ws vs):IS X cl (Iet X.K a) (.enm (.tup ws)) β0 H0:=by
 intro β m H i hβ ht hf r
 obtain ⟨k1,k2⟩:=uz (X:=X) (cl:=cl) hq0 t0 β m H i hβ ht hf r
 refine ⟨λ w e=>?_,λ e=>?_⟩
 ·simp only [Src.get] at e k1
  split at e
  ·rename_i w' e1
   cases e
   obtain ⟨⟨xs,x,hs,hx⟩,g⟩:=k1 w' e1
   refine ⟨⟨xs,x,hs,hx⟩,λ y H' z=>?_⟩
   obtain ⟨p,v,hp,rfl,rfl,hv⟩:=z
   obtain ⟨_,_,q⟩:=g v H ⟨rfl,hv⟩
   obtain ⟨x2,r2⟩:=r.kQ hp [.int i,v]
   exact ⟨x2,r2,.tup (.of aB) (.cons (.int _) (.cons (q.mono r x2) .nil))⟩
  ·cases e
  ·cases e
 ·simp only [Src.get] at e k2
  split at e
  ·cases e
  ·rename_i e1
   exact k2 e1
  ·cases e
theorem Dg {a:Expr} {d:E} {p tpos:Pos} {elts:List Expr} {x1} (hg:Gl X "enumerate") (hm:X.mg "enumerate"=none) (ha:PE X a (SE X cl (evE C d))) (hs:starEach [a] X.env=[(false,eval a X.env)]):PI X (.Tuple elts x1 tpos) (.Call (.Name "enumerate" p) [a] [] pos) (SI X cl (evI C (.enm d))):=by
 refine PI.imp (PI.or (wY hg hm (bU ha dS hs) hs) (tR hg hm (bU ha dS hs) hs)) ?_
 rintro σ H Rr ⟨β,ρ,m,src,m',r,l,e,k⟩
 simp only [evI] at e
 obtain ⟨x,m1,e1,e⟩:=R.aa e
 split at e
 ·rename_i s e2
  cases e
  cases x with
  | tup xs=>
   refine .inr ⟨β,ρ,m,_,_,r,l,e1,fun β1 H1 v1 x1 r1 q1=>?_⟩
   obtain ⟨a,vs,rfl,rfl,hs,t⟩:=pX r1 q1 e2
   exact ⟨a,rfl,⟨vs,hs⟩,k _ _ _ x1 r1 (A6 hs t)⟩
  | fz xs=>
   refine .inl ⟨β,ρ,m,_,_,r,l,e1,fun β1 H1 v1 x1 r1 q1=>?_⟩
   obtain ⟨a,vs,rfl,rfl,hs,t⟩:=uC r1 q1 e2
   exact ⟨a,rfl,⟨vs,hs.l⟩,k _ _ _ x1 r1 (A2 hs t)⟩
  | ref n=>
   refine .inl ⟨β,ρ,m,_,_,r,l,e1,fun β1 H1 v1 x1 r1 q1=>?_⟩
   obtain ⟨a,vs,rfl,rfl,hb,hs⟩:=pY r1 q1 e2
   exact ⟨a,rfl,⟨vs,hs⟩,k _ _ _ x1 r1 (A5 hb)⟩
  | _=>cases e2
 ·cases e
theorem RL.set {K:PySem.W.Frag} {β:List Addr} {H:Hp} {ρ:Loc} {σ:L2.St} {i:Nat} {w:W} {v:V} (l:RL K β H ρ σ) (q:RW K β H w v):RL K β H (ρ.set i (some w)) (σ.set i (some v)):=by
 refine ⟨by simp [l.len],λ {j w'} h=>?_⟩
 by_cases e:i=j
 ·subst e
  have hl:i < ρ.length:=by have:=(List.getElem?_eq_some_iff.mp h).1; simpa using this
  rw [List.getElem?_set_self hl] at h
  cases h
  exact ⟨v,List.getElem?_set_self (by rw [<-l.len]; exact hl),q⟩
 ·rw [List.getElem?_set_ne e] at h ⊢
  exact l.at_ h
theorem yU {i:Nat} {x:Str} (hN:X.N.Nodup) (hi:X.N[i]?=some x) (hx:L2.Loc X.env.scope x) (hf:X.fn x=true\/X.env.scope.names.lookup x=some .local):PG X (.Name x pos) (SG X cl (evA C (.pt (.var i)))):=by
 refine PG.imp (wg hN hi hx hf) ?_
 rintro v σ H Q ⟨β,ρ,m,w,ρ',m',r,l,q,e,k⟩
 simp only [evA,au] at e
 cases e
 exact k _ _ _ Ext.refl r (l.set q)
theorem uD:PGs X [] (SGs X cl (cz C .nil)):=by
 refine PGs.imp wj ?_
 rintro vs σ H Q ⟨β,ρ,m,ws,ρ',m',r,l,q,e,k⟩
 cases q with
 | nil=>
  simp only [cz] at e
  cases e
  exact ⟨rfl,k _ _ _ Ext.refl r l⟩
 | cons _ _=>simp only [cz] at e; cases e
theorem pZ {a:Expr} {es:List Expr} {da:A} {ds:As} (h1:PG X a (SG X cl (evA C da))) (h2:PGs X es (SGs X cl (cz C ds))) (hs:(assignEach (a::es) X.env).map (·.2)=assign a X.env::(assignEach es X.env).map (·.2)):PGs X (a::es) (SGs X cl (cz C (.cons da ds))):=by
 refine PGs.imp (sQ h1 h2 hs) ?_
 rintro vs σ H Q ⟨β,ρ,m,ws,ρ',m',r,l,q,e,k⟩
 cases q with
 | nil=>simp only [cz] at e; cases e
 | cons q1 q2=>
  simp only [cz] at e
  obtain ⟨ρ1,m1,e1,e⟩:=R.aa e
  refine ⟨_,_,rfl,β,ρ,m,_,ρ1,m1,r,l,q1,e1,fun β1 H1 σ1 x1 r1 l1=>?_⟩
  exact ⟨β1,ρ1,m1,_,ρ',m',r1,l1,q2.mono r x1,e,fun β2 H2 σ2 x2 r2 l2=>k _ _ _ (x1.trans r1 x2) r2 l2⟩
noncomputable def As.len:As->Nat
 | .nil=>0
 | .cons _ l=>l.len+1
theorem i8 {C:D.Cx}:∀{ds:As} {ws:List W} {ρ ρ':Loc} {m m':Mem},cz C ds ws ρ m=.ok ρ' m'->ws.length=ds.len
 | .nil,ws,_,_,_,_,e=>by
  cases ws with
  | nil=>rfl
  | cons _ _=>simp only [cz] at e; cases e
 | .cons a l,ws,_,_,_,_,e=>by
  cases ws with
  | nil=>simp only [cz] at e; cases e
  | cons w ws=>
   simp only [cz] at e
   obtain ⟨ρ1,m1,e1,e⟩:=R.aa e
   rw [List.length_cons,i8 e]; rfl
theorem PG.or {e:Expr} {t t':TG} (h:PG X e t) (h':PG X e t'):PG X e (λ v σ H Q=>t v σ H Q\/t' v σ H Q):=λ pins s σ H v u Q I r q=>q.elim (h pins s σ H v u Q I r) (h' pins s σ H v u Q I r)
theorem yV {es:List Expr} {k:Nat} {ds:As} (hc:X.calm=true) (h:PGs X es (SGs X cl (cz C ds))) (hn:(assignEach es X.env).length=ds.len) (hst:(assignEach es X.env).findIdx? (·.1)=none):PG X (.Tuple es k pos) (SG X cl (evA C (.tup ds))):=by
 refine PG.imp (PG.or (zS hc h hn hst) (AH hc h hn hst)) ?_
 rintro v σ H Q ⟨β,ρ,m,w,ρ',m',r,l,q,e,k⟩
 simp only [evA] at e
 split at e
 ·rename_i xs e1
  obtain ⟨a,vs,rfl,hs,t⟩:=r.aC q e1
  rcases hs with hs | hs
  ·exact .inr ⟨_,_,rfl,hs,by rw [<-t.length]; exact i8 e,β,ρ,m,_,ρ',m',r,l,t,e,k⟩
  ·exact .inl ⟨_,_,rfl,hs,by rw [<-t.length]; exact i8 e,β,ρ,m,_,ρ',m',r,l,t,e,k⟩
 ·cases e
noncomputable def T.oK:Ts->As
 | .nil=>.nil
 | .cons t ts=>.cons (.pt t) (T.oK ts)
theorem gC {C:D.Cx}:∀(ts:Ts) (ws:List W) (ρ ρ':Loc) (m:Mem),bG ts ws ρ=some ρ'->cz C (T.oK ts) ws ρ m=.ok ρ' m
 | .nil,ws,ρ,ρ',m,h=>by
  cases ws with
  | nil=>simp only [bG] at h; cases h; simp only [T.oK,cz]
  | cons _ _=>simp only [bG] at h; cases h
 | .cons t ts,ws,ρ,ρ',m,h=>by
  cases ws with
  | nil=>simp only [bG] at h; cases h
  | cons w ws=>
   simp only [bG] at h
   split at h
   ·rename_i ρ1 e1
    simp only [T.oK,cz,evA,e1,R.bind]
    exact gC ts ws ρ1 ρ' m h
   ·cases h
theorem A7 {es:List Expr} {k:Nat} {ts:Ts} (h:PG X (.Tuple es k pos) (SG X cl (evA C (.tup (T.oK ts))))):PG X (.Tuple es k pos) (SG X cl (evA C (.pt (.tup ts)))):=by
 refine PG.imp h ?_
 rintro v σ H Q ⟨β,ρ,m,w,ρ',m',r,l,q,e,k⟩
 refine ⟨β,ρ,m,w,ρ',m',r,l,q,?_,k⟩
 simp only [evA,au] at e ⊢
 cases w with
 | tup xs=>
  simp only [aC] at e ⊢
  split at e
  ·rename_i ρ1 e1
   cases e
   exact gC _ _ _ _ _ e1
  ·cases e
 | fz xs=>
  simp only [aC,getL] at e ⊢
  split at e
  ·rename_i ρ1 e1
   cases e
   exact gC _ _ _ _ _ e1
  ·cases e
 | _=>cases e
theorem A8:zR X (λ o i v H Q=>∃β m wo wi wv m',Rel X.K cl β m H/\RW X.K β H wo o/\RW X.K β H wi i/\RW X.K β H wv v/\mw wo wi wv m=.ok () m'/\∀β' H',Ext β H β' H'->Rel X.K cl β' m' H'->Q H'):=by
 intro pins s σ H o i v ov iv u Q I r1 r2 r3 h
 obtain ⟨β,m,wo,wi,wv,m',r,qo,qi,qv,e,k⟩:=h
 unfold mw at e
 split at e
 ·split at e
  ·rename_i xs e1
   split at e
   ·rename_i j e2
    cases e; cases qi
    obtain ⟨a,vs,rfl,hb,ha,t⟩:=r.lst qo e1
    obtain ⟨x2,r2'⟩:=r.rF e1 hb (t.set qv j)
    exact set_list pins s σ H _ _ _ ov iv u Q I r1 r2 r3 ⟨_,_,_,_,rfl,rfl,ha,by rw [<-t.length]; exact e2,k _ _ x2 r2'⟩
   ·cases e
  ·cases e
 ·cases e
theorem Dh {o i:Expr} {do_ di:E} (ho:PE X o (SE X cl (evE C do_))) (hi:PE X i (SE X cl (evE C di))) (ha:∀v,assign (.Subscript o i pos) X.env v=(do
   let ov <-holding [v] (eval o X.env)
   let iv <-holding [v,ov] (eval i X.env)
   standAt pos
   holding [v,ov,iv] (setItem ov iv v)
   release [v,ov,iv] [])):PG X (.Subscript o i pos) (SG X cl (evA C (.sub do_ di))):=by
 refine PG.imp (zT ho hi (A8 (cl:=cl)) ha) ?_
 rintro v σ H Q ⟨β,ρ,m,w,ρ',m',r,l,q,e,k⟩
 simp only [evA] at e
 obtain ⟨x,m1,e1,e⟩:=R.aa e
 obtain ⟨y,m2,e2,e⟩:=R.aa e
 obtain ⟨u,m3,e3,e⟩:=R.aa e
 cases e
 refine ⟨β,ρ,m,x,m1,r,l,e1,fun β1 H1 v1 x1 r1 q1=>?_⟩
 refine ⟨β1,ρ,m1,y,m2,r1,l.mono r x1,e2,fun β2 H2 v2 x2 r2 q2=>?_⟩
 exact ⟨β2,m2,x,y,w,_,r2,q1.mono r1 x2,q2,(q.mono r x1).mono r1 x2,e3,fun β3 H3 x3 r3=>k _ _ _ ((x1.trans r1 x2).trans r2 x3) r3 (((l.mono r x1).mono r1 x2).mono r2 x3)⟩
theorem A9:PSs X [] (SS X cl (aE C .nil)):=by
 refine PSs.imp v8 ?_
 rintro D σ H ⟨β,ρ,m,f,m',r,l,e,k⟩
 simp only [aE] at e
 cases e
 exact k _ _ Ext.refl r σ l
theorem xA {st:Stmt} {rest:List Stmt} {d:S} {ds:Ss} (h1:PS X st (SS X cl (evS C d))) (h2:PSs X rest (SS X cl (aE C ds))):PSs X (st::rest) (SS X cl (aE C (.cons d ds))):=by
 refine PSs.imp (sN h1 h2) ?_
 rintro D σ H ⟨β,ρ,m,f,m',r,l,e,k⟩
 simp only [aE] at e
 obtain ⟨f1,m1,e1,e⟩:=R.aa e
 refine ⟨β,ρ,m,f1,m1,r,l,e1,fun β1 H1 x1 r1=>?_⟩
 cases f1 with
 | nx ρ1=>
  intro σ1 l1
  exact ⟨β1,ρ1,m1,f,m',r1,l1,e,fun β2 H2 x2 r2=>k _ _ (x1.trans r1 x2) r2⟩
 | rt w=>simp only at e; cases e; exact k _ _ x1 r1
 | bk ρ1=>simp only at e; cases e; exact k _ _ x1 r1
 | ct ρ1=>simp only at e; cases e; exact k _ _ x1 r1
theorem Ba {tg a:Expr} {d:E} {da:A} (he:PE X a (SE X cl (evE C d))) (hg:PG X tg (SG X cl (evA C da))) (hs:swapsWithSole [tg] a pos.line X.env=pure false) (hw:swappedStores [tg] a X.env=pure none) (h1:(assignEach [tg] X.env).map (·.2)=[assign tg X.env]):PS X (.Assign [tg] a pos) (SS X cl (evS C (.asg da d))):=by
 refine PS.imp (zU he hg hs hw h1) ?_
 rintro D σ H ⟨β,ρ,m,f,m',r,l,e,k⟩
 simp only [evS] at e
 obtain ⟨w,m1,e1,e⟩:=R.aa e
 obtain ⟨ρ2,m2,e2,e⟩:=R.aa e
 cases e
 refine ⟨β,ρ,m,w,m1,r,l,e1,fun β1 H1 v1 x1 r1 q1=>?_⟩
 exact ⟨β1,ρ,m1,w,ρ2,_,r1,l.mono r x1,q1,e2,fun β2 H2 σ2 x2 r2 l2=>k _ _ (x1.trans r1 x2) r2 σ2 l2⟩
theorem uE {x:Str} {i:Nat} {a:Expr} {d:E} {p:Pos} (hN:X.N.Nodup) (hi:X.N[i]?=some x) (hx:L2.Loc X.env.scope x) (he:PE X a (SE X cl (evE C d))) (hs:swapsWith a (some (.Name x p)) pos.line X.env=pure false) (hf:X.fn x=true\/X.env.scope.names.lookup x=some .local):PS X (.Assign [.Name x p] a pos) (SS X cl (evS C (.asg (.pt (.var i)) d))):=by
 refine PS.imp (zV hN hi hx he hs hf) ?_
 rintro D σ H ⟨β,ρ,m,f,m',r,l,e,k⟩
 simp only [evS] at e
 obtain ⟨w,m1,e1,e⟩:=R.aa e
 simp only [evA,au,R.bind] at e
 cases e
 exact ⟨β,ρ,m,w,_,r,l,e1,fun β1 H1 v1 x1 r1 q1=>k _ _ x1 r1 _ ((l.mono r x1).set q1)⟩
theorem Bb {i j:Nat} {x y:Str} {a b:Expr} {da db:E} {px py pt pt2:Pos} {kt k2} (hc:X.calm=true) (hN:X.N.Nodup) (hi:X.N[i]?=some x) (hj:X.N[j]?=some y) (hij:i≠j) (hx:X.env.scope.names.lookup x=some .local) (hy:X.env.scope.names.lookup y=some .local)
  (ha:PA X [a,b] (SA X cl (aI C (.cons da (.cons db .nil))))) (hw:swappedStores [.Tuple [.Name x px,.Name y py] kt pt] (.Tuple [a,b] k2 pt2) X.env=pure (some [x,y])) (hs:swapsWithSole [.Tuple [.Name x px,.Name y py] kt pt] (.Tuple [a,b] k2 pt2) pos.line X.env=pure false) :
  PS X (.Assign [.Tuple [.Name x px,.Name y py] kt pt] (.Tuple [a,b] k2 pt2) pos) (SS X cl (evS C (.asg (.pt (.tup (.cons (.var i) (.cons (.var j) .nil)))) (.tup (.cons da (.cons db .nil)))))):=by
 refine PS.imp (zW hc hN hi hj hij hx hy ha hw hs) ?_
 rintro D σ H ⟨β,ρ,m,f,m',r,l,e,k⟩
 simp only [evS,evE] at e
 obtain ⟨w,m1,e1,e⟩:=R.aa e
 obtain ⟨ws,m2,e2,e3⟩:=R.aa e1
 split at e3
 ·cases e3
  refine ⟨β,ρ,m,ws,_,r,l,e2,fun β1 H1 v1 x1 r1 q1=>?_⟩
  obtain ⟨ρ2,m3,e4,e⟩:=R.aa e
  cases e
  simp only [evA,au] at e4
  cases q1 with
  | nil=>simp only [bG] at e4; cases e4
  | cons q1 q2=>
   cases q2 with
   | nil=>simp only [bG,au] at e4; cases e4
   | cons q2 q3=>
    cases q3 with
    | nil=>
     simp only [bG,au] at e4
     cases e4
     exact ⟨_,_,rfl,k _ _ x1 r1 _ (((l.mono r x1).set q1).set q2)⟩
    | cons _ _=>simp only [bG,au] at e4; cases e4
 ·cases e3
theorem xB {a:Expr} {d:E} (he:PE X a (SE X cl (evE C d))) (hs:swapsWith a none pos.line X.env=pure false):PS X (.Expr a pos) (SS X cl (evS C (.expr d))):=by
 refine PS.imp (wc he hs) ?_
 rintro D σ H ⟨β,ρ,m,f,m',r,l,e,k⟩
 simp only [evS] at e
 obtain ⟨w,m1,e1,e⟩:=R.aa e
 cases e
 exact ⟨β,ρ,m,w,_,r,l,e1,fun β1 H1 v1 x1 r1 q1=>k _ _ x1 r1 _ (l.mono r x1)⟩
theorem Bc {a:Expr} {d:E} (he:PE X a (SE X cl (evE C d))):PS X (.Return (some a) pos) (SS X cl (evS C (.ret d))):=by
 refine PS.imp (zO he) ?_
 rintro D σ H ⟨β,ρ,m,f,m',r,l,e,k⟩
 simp only [evS] at e
 obtain ⟨w,m1,e1,e⟩:=R.aa e
 cases e
 exact ⟨β,ρ,m,w,_,r,l,e1,fun β1 H1 v1 x1 r1 q1=>k _ _ x1 r1 _ q1⟩
theorem xC:PS X (.Return none pos) (SS X cl (evS C .retN)):=by
 refine PS.imp we ?_
 rintro D σ H ⟨β,ρ,m,f,m',r,l,e,k⟩
 simp only [evS] at e
 cases e
 exact k _ _ Ext.refl r _ .non
theorem xD:PS X (.Pass pos) (SS X cl (evS C .pass)):=by
 refine PS.imp v9 ?_
 rintro D σ H ⟨β,ρ,m,f,m',r,l,e,k⟩
 simp only [evS] at e
 cases e
 exact k _ _ Ext.refl r _ l
theorem Bd:PS X (.Break pos) (SS X cl (evS C .brk)):=by
 refine PS.imp sO ?_
 rintro D σ H ⟨β,ρ,m,f,m',r,l,e,k⟩
 simp only [evS] at e
 cases e
 exact k _ _ Ext.refl r _ l
theorem xE:PS X (.Continue pos) (SS X cl (evS C .cont)):=by
 refine PS.imp lQ ?_
 rintro D σ H ⟨β,ρ,m,f,m',r,l,e,k⟩
 simp only [evS] at e
 cases e
 exact k _ _ Ext.refl r _ l
theorem uF {st:Stmt}:PS X st (SS X cl (evS C .never)):=by
 refine PS.imp sP ?_
 rintro D σ H ⟨β,ρ,m,f,m',r,l,e,k⟩
 simp only [evS] at e
 cases e
theorem Di {t:Expr} {dt:E} {a b:List Stmt} {da db:Ss} (ht:PT X t (ST X cl (evT C dt))) (ha:PSs X a (SS X cl (aE C da))) (hb:PSs X b (SS X cl (aE C db))):PS X (.If t a b pos) (SS X cl (evS C (.ife dt da db))):=by
 refine PS.imp (Ca ht ha hb) ?_
 rintro D σ H ⟨β,ρ,m,f,m',r,l,e,k⟩
 simp only [evS] at e
 obtain ⟨c,m1,e1,e⟩:=R.aa e
 refine ⟨β,ρ,m,c,m1,r,l,e1,fun β1 H1 x1 r1=>?_⟩
 split at e
 ·rename_i hc
  rw [if_pos hc]
  exact ⟨β1,ρ,m1,f,m',r1,l.mono r x1,e,fun β2 H2 x2 r2=>k _ _ (x1.trans r1 x2) r2⟩
 ·rename_i hc
  rw [if_neg hc]
  exact ⟨β1,ρ,m1,f,m',r1,l.mono r x1,e,fun β2 H2 x2 r2=>k _ _ (x1.trans r1 x2) r2⟩
theorem Ext.sq {β β':List Addr} {m:Mem} {H H':Hp} (r:Rel X.K cl β m H) (x:Ext β H β' H') {a:Addr} {vs:List V} (h:SqT X.K H a vs):SqT X.K H' a vs:=x.sqT r noD h
theorem Be {tg iter:Expr} {t:T} {it:E} {body:List Stmt} {db:Ss} (hp:PassesOwn (model X.prog X.w) X.A X.env X.xe) (hc:X.calm=true) (hi:PI X tg iter (SI X cl (evI C it))) (hg:PG X tg (SG X cl (evA C (.pt t)))) (hb:PSs X body (SS X cl (aE C db)))
  (hs:∀x,foldedSetIterable iter X.env x=pure x):PS X (.For tg iter body [] pos) (SS X cl (evS C (.for_ t it db))):=by
 refine PS.imp (zY hp hc hi hg hb hs) ?_
 rintro D σ H ⟨β,ρ,m,f,m',r,l,e,k⟩
 simp only [evS] at e
 obtain ⟨src,m1,e1,e⟩:=R.aa e
 refine ⟨β,ρ,m,src,m1,r,l,e1,fun β1 H1 J x1 r1 is=>?_⟩
 refine ⟨λ i n σ H=>∃β ρ m,Ext β1 H1 β H/\Rel X.K cl β m H/\RL X.K β H ρ σ/\fC src.get t (fun ρ m=>aE C db ρ m) n i ρ m=.ok f m',⟨_,β1,ρ,m1,Ext.refl,r1,l.mono r x1,e⟩,?_⟩
 rintro i n σ H ⟨β2,ρ2,m2,x2,r2,l2,e2⟩
 have pre:∃γ,β2=β1++γ:=let ⟨γ,h,_⟩:=x2.pre; ⟨γ,h⟩
 obtain ⟨go,stop⟩:=is β2 m2 H i pre (λ h=>x2.sq r1 h) (λ h=>x2.fz r1 noD h) r2
 unfold fC at e2
 split at e2
 ·cases e2
 ·rename_i e3
  cases e2
  exact .inl ⟨stop e3,k _ _ (x1.trans r1 x2) r2 _ l2⟩
 ·rename_i w e3
  obtain ⟨g1,g2⟩:=go w e3
  refine .inr ⟨g1,?_⟩
  split at e2
  ·cases e2
  ·rename_i n'
   split at e2
   ·cases e2
   ·rename_i ρ3 e4
    obtain ⟨ff,m4,e5,e6⟩:=R.aa e2
    refine ⟨fun σ' H'=>∃β ρ m,Ext β1 H1 β H'/\Rel X.K cl β m H'/\RL X.K β H' ρ σ'/\fC src.get t (fun ρ m=>aE C db ρ m) n' (i+1) ρ m=.ok f m',fun σ' H' h=>⟨n',Nat.lt_succ_self _,h⟩,λ x H' y=>?_⟩
    obtain ⟨x3,r3,q3⟩:=g2 x H' y
    refine ⟨β2,ρ2,m2,w,ρ3,m2,r3,l2.mono r2 x3,q3,by simp only [evA,e4],fun β5 H5 σ5 x5 r5 l5=>?_⟩
    refine ⟨β5,ρ3,m2,ff,m4,r5,l5,e5,fun β6 H6 x6 r6=>?_⟩
    have x16:=((x2.trans r2 x3).trans r3 x5).trans r5 x6
    cases ff with
    | nx ρ6=>exact fun σ6 l6=>⟨β6,ρ6,m4,x16,r6,l6,e6⟩
    | ct ρ6=>exact fun σ6 l6=>⟨β6,ρ6,m4,x16,r6,l6,e6⟩
    | bk ρ6=>cases e6; exact fun σ6 l6=>k _ _ (x1.trans r1 x16) r6 σ6 l6
    | rt w6=>cases e6; exact λ v6 q6=>k _ _ (x1.trans r1 x16) r6 v6 q6
end
end D
end
section
namespace D
open PySem PySem.Spec PyProof.Rows L2
noncomputable def kU (prog:Program) (w:World) (A:Around) (e elt:Expr) (d:Nat) (acc:Value) (env:Env) (Q:Shared->Prop):Option Comprehension->Shared->Prop
 | none,s=>wpAny (model prog w) A (eval elt env) (λ x s₄=>wpAny (model prog w) A (call (.builtin "list.append") [acc,x]) (λ _ s₅=>Q s₅) (λ _ _=>False) s₄) (λ _ _=>False) s
 | some g',s=>wpAny (model prog w) A (eval g'.iter env) (λ x s₄=>wpAny (model prog w) A (pyIter x) (λ it' s₅=>codeAny (model prog w) A (.compStart e (d+1) it' acc env) (λ r s₆=>match r with
   | .ok _=>Q s₆
   | .error _=>False) s₅) (λ _ _=>False) s₄) (λ _ _=>False) s
theorem jK (elt target iter:Expr) (gens:List Comprehension) (ifs:List Expr) (scope:Scope) (pos:Pos) (d:Nat) (it acc:Value) (env:Env) (h:gens[d]?=some ⟨target,iter,ifs,0⟩) (hn:gens[d+1]?=none) :
  compTurn (.ListComp elt gens scope pos) d it acc env=(do
   standAt iter.pos
   match <-pyNext it with
   | none=>pure (.done .next)
   | some v=>
    letOwnedTupleGo target it v
    assign target env v
    let mut ok:=true
    for c in ifs do
     if ok then ok <-isTrue c env (eval c env)
    if ok then
     (do let _ <-call (.builtin "list.append") [acc,<-eval elt env])
    again (.compLoop (.ListComp elt gens scope pos) d it acc env)):=by
 unfold compTurn
 simp only [h,hn]
 rfl
theorem jL (elt target iter target' iter':Expr) (gens:List Comprehension) (ifs ifs':List Expr) (scope:Scope) (pos:Pos) (d:Nat) (it acc:Value) (env:Env) (h:gens[d]?=some ⟨target,iter,ifs,0⟩) (hn:gens[d+1]?=some ⟨target',iter',ifs',0⟩) :
  compTurn (.ListComp elt gens scope pos) d it acc env=(do
   standAt iter.pos
   match <-pyNext it with
   | none=>pure (.done .next)
   | some v=>
    letOwnedTupleGo target it v
    assign target env v
    let mut ok:=true
    for c in ifs do
     if ok then ok <-isTrue c env (eval c env)
    if ok then
     let x <-eval iter' env
     standAt iter'.pos
     let x <-foldedSetIterable iter' env x
     let _ <-runOwn (.compStart (.ListComp elt gens scope pos) (d+1) (<-holding [x] (pyIter x)) acc env) env
    again (.compLoop (.ListComp elt gens scope pos) d it acc env)):=by
 unfold compTurn
 simp only [h,hn]
 rfl
section
variable {prog:Program} {w:World} {A:Around} {R:Result->Shared->Prop} {s:Shared}
theorem kW {elt target iter:Expr} {gens:List Comprehension} {ifs:List Expr} {scope:Scope} {pos:Pos} {d:Nat} {it acc:Value} {env:Env} (hg:gens[d]?=some ⟨target,iter,ifs,0⟩) (hn:∀g',gens[d+1]?=some g'->g'.is_async=0/\∀x,foldedSetIterable g'.iter env x=pure x) (I:Nat->Shared->Prop)
  (turn:∀n s,I n s->wpAny (model prog w) A (pyNext it) (λ r s₁=>match r with
   | none=>R (.ok .next) s₁
   | some v=>wpAny (model prog w) A (letOwnedTupleGo target it v) (λ _ s₁'=>wpAny (model prog w) A (assign target env v) (λ _ s₂=>
     wpAny (model prog w) A (forIn ifs true λ c r=>if r=true then do let ok <-isTrue c env (eval c env); pure (ForInStep.yield ok) else pure (ForInStep.yield r)) (λ ok s₃=>
      if ok=true then kU prog w A (.ListComp elt gens scope pos) elt d acc env (λ s₅=>∃m,m < n/\I m s₅) gens[d+1]? s₃
      else ∃m,m < n/\I m s₃) (λ _ _=>False) s₂) (λ _ _=>False) s₁') (λ _ _=>False) s₁) (λ _ _=>False) s)
  (n:Nat) (h:I n s) :
  codeAny (model prog w) A (.compLoop (.ListComp elt gens scope pos) d it acc env) R s:=by
 refine codeAny_loop rfl I (λ n s hI=>?_) n h
 show wpAny _ A ((compTurn (.ListComp elt gens scope pos) d it acc env).onRaise (λ x=>do noteFrame x env; theTreesLotGoes x)) _ _ s
 refine wpAny_noted ?_
 cases hx:gens[d+1]? with
 | none=>
  rw [jK _ _ _ _ _ _ _ _ _ _ _ hg hx]
  refine wpAny_bind (wpAny_standAt (wpAny_bind (wpAny_mono (turn n s hI) (λ r s₁ h₁=>?_) λ _ _ h'=>h'.elim)))
  cases r with
  | none=>exact wpAny_pure h₁
  | some v=>
   refine wpAny_bind (wpAny_mono h₁ (λ _ s₁' h₁'=>?_) λ _ _ h'=>h'.elim)
   refine wpAny_bind (wpAny_mono h₁' (λ _ s₂ h₂=>wpAny_bind (wpAny_mono h₂ (λ ok s₃ h₃=>?_) λ _ _ h'=>h'.elim)) λ _ _ h'=>h'.elim)
   cases ok with
   | false=>exact wpAny_pure ⟨rfl,h₃⟩
   | true=>
    rw [hx] at h₃
    exact wpAny_bind (wpAny_bind (wpAny_mono h₃ (λ x s₄ h₄=>wpAny_bind (wpAny_mono h₄ (λ _ s₅ h₅=>wpAny_pure (wpAny_pure ⟨rfl,h₅⟩)) λ _ _ h'=>h'.elim)) λ _ _ h'=>h'.elim))
 | some g'=>
  obtain ⟨target',iter',ifs',as⟩:=g'
  obtain ⟨h0,hfs⟩:=hn _ hx
  have h0:as=0:=h0
  subst h0
  rw [jL _ _ _ _ _ _ _ _ _ _ _ _ _ _ hg hx]
  refine wpAny_bind (wpAny_standAt (wpAny_bind (wpAny_mono (turn n s hI) (λ r s₁ h₁=>?_) λ _ _ h'=>h'.elim)))
  cases r with
  | none=>exact wpAny_pure h₁
  | some v=>
   refine wpAny_bind (wpAny_mono h₁ (λ _ s₁' h₁'=>?_) λ _ _ h'=>h'.elim)
   refine wpAny_bind (wpAny_mono h₁' (λ _ s₂ h₂=>wpAny_bind (wpAny_mono h₂ (λ ok s₃ h₃=>?_) λ _ _ h'=>h'.elim)) λ _ _ h'=>h'.elim)
   cases ok with
   | false=>exact wpAny_pure ⟨rfl,h₃⟩
   | true=>
    rw [hx] at h₃
    refine wpAny_bind (wpAny_mono h₃ (λ x s₄ h₄=>?_) λ _ _ h'=>h'.elim)
    refine wpAny_bind (wpAny_standAt (wpAny_bind (wpAny_of_eq (hfs x) (wpAny_bind (wpAny_holding (wpAny_mono h₄ (λ it' s₅ h₅=>?_) λ _ _ h'=>h'.elim))))))
    refine wpAny_bind (wpAny_runOwn (codeAny_mono h₅ λ r s₆ h₆=>?_))
    cases r with
    | ok f=>exact wpAny_pure ⟨rfl,h₆⟩
    | error e=>exact h₆.elim
theorem fE {elt target iter:Expr} {gens:List Comprehension} {ifs:List Expr} {scope:Scope} {pos:Pos} {d:Nat} {it acc:Value} {env:Env} (hg:gens[d]?=some ⟨target,iter,ifs,0⟩)
  (h0:codeAny (model prog w) A (.compLoop (.ListComp elt gens scope pos) d it acc env) R s)
  (h:wpAny (model prog w) A (pyIter it) (λ it' s'=>codeAny (model prog w) A (.compLoop (.ListComp elt gens scope pos) d it' acc env) R s')
   (notedBy (model prog w) A env λ x s'=>R (.error x) s') s) :
  codeAny (model prog w) A (.compStart (.ListComp elt gens scope pos) d it acc env) R s:=by
 refine codeAny_of_tree ?_
 show wpAny _ _ ((compStart (.ListComp elt gens scope pos) d it acc env).onRaise (λ x=>do noteFrame x env; standAt theWindowsPlace)) _ _ s
 refine wpAny_notedAt ?_
 unfold compStart
 have hcl:(clausesOf (.ListComp elt gens scope pos))[d]?=some ⟨target,iter,ifs,0⟩:=hg
 simp only [hcl]
 show wpAny _ _ (ask >>= _) _ _ s
 refine wpAny_bind (wpAny_askSetting (wpAny_ite ?_))
 split
 ·first
   | exact wpAny_bind (wpAny_pure (wpAny_pure (And.intro rfl h0)))
   | exact wpAny_pure (And.intro rfl h0)
 ·first
   | exact wpAny_bind (wpAny_rule (wpAny_bind (wpAny_standAt (wpAny_bind (wpAny_mono h (λ it' s' h'=>wpAny_pure (And.intro rfl h')) λ _ _ x=>x)))))
   | (refine wpAny_bind (wpAny_rule ?_); show wpAny _ _ (standAt iter.pos >>= _) _ _ s; exact wpAny_bind (wpAny_standAt (wpAny_bind (wpAny_mono h (λ it' s' h'=>wpAny_pure (And.intro rfl h')) λ _ _ x=>x))))
end
end D
end
section
namespace D
open PySem PySem.Spec PyProof.Rows L2
noncomputable def PB (X:L2.Cx) (e elt:Expr) (gens:List Comprehension) (d:Nat) (Δ:Addr) (t:L2.St->Hp->(L2.St->Hp->Prop)->Prop):Prop:=
 ∀(pins:List (Addr×Obj)) (s:Shared) (σ:L2.St) (H:Hp) (Q:L2.St->Hp->Prop),Inv X pins σ H s->t σ H Q->
  kU X.prog X.w X.A e elt d (.ref Δ) X.env (λ s'=>∃σ' H',Inv X pins σ' H' s'/\Q σ' H') gens[d+1]? s
noncomputable def SB (X:L2.Cx) (cl:Cl) (Δ:Addr) (ev:Loc->Mem->List W->R (List W×Loc)):L2.St->Hp->(L2.St->Hp->Prop)->Prop:=fun σ H Q=>
 ∃β ρ m acc vs acc' ρ' m',Rel X.K cl β m H/\RL X.K β H ρ σ/\H Δ=some (.lst vs)/\Δ∉β/\RWs X.K β H acc vs/\ev ρ m acc=.ok (acc',ρ') m'/\
  ∀β' H' σ' vs',bT (some Δ) β H β' H'->Rel X.K cl β' m' H'->RL X.K β' H' ρ' σ'->H' Δ=some (.lst vs')->Δ∉β'->RWs X.K β' H' acc' vs'->Q σ' H'
section
variable {X:L2.Cx} {cl:Cl} {C:D.Cx} {e elt:Expr} {gens:List Comprehension} {d:Nat} {Δ:Addr}
theorem Ext.oE {β β':List Addr} {H H':Hp} {vs:List V} (x:Ext β H β' H') (hd:H Δ=some (.lst vs)) (hn:Δ∉β):H' Δ=some (.lst vs)/\Δ∉β':=by
 refine ⟨x.keep hd hn (by simp),λ z=>?_⟩
 obtain ⟨γ,rfl,hγ⟩:=x.pre
 rcases List.mem_append.mp z with z | z
 ·exact hn z
 ·rw [hγ _ z] at hd; cases hd
theorem isL {H:Hp} {vs:List V} (hd:H Δ=some (.lst vs)):∀d,some Δ=some d->∃vs,H d=some (.lst vs):=λ d z=>by cases z; exact ⟨_,hd⟩
theorem xF {H:Hp} {vs:List V} (hd:H Δ=some (.lst vs)):∀d,some Δ=some d->H d≠none:=λ d z=>by cases z; rw [hd]; exact λ z=>nomatch z
theorem Bf {de:E} (hx:X.xe=λ _ _=>False) (hn:gens[d+1]?=none) (he:PE X elt (SE X cl (evE C de))):PB X e elt gens d Δ (SB X cl Δ (evG C (.elt de))):=by
 intro pins s σ H Q I h
 obtain ⟨β,ρ,m,acc,vs,acc',ρ',m',r,l,hd,nd,q,ev,k⟩:=h
 simp only [evG] at ev
 obtain ⟨w,m1,e1,ev⟩:=R.aa ev
 split at ev
 ·rename_i hl
  cases ev
  rw [hn]
  have go:=he pins s σ H (λ v H1=>∃β1,Ext β H β1 H1/\Rel X.K cl β1 m' H1/\RW X.K β1 H1 w v) I ⟨β,ρ,m,w,m',r,l,e1,fun β1 H1 v1 x1 r1 q1=>⟨β1,x1,r1,q1⟩⟩
  rw [hx] at go
  refine wpAny_mono go (λ u s1 ⟨v,H1,I1,rv,β1,x1,r1,q1⟩=>?_) λ _ _ z=>z
  obtain ⟨hd1,nd1⟩:=x1.oE hd nd
  have hlen:vs.length < sizeLine:=Nat.lt_of_lt_of_le (by rw [<-q.length]; exact hl) bH
  have ap:=j3 (X:=X) pins s1 σ H1 (.ref Δ) [v] (.ref Δ) [u] (λ _ H'=>H'=upd H1 Δ (.lst (vs++[v]))) I1 rfl (.cons rv .nil) ⟨_,vs,v,rfl,rfl,hd1,hlen,rfl⟩
  rw [hx] at ap
  refine wpAny_mono ap (λ _ s2 ⟨_,H2,I2,_,e2⟩=>?_) λ _ _ z=>z
  subst e2
  obtain ⟨x2,r2⟩:=r1.oE (vs':=vs++[v]) hd1 nd1
  refine ⟨σ,_,I2,k β1 _ σ (vs++[v]) (x1.toD.trans r1 x2 (xF hd1)) r2 ((l.mono r x1).ck r1 (isL hd1) x2) aB nd1 ?_⟩
  exact ((q.mono r x1).ck r1 (isL hd1) x2).append (.cons (q1.ck r1 (isL hd1) x2) .nil)
 ·cases ev
theorem mG {scope:Scope} {pos:Pos} {tg iter:Expr} {ifs:List Expr} {t:T} {di:Es} {rest:G} {J:It} {fp:List Addr} {it:Addr} {tn:Nat->Heap->Prop} {src:Src} {β0:List Addr} {H0:Hp}
  (hx:X.xe=λ _ _=>False) (hc:X.calm=true) (hg:gens[d]?=some ⟨tg,iter,ifs,0⟩) (hn:∀g',gens[d+1]?=some g'->g'.is_async=0/\∀x,foldedSetIterable g'.iter X.env x=pure x)
  (Tu:Turn X.prog X.w X.K tg J fp it tn) (is:IS X cl J src β0 H0) (pg:PG X tg (SG X cl (evA C (.pt t)))) (pif:jF X ifs (ST X cl (aF C di))) (pb:PB X (.ListComp elt gens scope pos) elt gens d Δ (SB X cl Δ (evG C rest)))
  {pins:List (Addr×Obj)} {s:Shared} {σ:L2.St} {H:Hp} {β:List Addr} {ρ ρ':Loc} {m m':Mem} {acc acc':List W} {vs:List V} {n:Nat} (I:Inv X pins σ H s) (st:tn 0 s.heap) (xG:∀b∈fp,fu X pins H b)
  (hpre:∃γ,β=β0++γ) (htup:∀{a:Addr} {vs:List V},SqT X.K H0 a vs->SqT X.K H a vs) (hfz:∀{a:Addr} {o:Obj} {u:HO},H0 a=some (.frz o u)->H a=some (.frz o u)) (r:Rel X.K cl β m H) (l:RL X.K β H ρ σ) (hd:H Δ=some (.lst vs)) (nd:Δ∉β) (q:RWs X.K β H acc vs)
  (ev:bM src.get t (fun ρ m=>aF C di ρ m) (fun ρ m acc=>evG C rest ρ m acc) n 0 ρ m acc=.ok (acc',ρ') m') {Rr:Result->Shared->Prop}
  (fin:∀s' σ' H' β' vs',Inv X pins σ' H' s'->bT (some Δ) β H β' H'->Rel X.K cl β' m' H'->RL X.K β' H' ρ' σ'->H' Δ=some (.lst vs')->Δ∉β'->RWs X.K β' H' acc' vs'->Rr (.ok .next) s') :
  codeAny (model X.prog X.w) X.A (.compLoop (.ListComp elt gens scope pos) d (.ref it) (.ref Δ) X.env) Rr s:=by
 have stat:∀{H':Hp},(∀b∈fp,H' b=none)->∀b∈fp,fu X pins H' b:=λ hn b hb=>⟨hn b hb,(xG b hb).2⟩
 refine kW hg hn (λ n s'=>∃i σ' H' β' ρ1 m1 acc1 vs1,Inv X pins σ' H' s'/\tn i s'.heap/\(∀b∈fp,H' b=none)/\bT (some Δ) β H β' H'/\Rel X.K cl β' m1 H'/\RL X.K β' H' ρ1 σ'/\H' Δ=some (.lst vs1)/\Δ∉β'/\RWs X.K β' H' acc1 vs1/\
  bM src.get t (fun ρ m=>aF C di ρ m) (fun ρ m acc=>evG C rest ρ m acc) n i ρ1 m1 acc1=.ok (acc',ρ') m') ?_ n ⟨0,σ,H,β,ρ,m,acc,vs,I,st,λ b hb=>(xG b hb).1,Ext.refl,r,l,hd,nd,q,ev⟩
 rintro n s1 ⟨i,σ1,H1,β1,ρ1,m1,acc1,vs1,I1,st1,fr1,x1,r1,l1,hd1,nd1,q1,e1⟩
 have EO:∃γ,β1=β0++γ:=by
  obtain ⟨γ,h1,_⟩:=x1.pre
  obtain ⟨δ,h2⟩:=hpre
  exact ⟨δ++γ,by rw [h1,h2,List.append_assoc]⟩
 obtain ⟨go,stop⟩:=is β1 m1 H1 i EO (λ h=>x1.sqT r (isL hd) (htup h)) (λ h=>x1.fz r (isL hd) (hfz h)) r1
 unfold bM at e1
 split at e1
 ·cases e1
 ·rename_i e2
  cases e1
  refine wpAny_mono (Tu.done X rfl rfl rfl hc i pins s1 σ1 H1 (λ _ _=>False) I1 (stat fr1) st1 (stop e2)) (λ rr s2 ⟨hr,I2⟩=>?_) λ _ _ z=>z
  subst hr
  exact fin s2 σ1 H1 β1 vs1 I2 x1 r1 l1 hd1 nd1 q1
 ·rename_i w e2
  obtain ⟨g1,g2⟩:=go w e2
  split at e1
  ·cases e1
  ·rename_i n'
   split at e1
   ·cases e1
   ·rename_i ρ2 e3
    obtain ⟨b,m3,e4,e5⟩:=R.aa e1
    refine wpAny_mono (Tu.item X rfl rfl rfl hc i pins s1 σ1 H1 (λ _ _=>False) I1 (stat fr1) st1 g1) (λ rr s2 ⟨u,hr,h2⟩=>?_) λ _ _ z=>z
    subst hr
    refine wpAny_mono h2 (λ _ s3 ⟨x,H3,I3,r3,y3,st3,fr3⟩=>?_) λ _ _ z=>z
    obtain ⟨x3,rr3,q3⟩:=g2 x H3 y3
    obtain ⟨hd3,nd3⟩:=x3.oE hd1 nd1
    have I3':=I3.pinned (stat fr3) (Tu.obj _ _ st3)
    have l3:=l1.mono r1 x3
    have go4:=pg _ s3 σ1 H3 x u (fun σ4 H4=>∃β4,Ext β1 H3 β4 H4/\Rel X.K cl β4 m1 H4/\RL X.K β4 H4 ρ2 σ4) I3' r3 ⟨β1,ρ1,m1,w,ρ2,m1,rr3,l3,q3,by simp only [evA,e3],fun β4 H4 σ4 x4 r4 l4=>⟨β4,x4,r4,l4⟩⟩
    rw [hx] at go4
    refine wpAny_mono go4 (λ _ s4 ⟨σ4,H4,I4,β4,x4,r4,l4⟩=>?_) λ _ _ z=>z
    obtain ⟨hd4,nd4⟩:=x4.oE hd3 nd3
    have go5:=pif _ s4 σ4 H4 (λ bb H5=>bb=b/\∃β5,Ext β4 H4 β5 H5/\Rel X.K cl β5 m3 H5) I4 ⟨β4,ρ2,m1,b,m3,r4,l4,e4,fun β5 H5 x5 r5=>⟨rfl,β5,x5,r5⟩⟩
    rw [hx] at go5
    refine wpAny_mono go5 (λ bb s5 ⟨H5,I5,hb,β5,x5,r5⟩=>?_) λ _ _ z=>z
    subst hb
    obtain ⟨hd5,nd5⟩:=x5.oE hd4 nd4
    have l5:=l4.mono r4 x5
    have x15:Ext β1 H1 β5 H5:=(x3.trans rr3 x4).trans r4 x5
    have x05:bT (some Δ) β H β5 H5:=x1.trans r1 x15.toD (xF hd1)
    have q5:=q1.mono r1 x15
    have again:∀{σ':L2.St} {H':Hp} {s':Shared} {β':List Addr} {ρ4:Loc} {m4:Mem} {xH:List W} {vs4:List V},Inv X (pins++iM fp s3.heap) σ' H' s'->bT (some Δ) β H β' H'->Rel X.K cl β' m4 H'->RL X.K β' H' ρ4 σ'->H' Δ=some (.lst vs4)->Δ∉β'->RWs X.K β' H' xH vs4->
      bM src.get t (fun ρ m=>aF C di ρ m) (fun ρ m acc=>evG C rest ρ m acc) n' (i+1) ρ4 m4 xH=.ok (acc',ρ') m'->
      ∃mm,mm < n'+1/\∃i σ' H' β' ρ1 m1 acc1 vs1,Inv X pins σ' H' s'/\tn i s'.heap/\(∀b∈fp,H' b=none)/\bT (some Δ) β H β' H'/\Rel X.K cl β' m1 H'/\RL X.K β' H' ρ1 σ'/\H' Δ=some (.lst vs1)/\Δ∉β'/\RWs X.K β' H' acc1 vs1/\
       bM src.get t (fun ρ m=>aF C di ρ m) (fun ρ m acc=>evG C rest ρ m acc) mm i ρ1 m1 acc1=.ok (acc',ρ') m':=λ {σ' H' s' β' ρ4 m4 xH vs4} I' x' r' l' hd' nd' q' e'=>by
     refine ⟨n',Nat.lt_succ_self _,i+1,σ',H',β',ρ4,m4,xH,vs4,I'.fV,Tu.keep _ _ _ st3 λ b hb o eo=>(I'.pin (b,o) (List.mem_append_right _ (List.mem_append_right _ (dR hb eo)))).1,λ b hb=>?_,x',r',l',hd',nd',q',e'⟩
     obtain ⟨o,eo,_⟩:=Tu.obj _ _ st3 b hb
     exact (I'.pin (b,o) (List.mem_append_right _ (List.mem_append_right _ (dR hb eo)))).2.1
    cases bb with
    | false=>exact again I5 x05 r5 l5 hd5 nd5 q5 e5
    | true=>
     simp only [if_true] at e5 ⊢
     obtain ⟨p,m6,e6,e7⟩:=R.aa e5
     obtain ⟨acc6,ρ6⟩:=p
     have go6:=pb _ s5 σ4 H5 (fun σ6 H6=>∃β6 vs6,bT (some Δ) β5 H5 β6 H6/\Rel X.K cl β6 m6 H6/\RL X.K β6 H6 ρ6 σ6/\H6 Δ=some (.lst vs6)/\Δ∉β6/\RWs X.K β6 H6 acc6 vs6) I5 ⟨β5,ρ2,m3,acc1,vs1,acc6,ρ6,m6,r5,l5,hd5,nd5,q5,e6,fun β6 H6 σ6 vs6 x6 r6 l6 hd6 nd6 q6=>⟨β6,vs6,x6,r6,l6,hd6,nd6,q6⟩⟩
     have mono:∀{Q Q':Shared->Prop} {o:Option Comprehension} {s:Shared},(∀s,Q s->Q' s)->kU X.prog X.w X.A (.ListComp elt gens scope pos) elt d (.ref Δ) X.env Q o s->kU X.prog X.w X.A (.ListComp elt gens scope pos) elt d (.ref Δ) X.env Q' o s:=by
      intro Q Q' o s hq h
      cases o with
      | none=>exact wpAny_mono h (λ _ _ h=>wpAny_mono h (λ _ s z=>hq s z) λ _ _ z=>z) λ _ _ z=>z
      | some g=>exact wpAny_mono h (λ _ _ h=>wpAny_mono h (λ _ s z=>codeAny_mono z λ rr s' z'=>by
        cases rr with
        | ok f=>exact hq _ z'
        | error e=>exact z') λ _ _ z=>z) λ _ _ z=>z
     refine mono (λ s6 ⟨σ6,H6,I6,β6,vs6,x6,r6,l6,hd6,nd6,q6⟩=>?_) go6
     exact again I6 (x05.trans r5 x6 (xF hd5)) r6 l6 hd6 nd6 q6 e7
theorem Dj {scope:Scope} {pos:Pos} {tg iter:Expr} {ifs:List Expr} {t:T} {dit:E} {di:Es} {rest:G} (hx:X.xe=λ _ _=>False) (hc:X.calm=true) (hg:gens[d+1]?=some ⟨tg,iter,ifs,0⟩) (hn:∀g',gens[d+1+1]?=some g'->g'.is_async=0/\∀x,foldedSetIterable g'.iter X.env x=pure x)
  (hi:PI X tg iter (SI X cl (evI C dit))) (pg:PG X tg (SG X cl (evA C (.pt t)))) (pif:jF X ifs (ST X cl (aF C di))) (pb:PB X (.ListComp elt gens scope pos) elt gens (d+1) Δ (SB X cl Δ (evG C rest))) :
  PB X (.ListComp elt gens scope pos) elt gens d Δ (SB X cl Δ (evG C (.gen t [] dit di rest))):=by
 intro pins s σ H Q I h
 obtain ⟨β,ρ,m,acc,vs,acc',ρ',m',r,l,hd,nd,q,ev,k⟩:=h
 simp only [evG,clr] at ev
 obtain ⟨src,m1,e1,ev⟩:=R.aa ev
 rw [hg]
 have go:=hi pins s σ H (λ J H1=>∃β1,Ext β H β1 H1/\Rel X.K cl β1 m1 H1/\IS X cl J src β1 H1) I ⟨β,ρ,m,src,m1,r,l,e1,fun β1 H1 J x1 r1 is=>⟨β1,x1,r1,is⟩⟩
 rw [hx] at go
 refine wpAny_mono go (λ v s1 h1=>wpAny_mono h1 (λ itv s2 h2=>?_) λ _ _ z=>z) λ _ _ z=>z
 obtain ⟨it,fp,tn,J,H1,e2,I1,Tu,st,xG,β1,x1,r1,is⟩:=h2
 subst e2
 obtain ⟨hd1,nd1⟩:=x1.oE hd nd
 have loop:codeAny (model X.prog X.w) X.A (.compLoop (.ListComp elt gens scope pos) (d+1) (.ref it) (.ref Δ) X.env) (λ rr s₆=>match rr with
   | .ok _=>∃σ' H',Inv X pins σ' H' s₆/\Q σ' H'
   | .error _=>False) s2:=
  mG hx hc hg hn Tu is pg pif pb I1 st xG ⟨[],by simp⟩ (λ h=>h) (λ h=>h) r1 (l.mono r x1) hd1 nd1 (q.mono r x1) ev λ s' σ' H' β' vs' I' x' r' l' hd' nd' q'=>⟨σ',H',I',k β' H' σ' vs' (x1.toD.trans r1 x' (xF hd1)) r' l' hd' nd' q'⟩
 exact fE hg loop (Tu.self _ 0 _ _ _ st loop)
theorem RL.clr {K:PySem.W.Frag} {β:List Addr} {H:Hp}:∀{js:List Nat} {ρ:Loc} {σ:L2.St},RL K β H ρ σ->RL K β H (D.clr js ρ) (L2.clr js σ)
 | [],_,_,l=>l
 | j::js,ρ,σ,l=>by
  refine RL.clr (js:=js) ⟨by simp [l.len],λ {i w} h=>?_⟩
  by_cases e:j=i
  ·subst e
   rw [List.getElem?_set] at h
   rw [if_pos rfl] at h
   split at h<;>cases h
  ·rw [List.getElem?_set_ne e] at h ⊢
   exact l.at_ h
theorem mH {scope:Scope} {pos:Pos} {js:List Nat} {tg iter:Expr} {ifs:List Expr} {t:T} {dit:E} {di:Es} {rest:G} (hc:X.calm=true) (ok:fM X.N js scope X.env.scope) (hg:gens[0]?=some ⟨tg,iter,ifs,0⟩) (hn:∀g',gens[1]?=some g'->g'.is_async=0/\∀env x,foldedSetIterable g'.iter env x=pure x)
  (hi:PI X tg iter (SI X cl (evI C dit))) (pg:∀cl' s₀ H₀ fp pn,PG (X.comp scope cl' s₀ H₀ fp pn) tg (SG (X.comp scope cl' s₀ H₀ fp pn) cl (evA C (.pt t)))) (pif:∀cl' s₀ H₀ fp pn,jF (X.comp scope cl' s₀ H₀ fp pn) ifs (ST (X.comp scope cl' s₀ H₀ fp pn) cl (aF C di)))
  (pb:∀cl' s₀ H₀ fp pn Δ,PB (X.comp scope cl' s₀ H₀ fp pn) (.ListComp elt gens scope pos) elt gens 0 Δ (SB (X.comp scope cl' s₀ H₀ fp pn) cl Δ (evG C rest)))
  (hs:∀x,foldedSetIterable iter X.env x=pure x) {pins:List (Addr×Obj)} {s:Shared} {σ:L2.St} {H:Hp} {Q:VK} (I:Inv X pins σ H s) (h:SE X cl (evE C (.comp (.gen t js dit di rest))) σ H Q) {p:Pos} {use:Option (Value->Sem Unit)} {Q':Value->Shared->Prop}
  (fin:∀(D Cf:Addr) (s':Shared) (H':Hp),(∀h',(∀b o,b≠Cf->s'.heap.get? b=some o->h'.get? b=some o)->Inv X pins σ H' {s' with heap:=h'})->Q (.ref D) H'->(∃m,s'.heap.Ns Cf m)->H' Cf=none->Cf≠X.env.locals->X.s₀.heap.objs.size<=Cf->(∀x c,X.env.cells.lookup x=some c->c≠Cf)->(∀p∈X.pn++pins,p.1≠Cf)->
   compPost (model X.prog X.w) X.A X.xe use Q' (.ref D) Cf (.ok .next) s') :
  wpAny (model X.prog X.w) X.A (comprehension (.ListComp elt gens scope pos) scope X.env p (newList []) false (eval iter X.env) use) Q' X.xe s:=by
 obtain ⟨β,ρ,m,w,m',r,l,e,k⟩:=h
 simp only [evE] at e
 obtain ⟨⟨ws,ρ9⟩,m9,e8,e9⟩:=R.aa e
 cases e9
 clear e
 simp only [evG] at e8
 obtain ⟨src,m1,e1,e⟩:=R.aa e8
 clear e8
 have hgs:∃gs,gens=⟨tg,iter,ifs,0⟩::gs:=by
  cases gens with
  | nil=>simp at hg
  | cons g gs=>simp at hg; exact ⟨gs,by rw [hg]⟩
 obtain ⟨gs,rfl⟩:=hgs
 have hclos:closureFor scope X.env=pure (cj X.env scope.names []):=jE λ y hy hk=>I.ok.has y.1 (ok.free y hy hk)
 refine wpAny_comprehension_free rfl hs hclos ok.kind ok.loc (thn (hi pins s σ H (λ J H1=>∃β1,Ext β H β1 H1/\Rel X.K cl β1 m1 H1/\IS X cl J src β1 H1) I ⟨β,ρ,m,src,m1,r,l,e1,fun β1 H1 J x1 r1 is=>⟨β1,x1,r1,is⟩⟩) λ v s1 h1=>thn h1 λ itv s2 h2=>?_)
 obtain ⟨it,fp,tn,J,H2,e2,I2,Tu,st2,f2,β2,x2,r2,is⟩:=h2
 subst e2
 have hD2:H2 s2.heap.objs.size=none:=I2.fresh
 refine wpAny_newObj_type ?_
 have I3:Inv X pins σ (upd H2 s2.heap.objs.size (.lst [])) {s2 with heap:=s2.heap.push {cls:=.type "list",dict:=none,data:=.seq ([]:List Value).toArray}}:=
  I2.CH (its:=[]) (t':=s2.toks) .nil (Nat.zero_le _)
 generalize hs3:({s2 with heap:=s2.heap.push {cls:=.type "list",dict:=none,data:=.seq ([]:List Value).toArray}}:Shared)=s3 at I3 ⊢
 have Dk:∀b o,s2.heap.get? b=some o->s3.heap.get? b=some o:=λ b o e=>by rw [<-hs3]; exact Heap.get?_push_of_some _ e
 have xJ:∀b∈fp,b < s2.heap.objs.size:=λ b hb=>by
  obtain ⟨o,e,_⟩:=Tu.obj _ _ st2 b hb
  exact Heap.lt_size e
 have Bg:s3.heap.objs.size=s2.heap.objs.size+1:=by rw [<-hs3]; exact Heap.size_push _ _
 have f3:∀b∈fp,fu X pins (upd H2 s2.heap.objs.size (.lst [])) b:=λ b hb=>⟨by rw [aj (Nat.ne_of_lt (xJ b hb))]; exact (f2 b hb).1,(f2 b hb).2⟩
 refine I3.enter ok f3 (λ b hb=>by rw [Bg]; exact Nat.lt_succ_of_lt (xJ b hb)) λ cells h₁ old F I4=>?_
 have st4:tn 0 h₁:=Tu.keep _ _ _ st2 λ b hb o e=>old _ _ (Dk _ _ e)
 have stat:∀{H':Hp},(∀b∈fp,H' b=none)->∀b∈fp,fu (X.comp scope cells s3 (upd H2 s2.heap.objs.size (.lst [])) fp pins) [] H' b:=λ {H'} hn b hb=>by
  refine ⟨hn b hb,?_,λ z=>?_,.inl hb,λ x c e=>?_,λ p hp=>?_⟩
  ·show b≠s3.heap.objs.size
   exact Nat.ne_of_lt (by rw [Bg]; exact Nat.lt_succ_of_lt (xJ b hb))
  ·rcases List.mem_cons.mp (I3.ko b z) with q | q
   ·exact (f2 b hb).2.1 q
   ·exact (f2 b hb).2.2.1 q
  ·rcases F.old x c e with e | e
   ·exact (f2 b hb).2.2.2.2.1 x c e
   ·exact Nat.ne_of_gt (Nat.lt_trans (by rw [Bg]; exact Nat.lt_succ_of_lt (xJ b hb)) e)
  ·exact (f2 b hb).2.2.2.2.2 p (by simpa using hp)
 have x3:Ext β2 H2 β2 (upd H2 s2.heap.objs.size (.lst [])):=⟨⟨[],by simp,by simp⟩,λ h _ _=>by rw [aj (ak h hD2)]; exact h⟩
 have r3:Rel X.K cl β2 m1 (upd H2 s2.heap.objs.size (.lst [])):=⟨r2.len,r2.nd,λ h1 h2=>by
  have q:=r2.obj h1 h2
  obtain ⟨u,e,_⟩:=q.ex
  exact q.mono r2 x3 (aj (ak e hD2))⟩
 have l3:RL X.K β2 (upd H2 s2.heap.objs.size (.lst [])) (D.clr js ρ) (L2.clr js σ):=((l.mono r x2).mono r2 x3).clr
 have nD:s2.heap.objs.size∉β2:=r2.nin hD2
 have hD:H s2.heap.objs.size=none:=by
  cases z:H s2.heap.objs.size with
  | none=>rfl
  | some o=>
   by_cases hb:s2.heap.objs.size∈β
   ·obtain ⟨γ,hγ,_⟩:=x2.pre
    exact absurd (by rw [hγ]; exact List.mem_append_left _ hb) nD
   ·have:=x2.keep z hb (by simp)
    rw [hD2] at this; cases this
 have loop:∀s₄:Shared,s₄={s3 with heap:=h₁}->
   codeAny (model X.prog X.w) X.A (.compLoop (.ListComp elt (⟨tg,iter,ifs,0⟩::gs) scope pos) 0 (.ref it) (.ref s2.heap.objs.size) (compEnvC scope cells s3.heap.objs.size X.env))
    (compPost (model X.prog X.w) X.A X.xe use Q' (.ref s2.heap.objs.size) s3.heap.objs.size) s₄:=by
  intro s₄ e₄
  subst e₄
  refine mG (X:=X.comp scope cells s3 (upd H2 s2.heap.objs.size (.lst [])) fp pins) (cl:=cl) (C:=C) (Δ:=s2.heap.objs.size) rfl hc rfl (λ g' hg'=>⟨(hn g' hg').1,(hn g' hg').2 _⟩) Tu is (pg _ _ _ _ _) (pif _ _ _ _ _) (pb _ _ _ _ _ _)
   I4 st4 (stat λ b hb=>(f3 b hb).1) ⟨[],by simp⟩ (λ h=>x3.sqT r2 noD h) (λ h=>x3.fz r2 noD h) r3 l3 aB nD .nil e ?_
  intro s' σ' H' β' vs' I' x' r' l' hd' nd' q'
  obtain ⟨m6,hm6,_⟩:=id I'.loc
  have ER:=r'.out hd' nd' q'
  have ES:Ext β H (β'++[s2.heap.objs.size]) H':=by
   obtain ⟨γ,hγ,fγ⟩:=x2.pre
   obtain ⟨δ,hδ,fδ⟩:=x'.pre
   refine ⟨⟨γ++δ++[s2.heap.objs.size],by rw [hδ,hγ]; simp,λ a ha=>?_⟩,λ {a o} h hb _=>?_⟩
   ·rcases List.mem_append.mp ha with ha | ha
    ·rcases List.mem_append.mp ha with ha | ha
     ·exact fγ a ha
     ·have z3:=fδ a ha
      have na:a≠s2.heap.objs.size:=by
       rintro rfl
       rw [aB] at z3; cases z3
      rw [aj na] at z3
      cases z:H a with
      | none=>rfl
      | some o=>
       by_cases hb:a∈β
       ·obtain ⟨u,eu,_⟩:=r2.ex (a:=a) (by rw [hγ]; exact List.mem_append_left _ hb)
        rw [z3] at eu; cases eu
       ·have:=x2.keep z hb (by simp)
        rw [z3] at this; cases this
    ·simp at ha; rw [ha]; exact hD
   ·have h2:=x2.keep h hb (by simp)
    have na:a≠s2.heap.objs.size:=ak h hD
    have nb:a∉β2:=λ z=>by
     rw [hγ] at z
     rcases List.mem_append.mp z with z | z
     ·exact hb z
     ·rw [fγ a z] at h; cases h
    exact x'.keep (by rw [aj na]; exact h2) nb (by simpa using na)
  have ET:Q (.ref s2.heap.objs.size) H':=k _ _ _ ES ER (.ref (r'.last _))
  refine fin _ _ s' H' (λ h' hk=>I3.AB f3 I' hk) ET ⟨m6,hm6⟩ I'.free (Nat.ne_of_gt (Nat.lt_of_lt_of_le I3.lt (Nat.le_refl _))) I3.sz (λ x c e=>?_) (λ p hp=>Nat.ne_of_lt (Heap.lt_size (I3.pin p hp).1))
  obtain ⟨v,o,q,_⟩:=I3.cell x c e
  exact Nat.ne_of_lt (Heap.lt_size q)
 exact fE rfl (loop _ rfl) (Tu.self _ 0 _ _ _ st4 (loop _ rfl))
variable {scope:Scope} {pos:Pos} {js:List Nat} {tg iter:Expr} {ifs:List Expr} {t:T} {dit:E} {di:Es} {rest:G}
theorem Bh (hc:X.calm=true) (ok:fM X.N js scope X.env.scope) (hg:gens[0]?=some ⟨tg,iter,ifs,0⟩) (hn:∀g',gens[1]?=some g'->g'.is_async=0/\∀env x,foldedSetIterable g'.iter env x=pure x)
  (hi:PI X tg iter (SI X cl (evI C dit))) (pg:∀cl' s₀ H₀ fp pn,PG (X.comp scope cl' s₀ H₀ fp pn) tg (SG (X.comp scope cl' s₀ H₀ fp pn) cl (evA C (.pt t)))) (pif:∀cl' s₀ H₀ fp pn,jF (X.comp scope cl' s₀ H₀ fp pn) ifs (ST (X.comp scope cl' s₀ H₀ fp pn) cl (aF C di)))
  (pb:∀cl' s₀ H₀ fp pn Δ,PB (X.comp scope cl' s₀ H₀ fp pn) (.ListComp elt gens scope pos) elt gens 0 Δ (SB (X.comp scope cl' s₀ H₀ fp pn) cl Δ (evG C rest)))
  (hs:∀x,foldedSetIterable iter X.env x=pure x) {pp:Pos} (hev:eval (.ListComp elt gens scope pos) X.env=comprehension (.ListComp elt gens scope pos) scope X.env pp (newList []) false (eval iter X.env) none):PE X (.ListComp elt gens scope pos) (SE X cl (evE C (.comp (.gen t js dit di rest)))):=by
 intro pins s σ H Q I h
 rw [hev]
 refine mH hc ok hg hn hi pg pif pb hs I h ?_
 intro D Cf s' H' hI q hm hn h1 h2 h3 h4
 obtain ⟨m,hm⟩:=hm
 exact ⟨m,hm,λ h' hs'=>⟨.ref D,H',hI h' λ b o hb e=>hs'.extBut b o hb e,rfl,q⟩⟩
theorem xK {i:Nat} {y:Str} {py spos:Pos} {gs:List Comprehension} (hc:X.calm=true) (hN:X.N.Nodup) (hy:X.N[i]?=some y) (hx:L2.Loc X.env.scope y) (ok:fM X.N js scope X.env.scope) (hn:∀g',gs[0]?=some g'->g'.is_async=0/\∀env x,foldedSetIterable g'.iter env x=pure x)
  (hi:PI X tg iter (SI X cl (evI C dit))) (pg:∀cl' s₀ H₀ fp pn,PG (X.comp scope cl' s₀ H₀ fp pn) tg (SG (X.comp scope cl' s₀ H₀ fp pn) cl (evA C (.pt t)))) (pif:∀cl' s₀ H₀ fp pn,jF (X.comp scope cl' s₀ H₀ fp pn) ifs (ST (X.comp scope cl' s₀ H₀ fp pn) cl (aF C di)))
  (pb:∀cl' s₀ H₀ fp pn Δ,PB (X.comp scope cl' s₀ H₀ fp pn) (.ListComp elt (⟨tg,iter,ifs,0⟩::gs) scope pos) elt (⟨tg,iter,ifs,0⟩::gs) 0 Δ (SB (X.comp scope cl' s₀ H₀ fp pn) cl Δ (evG C rest)))
  (hs:∀x,foldedSetIterable iter X.env x=pure x) (hsw:swapsWith (.ListComp elt (⟨tg,iter,ifs,0⟩::gs) scope pos) (some (.Name y py)) spos.line X.env=pure true) (hf:X.fn y=true\/X.env.scope.names.lookup y=some .local) :
  PS X (.Assign [.Name y py] (.ListComp elt (⟨tg,iter,ifs,0⟩::gs) scope pos) spos) (SS X cl (evS C (.asg (.pt (.var i)) (.comp (.gen t js dit di rest))))):=by
 intro pins s σ H D I h
 obtain ⟨β,ρ,m,f,m',r,l,e,k⟩:=h
 simp only [evS] at e
 obtain ⟨w,m1,e1,e⟩:=R.aa e
 simp only [evA,au,R.bind] at e
 cases e
 have h:SE X cl (evE C (.comp (.gen t js dit di rest))) σ H (λ v H'=>D.nx (σ.set i (some v)) H'):=⟨β,ρ,m,w,_,r,l,e1,fun β1 H1 v1 x1 r1 q1=>k _ _ x1 r1 _ ((l.mono r x1).set q1)⟩
 rw [exec_Assign_Name_used _ _ _ _ hsw]
 refine wpAny_bind (wpAny_standAt (wpAny_bind ?_))
 show wpAny _ X.A (do let _ <-comprehension (.ListComp elt (⟨tg,iter,ifs,0⟩::gs) scope pos) scope X.env _ (newList []) false (eval iter X.env) (some (assign (.Name y py) X.env))) _ _ s
 refine wpAny_bind (wpAny_mono (mH (use:=some (assign (.Name y py) X.env)) (Q':=λ _ s'=>SP X pins D .next s') hc ok rfl (by simpa using hn) hi pg pif pb hs I h ?_) (λ _ s' hq=>wpAny_pure (wpAny_pure hq)) λ _ _ e=>e)
 intro Dl Cf s' H' hI q hm hn h1 h2 h3 h4
 obtain ⟨m,hm⟩:=hm
 have I':Inv X pins σ H' s':=hI s'.heap λ b o _ e=>e
 refine wpAny_assign_Name (jT I' hN hy hx (v:=.ref Dl) (u:=.ref Dl) rfl (λ s2 I2 hsb=>?_) hf)
 obtain ⟨a,sb,ha⟩:=hsb
 have hne:Cf≠a:=by
  rcases ha with rfl | ha
  ·exact h1
  ·exact (h3 _ _ ha).symm
 refine ⟨m,hm.sameBut sb hne,λ h' hs'=>⟨_,H',?_,q⟩⟩
 exact I2.turned (t':=s2.toks) (it:=Cf) (λ b o hb e=>hs'.extBut b o hb e) hn h1 (.inr h2) h3 h4
theorem xM:jF X [] (ST X cl (aF C .nil)):=by
 intro pins s σ H Q I h
 obtain ⟨β,ρ,m,b,m',r,l,e,k⟩:=h
 simp only [aF] at e
 cases e
 exact tL pins s σ H Q I (k _ _ Ext.refl r)
theorem xN {a:Expr} {da:E} (ha:PT X a (ST X cl (evT C da))):jF X [a] (ST X cl (aF C (.cons da .nil))):=by
 intro pins s σ H Q I h
 refine tM ha pins s σ H Q I ?_
 obtain ⟨β,ρ,m,b,m',r,l,e,k⟩:=h
 simp only [aF] at e
 obtain ⟨c,m1,e1,e⟩:=R.aa e
 refine ⟨β,ρ,m,c,m1,r,l,e1,fun β1 H1 x1 r1=>?_⟩
 cases c with
 | true=>simp only [if_true] at e; cases e; exact k _ _ x1 r1
 | false=>simp only [Bool.false_eq_true,if_false] at e; cases e; exact k _ _ x1 r1
end
end D
end
section
namespace D
open PySem PySem.Spec PyProof.Rows L2
structure ZJ where
 k:Bool
 it:Addr
 l:Addr
 xs:Array Value
noncomputable def ZJ.At (j:ZJ) (h:Heap) (i:Nat):Prop:=(j.k=true/\h.IsListIter j.it j.l i)\/(j.k=false/\h.IsTupleIter j.it j.l i)
noncomputable def ZJ.Sq (j:ZJ) (h:Heap):Prop:=(j.k=true/\h.IsList j.l j.xs)\/(j.k=false/\h.IsTuple j.l j.xs)
theorem ZJ.At.keep {j:ZJ} {h h':Heap} {i:Nat} (a:j.At h i) (k:∀o,h.get? j.it=some o->h'.get? j.it=some o):j.At h' i:=by
 rcases a with ⟨e,o,a,r⟩ | ⟨e,o,a,r⟩
 ·exact .inl ⟨e,o,k o a,r⟩
 ·exact .inr ⟨e,o,k o a,r⟩
theorem ZJ.Sq.keep {j:ZJ} {h h':Heap} (a:j.Sq h) (k:∀o,h.get? j.l=some o->h'.get? j.l=some o):j.Sq h':=by
 rcases a with ⟨e,o,a,r⟩ | ⟨e,o,a,r⟩
 ·exact .inl ⟨e,o,k o a,r⟩
 ·exact .inr ⟨e,o,k o a,r⟩
abbrev dM (h:Heap) (T:Addr) (a:Array Value):Prop:=h.get? T=some {cls:=.type "tuple",data:=.seq a}
section
variable {prog:Program} {w:World} {A:Around} {E:Value->Shared->Prop} {s:Shared}
theorem ZJ.next {j:ZJ} {i:Nat} {x:Value} {Q:Value->Shared->Prop} (a:j.At s.heap i) (b:j.Sq s.heap) (hx:j.xs[i]?=some x) (q:∀h',j.At h' (i+1)->Heap.SameBut j.it s.heap h'->Q x {s with heap:=h'}):wpAny (model prog w) A (Builtin.SmallTypes.nextOf (.ref j.it)) Q E s:=by
 rcases a with ⟨e,a⟩ | ⟨e,a⟩
 ·rcases b with ⟨_,b⟩ | ⟨e',_⟩
  ·exact wpAny_nextOf_list_item a b hx λ h' a' s'=>q h' (.inl ⟨e,a'⟩) s'
  ·rw [e] at e'; cases e'
 ·rcases b with ⟨e',_⟩ | ⟨_,b⟩
  ·rw [e] at e'; cases e'
  ·exact nextT a b hx λ h' a' s'=>q h' (.inr ⟨e,a'⟩) s'
theorem ZJ.stop {j:ZJ} {i:Nat} {Q:Value->Shared->Prop} (hh:A.handled=none) (a:j.At s.heap i) (b:j.Sq s.heap) (hx:j.xs[i]?=none)
  (hE:∀h' e,Heap.ExtBut j.it s.heap h'->(∃o,h'.get? e=some o/\o.cls=.type "StopIteration")->E (.ref e) {s with heap:=h'}):wpAny (model prog w) A (Builtin.SmallTypes.nextOf (.ref j.it)) Q E s:=by
 rcases a with ⟨e,a⟩ | ⟨e,a⟩
 ·rcases b with ⟨_,b⟩ | ⟨e',_⟩
  ·exact wpAny_nextOf_list_end hh a b hx hE
  ·rw [e] at e'; cases e'
 ·rcases b with ⟨e',_⟩ | ⟨_,b⟩
  ·rw [e] at e'; cases e'
  ·exact l8 hh a b hx hE
noncomputable def i9 (T:Array Value):Nat->List Value->Array Value
 | _,[]=>T
 | k,v::vs=>i9 (T.setIfInBounds k v) (k+1) vs
theorem ja:∀(vs:List Value) (T:Array Value) (k c:Nat),k+vs.length<=T.size->(i9 T k vs)[c]?=if k<=c/\c < k+vs.length then vs[c - k]? else T[c]?
 | [],T,k,c,h=>by
  rw [if_neg (by intro q; simp only [List.length_nil] at q; omega)]; rfl
 | v::vs,T,k,c,h=>by
  simp only [List.length_cons] at h
  rw [i9,ja vs _ (k+1) c (by rw [Array.size_setIfInBounds]; omega)]
  by_cases h1:c=k
  ·subst h1
   rw [if_neg (by omega),if_pos (by simp),Array.getElem?_setIfInBounds_self_of_lt (by omega)]
   simp
  ·by_cases h2:k+1<=c/\c < k+1+vs.length
   ·rw [if_pos h2,if_pos (by simp; omega)]
    rw [show c - k=(c - (k+1))+1 by omega,List.getElem?_cons_succ]
   ·rw [if_neg h2,if_neg (by simp; omega),Array.getElem?_setIfInBounds_ne (by omega)]
theorem oM {vs:List Value} {T:Array Value} (h:T.size=vs.length):i9 T 0 vs=vs.toArray:=by
 apply Array.ext_getElem?
 intro c
 rw [ja vs T 0 c (by omega)]
 by_cases hc:c < vs.length
 ·rw [if_pos (by omega)]; simp
 ·rw [if_neg (by omega)]
  rw [Array.getElem?_eq_none (by omega),Array.getElem?_eq_none (by simp; omega)]
structure Apart (TO:Addr) (js:List ZJ):Prop where
 its:(js.map (·.it)).Nodup
 toi:∀j∈js,j.it≠TO
 tol:∀j∈js,j.l≠TO
 il:∀j∈js,∀j'∈js,j.l≠j'.it
theorem Apart.tail {TO:Addr} {j:ZJ} {js:List ZJ} (a:Apart TO (j::js)):Apart TO js:=
 ⟨(List.nodup_cons.mp a.its).2,λ x hx=>a.toi x (List.mem_cons_of_mem _ hx),λ x hx=>a.tol x (List.mem_cons_of_mem _ hx),λ x hx y hy=>a.il x (List.mem_cons_of_mem _ hx) y (List.mem_cons_of_mem _ hy)⟩
noncomputable def yW (prog:Program) (w:World) (A:Around) (E:Value->Shared->Prop) (Eb:Value->Shared->Prop) (TO:Addr) {β:Type} (b0:β) (body:Value×Nat->β->Sem (ForInStep β)):Prop:=
 ∀(it:Addr) (k:Nat) (s:Shared) (R':ForInStep β->Shared->Prop),wpAny (model prog w) A (Builtin.SmallTypes.nextOf (.ref it)) (λ x s1=>∃T,dM s1.heap TO T/\T.size<=100/\∀h',dM h' TO (T.setIfInBounds k x)->Heap.SameBut TO s1.heap h'->R' (.yield b0) {s1 with heap:=h'}) Eb s->
  wpAny (model prog w) A (body (.ref it,k) b0) R' E s
theorem g6 {β:Type} {b0:β} {body:Value×Nat->β->Sem (ForInStep β)} {TO:Addr} {i:Nat} {Eb:Value->Shared->Prop} (hb:yW prog w A E Eb TO b0 body) {Q:β->Shared->Prop}:∀(js:List ZJ) (k:Nat) (s:Shared) (T:Array Value) (vs:List Value),
  Apart TO js->(∀j∈js,j.At s.heap i/\j.Sq s.heap)->Paired (λ (j:ZJ) v=>j.xs[i]?=some v) js vs->dM s.heap TO T->T.size<=100->
  (∀h',(∀j∈js,j.At h' (i+1))->dM h' TO (i9 T k vs)->h'.objs.size=s.heap.objs.size->(∀c o,c≠TO->c∉js.map (·.it)->s.heap.get? c=some o->h'.get? c=some o)->Q b0 {s with heap:=h'})->
  wpAny (model prog w) A (forIn ((js.map λ j=>Value.ref j.it).zipIdx k) b0 body) Q E s
 | [],k,s,T,vs,ap,hj,hv,hT,hz,q=>by
  cases hv
  rw [List.map_nil,List.zipIdx_nil,List.forIn_nil]
  exact wpAny_pure (q s.heap (by simp) hT rfl λ c o _ _ e=>e)
 | j::js,k,s,T,vs,ap,hj,hv,hT,hz,q=>by
  cases hv with
  | @cons _ v _ vs hx hv=>
   rw [List.map_cons,List.zipIdx_cons,List.forIn_cons]
   obtain ⟨a0,b0'⟩:=hj j List.mem_cons_self
   refine wpAny_bind (hb j.it k s _ (ZJ.next a0 b0' hx λ h1 a1 s1=>⟨T,s1.extBut _ _ (ap.toi j List.mem_cons_self).symm hT,hz,λ h2 hT2 s2=>?_⟩))
   have keep:∀c o,c≠TO->c≠j.it->s.heap.get? c=some o->h2.get? c=some o:=λ c o n1 n2 e=>s2.extBut c o n1 (s1.extBut c o n2 e)
   have nin:j.it∉js.map (·.it):=(List.nodup_cons.mp ap.its).1
   refine g6 hb js (k+1) {s with heap:=h2} (T.setIfInBounds k v) vs ap.tail (λ j' hj'=>?_) hv hT2 (by rw [Array.size_setIfInBounds]; exact hz) λ h3 q1 q2 q3 q4=>?_
   ·obtain ⟨x1,x2⟩:=hj j' (List.mem_cons_of_mem _ hj')
    exact ⟨x1.keep λ o e=>keep _ o (ap.toi j' (List.mem_cons_of_mem _ hj')) (λ z=>nin (z▸List.mem_map_of_mem hj')) e,x2.keep λ o e=>keep _ o (ap.tol j' (List.mem_cons_of_mem _ hj')) (ap.il j' (List.mem_cons_of_mem _ hj') j List.mem_cons_self) e⟩
   ·refine q h3 (λ j' hj'=>?_) q2 (by rw [q3]; show h2.objs.size=_; rw [s2.1]; exact s1.1) λ c o n1 n2 e=>q4 c o n1 (λ z=>n2 (List.mem_cons_of_mem _ z)) (keep c o n1 (λ z=>n2 (by rw [z]; exact List.mem_cons_self)) e)
    rcases List.mem_cons.mp hj' with rfl | hj'
    ·exact a1.keep λ o e=>q4 _ o (ap.toi j' List.mem_cons_self) nin (s2.extBut _ _ (ap.toi j' List.mem_cons_self) e)
    ·exact q1 j' hj'
theorem jb {β:Type} {b0:β} {body:Value×Nat->β->Sem (ForInStep β)} {TO:Addr} {i:Nat} {Eb:Value->Shared->Prop} (hh:A.handled=none) (hb:yW prog w A E Eb TO b0 body) {Q:β->Shared->Prop}:∀(pre:List ZJ) (j:ZJ) (post:List ZJ) (k:Nat) (s:Shared) (T:Array Value) (vs:List Value),
  Apart TO (pre++j::post)->(∀x∈pre++j::post,x.At s.heap i/\x.Sq s.heap)->Paired (λ (j:ZJ) v=>j.xs[i]?=some v) pre vs->j.xs[i]?=none->dM s.heap TO T->T.size<=100->
  (∀h' e,(∀c o,c≠TO->c∉(pre++j::post).map (·.it)->s.heap.get? c=some o->h'.get? c=some o)->(∃o,h'.get? e=some o/\o.cls=.type "StopIteration")->Eb (.ref e) {s with heap:=h'})->
  wpAny (model prog w) A (forIn (((pre++j::post).map λ j=>Value.ref j.it).zipIdx k) b0 body) Q E s
 | [],j,post,k,s,T,vs,ap,hj,hv,hx,hT,hz,q=>by
  rw [List.nil_append,List.map_cons,List.zipIdx_cons,List.forIn_cons]
  obtain ⟨a0,b0'⟩:=hj j (by simp)
  refine wpAny_bind (hb j.it k s _ (ZJ.stop hh a0 b0' hx λ h' e x y=>q h' e (λ c o _ n2 z=>x c o (λ z'=>n2 (by simp [z'])) z) y))
 | p::pre,j,post,k,s,T,vs,ap,hj,hv,hx,hT,hz,q=>by
  cases hv with
  | @cons _ v _ vs hx0 hv=>
   rw [List.cons_append,List.map_cons,List.zipIdx_cons,List.forIn_cons]
   obtain ⟨a0,b0'⟩:=hj p List.mem_cons_self
   refine wpAny_bind (hb p.it k s _ (ZJ.next a0 b0' hx0 λ h1 a1 s1=>⟨T,s1.extBut _ _ (ap.toi p List.mem_cons_self).symm hT,hz,λ h2 hT2 s2=>?_⟩))
   have keep:∀c o,c≠TO->c≠p.it->s.heap.get? c=some o->h2.get? c=some o:=λ c o n1 n2 e=>s2.extBut c o n1 (s1.extBut c o n2 e)
   have nin:p.it∉(pre++j::post).map (·.it):=(List.nodup_cons.mp ap.its).1
   refine jb hh hb pre j post (k+1) {s with heap:=h2} (T.setIfInBounds k v) vs ap.tail (λ j' hj'=>?_) hv hx hT2 (by rw [Array.size_setIfInBounds]; exact hz) λ h3 e q4 q5=>?_
   ·obtain ⟨x1,x2⟩:=hj j' (List.mem_cons_of_mem _ hj')
    exact ⟨x1.keep λ o e=>keep _ o (ap.toi j' (List.mem_cons_of_mem _ hj')) (λ z=>nin (z▸List.mem_map_of_mem hj')) e,x2.keep λ o e=>keep _ o (ap.tol j' (List.mem_cons_of_mem _ hj')) (ap.il j' (List.mem_cons_of_mem _ hj') p List.mem_cons_self) e⟩
   ·exact q h3 e (λ c o n1 n2 e'=>q4 c o n1 (λ z=>n2 (List.mem_cons_of_mem _ z)) (keep c o n1 (λ z=>n2 (by rw [z]; exact List.mem_cons_self)) e')) q5
structure rO (h:Heap) (z TI TO:Addr) (f0:Value) (js:List ZJ):Prop where
 rc:IsZip h z TI TO f0
 ti:dM h TI (js.map λ j=>Value.ref j.it).toArray
structure gE (z TI TO:Addr) (js:List ZJ):Prop extends Apart TO js where
 iz:∀j∈js,j.it≠z
 lz:∀j∈js,j.l≠z
 toz:TO≠z
 tiz:TI≠z
 tito:TI≠TO
 tii:∀j∈js,j.it≠TI
 ne:js≠[]
theorem jc {z TI TO:Addr} {js:List ZJ} {i:Nat} {T:Array Value} {vs:List Value} {Q:Value->Shared->Prop} (D:gE z TI TO js) (hz:rO s.heap z TI TO .none js) (hT:dM s.heap TO T) (hsz:T.size=js.length) (hl:js.length<=100)
  (hj:∀j∈js,j.At s.heap i/\j.Sq s.heap) (hv:Paired (λ (j:ZJ) v=>j.xs[i]?=some v) js vs)
  (q:∀h',rO h' z TI TO (rawInt s.heap.objs.size) js->dM h' TO vs.toArray->(∀j∈js,j.At h' (i+1))->dM h' s.heap.objs.size vs.toArray->h'.objs.size=s.heap.objs.size+1->(∀c o,c≠z->c≠TO->c∉js.map (·.it)->s.heap.get? c=some o->h'.get? c=some o)->Q (.ref s.heap.objs.size) {s with heap:=h'}) :
  wpAny (model prog w) A (Builtin.«zip.__next__» ⟨[.ref z],[]⟩) (λ fin s'=>∃v,fin=.done (.ret v)/\Q v s') E s:=by
 have hlv:vs.length=js.length:=(Paired.length hv).symm
 obtain ⟨hz,hTI⟩:=hz
 show wpAny _ _ (field (.ref z) 2 >>= _) _ _ _
 refine wpAny_bind (wpAny_field hz rfl (x:=.bool false) rfl ?_)
 show wpAny _ _ (field (.ref z) 3 >>= _) _ _ _
 refine wpAny_bind (wpAny_field hz rfl (x:=.ref TI) rfl ?_)
 refine wpAny_bind (wpAny_seqItems hTI rfl ?_)
 have hne:((js.map λ j=>Value.ref j.it).toArray.isEmpty)=false:=by
  have:=D.ne
  cases hjs:js with
  | nil=>exact absurd hjs this
  | cons _ _=>simp
 dsimp only
 rw [hne]
 simp only [Bool.false_eq_true,if_false]
 show wpAny _ _ (Builtin.SmallTypes.ownedTupleIsFree (.ref z) >>= _) _ _ _
 refine wpAny_bind ?_
 unfold Builtin.SmallTypes.ownedTupleIsFree
 refine wpAny_bind (wpAny_field hz rfl (x:=.none) rfl (wpAny_pure ?_))
 simp only [if_true]
 refine wpAny_bind (wpAny_rule ?_)
 refine wpAny_bind (wpAny_field hz rfl (x:=.ref TO) rfl ?_)
 refine wpAny_bind (wpAny_setField_rec hz (by simp) λ h₁ hz₁ hs₁=>?_)
 replace hz₁:IsZip h₁ z TI TO .ellipsis:=hz₁
 replace hs₁:Heap.SameBut z s.heap h₁:=hs₁
 refine wpAny_bind (g6 (TO:=TO) (i:=i) (Eb:=λ e s1=>wpAny (model prog w) A (setField (.ref z) 0 .none) (λ _ s2=>E e s2) E s1) ?hb js 0 {s with heap:=h₁} T vs D.toApart (λ j h=>?_) hv (hs₁.extBut _ _ D.toz hT) (by omega) λ h₂ q1 q2 q3 q4=>?_)
 case hb=>
  intro it k s' R' h
  refine wpAny_bind (wpAny_onRaise ?_)
  show wpAny _ _ (Builtin.SmallTypes.nextOf (.ref it) >>= _) _ _ _
  refine wpAny_bind (wpAny_mono h (λ x s1 ⟨T1,t1,z1,k1⟩=>wpAny_pure ?_) λ e s1 he=>he)
  refine wpAny_bind (wpAny_seqItems t1 rfl ?_)
  refine wpAny_bind (wpAny_updateSeq t1 rfl ?_ (by rw [sizeLine_eq]; omega) (by rw [Array.size_setIfInBounds,sizeLine_eq]; omega))
  refine wpAny_bind (wpAny_letGo (wpAny_pure ?_))
  refine k1 _ ?_ (Heap.SameBut.update ..)
  rw [dM,Heap.get?_update_self _ t1 rfl]
  simp [Obj.mapSeq]
 ·obtain ⟨x1,x2⟩:=hj j h
  exact ⟨x1.keep λ o e=>hs₁.extBut _ o (D.iz j h) e,x2.keep λ o e=>hs₁.extBut _ o (D.lz j h) e⟩
 ·rw [oM (by omega)] at q2
  have zni:z∉js.map (·.it):=λ z'=>by
   obtain ⟨j,h1,h2⟩:=List.mem_map.mp z'
   exact D.iz j h1 h2
  have tni:TI∉js.map (·.it):=λ z'=>by
   obtain ⟨j,h1,h2⟩:=List.mem_map.mp z'
   exact D.tii j h1 h2
  have hz₂:IsZip h₂ z TI TO .ellipsis:=q4 z _ D.toz.symm zni hz₁
  have hTI₂:dM h₂ TI (js.map λ j=>Value.ref j.it).toArray:=q4 TI _ D.tito tni (hs₁.extBut _ _ D.tiz hTI)
  have hs2:h₂.objs.size=s.heap.objs.size:=by rw [q3]; exact hs₁.1
  have zlt:z < h₂.objs.size:=Heap.lt_size hz₂
  refine wpAny_bind (wpAny_seqItems q2 rfl ?_)
  refine wpAny_bind (wpAny_newTuple ?_ (by show vs.length<=_; rw [sizeLine_eq]; omega))
  show wpAny _ _ (Builtin.SmallTypes.ownedTupleHandOut (.ref z) (.ref h₂.objs.size) >>= _) _ _ _
  refine wpAny_bind ?_
  unfold Builtin.SmallTypes.ownedTupleHandOut
  have hz₆:IsZip (h₂.push {cls:=.type "tuple",data:=.seq vs.toArray}) z TI TO .ellipsis:=Heap.get?_push_of_some _ hz₂
  refine wpAny_bind (wpAny_setField_rec hz₆ (by simp) λ h₇ hz₇ hs₇=>?_)
  replace hz₇:IsZip h₇ z TI TO (rawInt h₂.objs.size):=hz₇
  replace hs₇:Heap.SameBut z (h₂.push {cls:=.type "tuple",data:=.seq vs.toArray}) h₇:=hs₇
  refine wpAny_setField_rec hz₇ (by simp) λ h₈ hz₈ hs₈=>?_
  replace hz₈:IsZip h₈ z TI TO (rawInt h₂.objs.size):=hz₈
  replace hs₈:Heap.SameBut z h₇ h₈:=hs₈
  have up:∀c o,c≠z->h₂.get? c=some o->h₈.get? c=some o:=λ c o c1 e=>hs₈.extBut _ _ c1 (hs₇.extBut _ _ c1 (Heap.get?_push_of_some _ e))
  have hT₈:dM h₈ h₂.objs.size vs.toArray:=hs₈.extBut _ _ (Nat.ne_of_gt zlt) (hs₇.extBut _ _ (Nat.ne_of_gt zlt) (Heap.get?_push_size _ rfl))
  have hz8:h₈.objs.size=h₂.objs.size+1:=by rw [hs₈.1,hs₇.1,Heap.size_push]
  rw [hs2] at hz₈ hT₈ hz8
  refine wpAny_pure ⟨_,rfl,?_⟩
  show Q (.ref h₂.objs.size) _
  rw [hs2]
  exact q h₈ ⟨hz₈,up _ _ D.tiz hTI₂⟩ (up _ _ D.toz q2) (λ j hj'=>(q1 j hj').keep λ o e=>up _ o (D.iz j hj') e) hT₈ hz8 λ c o c1 c2 c3 e=>up c o c1 (q4 c o c2 c3 (hs₁.extBut _ _ c1 e))
theorem jM {z TI TO:Addr} {pre post:List ZJ} {j:ZJ} {i:Nat} {T:Array Value} {vs:List Value} {Q:Fin->Shared->Prop} (hh:A.handled=none) (D:gE z TI TO (pre++j::post)) (hz:rO s.heap z TI TO .none (pre++j::post)) (hT:dM s.heap TO T) (hsz:T.size<=100)
  (hj:∀x∈pre++j::post,x.At s.heap i/\x.Sq s.heap) (hv:Paired (λ (j:ZJ) v=>j.xs[i]?=some v) pre vs) (hx:j.xs[i]?=none)
  (q:∀h' e,(∀c o,c≠z->c≠TO->c∉(pre++j::post).map (·.it)->s.heap.get? c=some o->h'.get? c=some o)->(∃o,h'.get? e=some o/\o.cls=.type "StopIteration")->E (.ref e) {s with heap:=h'}) :
  wpAny (model prog w) A (Builtin.«zip.__next__» ⟨[.ref z],[]⟩) Q E s:=by
 obtain ⟨hz,hTI⟩:=hz
 show wpAny _ _ (field (.ref z) 2 >>= _) _ _ _
 refine wpAny_bind (wpAny_field hz rfl (x:=.bool false) rfl ?_)
 show wpAny _ _ (field (.ref z) 3 >>= _) _ _ _
 refine wpAny_bind (wpAny_field hz rfl (x:=.ref TI) rfl ?_)
 refine wpAny_bind (wpAny_seqItems hTI rfl ?_)
 have hne:(((pre++j::post).map λ j=>Value.ref j.it).toArray.isEmpty)=false:=by
  have:=D.ne
  cases hjs:(pre++j::post) with
  | nil=>exact absurd hjs this
  | cons _ _=>simp
 dsimp only
 rw [hne]
 simp only [Bool.false_eq_true,if_false]
 show wpAny _ _ (Builtin.SmallTypes.ownedTupleIsFree (.ref z) >>= _) _ _ _
 refine wpAny_bind ?_
 unfold Builtin.SmallTypes.ownedTupleIsFree
 refine wpAny_bind (wpAny_field hz rfl (x:=.none) rfl (wpAny_pure ?_))
 simp only [if_true]
 refine wpAny_bind (wpAny_rule ?_)
 refine wpAny_bind (wpAny_field hz rfl (x:=.ref TO) rfl ?_)
 refine wpAny_bind (wpAny_setField_rec hz (by simp) λ h₁ hz₁ hs₁=>?_)
 replace hz₁:IsZip h₁ z TI TO .ellipsis:=hz₁
 replace hs₁:Heap.SameBut z s.heap h₁:=hs₁
 refine wpAny_bind (jb (TO:=TO) (i:=i) (Eb:=λ e s1=>wpAny (model prog w) A (setField (.ref z) 0 .none) (λ _ s2=>E e s2) E s1) hh ?hb pre j post 0 {s with heap:=h₁} T vs D.toApart (λ x h=>?_) hv hx (hs₁.extBut _ _ D.toz hT) hsz λ h₂ e q4 q5=>?_)
 case hb=>
  intro it k s' R' h
  refine wpAny_bind (wpAny_onRaise ?_)
  show wpAny _ _ (Builtin.SmallTypes.nextOf (.ref it) >>= _) _ _ _
  refine wpAny_bind (wpAny_mono h (λ x s1 ⟨T1,t1,z1,k1⟩=>wpAny_pure ?_) λ e s1 he=>he)
  refine wpAny_bind (wpAny_seqItems t1 rfl ?_)
  refine wpAny_bind (wpAny_updateSeq t1 rfl ?_ (by rw [sizeLine_eq]; omega) (by rw [Array.size_setIfInBounds,sizeLine_eq]; omega))
  refine wpAny_bind (wpAny_letGo (wpAny_pure ?_))
  refine k1 _ ?_ (Heap.SameBut.update ..)
  rw [dM,Heap.get?_update_self _ t1 rfl]
  simp [Obj.mapSeq]
 ·obtain ⟨x1,x2⟩:=hj x h
  exact ⟨x1.keep λ o e=>hs₁.extBut _ o (D.iz x h) e,x2.keep λ o e=>hs₁.extBut _ o (D.lz x h) e⟩
 ·have zni:z∉(pre++j::post).map (·.it):=λ z'=>by
   obtain ⟨j,h1,h2⟩:=List.mem_map.mp z'
   exact D.iz j h1 h2
  have hz₂:IsZip h₂ z TI TO .ellipsis:=q4 z _ D.toz.symm zni hz₁
  obtain ⟨oe,hoe,hce⟩:=q5
  have hez:e≠z:=λ x=>by subst x; rw [hz₂] at hoe; cases hoe; simp at hce
  refine wpAny_setField_rec hz₂ (by simp) λ h₃ _ hs₃=>q h₃ e (λ c o c1 c2 c3 x=>hs₃.extBut _ _ c1 (q4 c o c2 c3 (hs₁.extBut _ _ c1 x))) ⟨oe,hs₃.extBut _ _ hez hoe,hce⟩
theorem uG {z TI TO:Addr} {js:List ZJ} {i:Nat} {T:Array Value} {vs:List Value} {Q:Option Value->Shared->Prop} (D:gE z TI TO js) (hz:rO s.heap z TI TO .none js) (hT:dM s.heap TO T) (hsz:T.size=js.length) (hl:js.length<=100)
  (hj:∀j∈js,j.At s.heap i/\j.Sq s.heap) (hv:Paired (λ (j:ZJ) v=>j.xs[i]?=some v) js vs)
  (q:∀h',rO h' z TI TO (rawInt s.heap.objs.size) js->dM h' TO vs.toArray->(∀j∈js,j.At h' (i+1))->dM h' s.heap.objs.size vs.toArray->h'.objs.size=s.heap.objs.size+1->(∀c o,c≠z->c≠TO->c∉js.map (·.it)->s.heap.get? c=some o->h'.get? c=some o)->Q (some (.ref s.heap.objs.size)) {s with heap:=h'}) :
  wpAny (model prog w) A (pyNext (.ref z)) Q E s:=by
 have hT':s.TypeIs (.ref z) "zip":=⟨_,hz.rc,rfl⟩
 unfold pyNext
 exact wpAny_bind (wpAny_attempt (wpAny_callSpecial?_slot (name:=Str.ofString "__next__") hT' F.slot_zip_next (wpAny_call_entry F.slot_zip_next hT' F.entry_zip_next
  (jc D hz hT hsz hl hj hv λ h' a1 a2 a3 a4 a5 a6=>wpAny_pure (q h' a1 a2 a3 a4 a5 a6)) (F.args_zip_next_1 _))))
theorem uH {z TI TO:Addr} {pre post:List ZJ} {j:ZJ} {i:Nat} {T:Array Value} {vs:List Value} {Q:Option Value->Shared->Prop} (hh:A.handled=none) (D:gE z TI TO (pre++j::post)) (hz:rO s.heap z TI TO .none (pre++j::post)) (hT:dM s.heap TO T) (hsz:T.size<=100)
  (hj:∀x∈pre++j::post,x.At s.heap i/\x.Sq s.heap) (hv:Paired (λ (j:ZJ) v=>j.xs[i]?=some v) pre vs) (hx:j.xs[i]?=none)
  (q:∀h',(∀c o,c≠z->c≠TO->c∉(pre++j::post).map (·.it)->s.heap.get? c=some o->h'.get? c=some o)->Q none {s with heap:=h'}) :
  wpAny (model prog w) A (pyNext (.ref z)) Q E s:=by
 have hT':s.TypeIs (.ref z) "zip":=⟨_,hz.rc,rfl⟩
 unfold pyNext
 refine wpAny_bind (wpAny_attempt (wpAny_callSpecial?_slot (name:=Str.ofString "__next__") hT' F.slot_zip_next (wpAny_call_entry F.slot_zip_next hT' F.entry_zip_next
  (jM (A:=A.in1) hh D hz hT hsz hj hv hx λ h' e hk he=>?_) (F.args_zip_next_1 _))))
 obtain ⟨o,ho,hc⟩:=he
 refine wpAny_bind (wpAny_isInstance (T:="StopIteration") (b:=true) ⟨o,ho,hc⟩ isSubtype_stop ?_)
 exact wpAny_pure (q _ hk)
end
end D
end
section
namespace D
open PySem PySem.Spec PyProof.Rows L2
noncomputable def SqK (K:PySem.W.Frag) (H:Hp) (q:Bool×Addr) (xs:List V):Prop:=(q.1=true/\SqL K H q.2 xs)\/(q.1=false/\SqT K H q.2 xs)
noncomputable def ZJ.key (j:ZJ):Bool×Addr×Addr:=(j.k,j.it,j.l)
noncomputable def qOf (x:Bool×Addr×Addr):Bool×Addr:=(x.1,x.2.2)
noncomputable def Izp (K:PySem.W.Frag) (qs:List (Bool×Addr)):It:=
  ⟨λ i H=>∀q∈qs,∃xs v,SqK K H q xs/\xs[i]?=some v,
   λ i H x H'=>∃p vs,H p=none/\x=.ref p/\H'=upd H p (.tup vs)/\Paired (λ q v=>∀xs,SqK K H q xs->xs[i]?=some v) qs vs,
   λ i H=>(∀q∈qs,∃xs,SqK K H q xs)/\∃pre q post,qs=pre++q::post/\(∀p∈pre,∃xs v,SqK K H p xs/\xs[i]?=some v)/\∃xs,SqK K H q xs/\xs.length<=i⟩
section
variable {X:L2.Cx} {pins:List (Addr×Obj)} {σ:L2.St} {H:Hp} {s:Shared} {h':Heap}
theorem mJ {t':Nat} {ch:List Addr} (I:Inv X pins σ H s) (k:∀b o,b∉ch->s.heap.get? b=some o->h'.get? b=some o) (hf:∀b∈ch,fu X pins H b):Inv X pins σ H {s with heap:=h',toks:=t'}:=by
 have nit:∀b u,H b=some u->b∉ch:=λ b u e z=>by rw [(hf b z).1] at e; cases e
 refine I.step (g':=s.gens) (d':=s.drawn) (ch:=ch) (λ b hb=>?_) (λ b o _ _ hc e _=>k b o hc e) (λ b o _ _ hc e _=>⟨o.slots,k b o hc e⟩) (λ _ _ _ _ n=>n)
  (λ b o hc e=>⟨o,k b o hc e⟩) (λ _ _ e=>e) (λ _ _ _ e=>e) (λ b ps e=>⟨#[],by rw [e]; simp⟩) (λ m hm=>?_) (λ b u e=>?_) I.bare
 ·obtain ⟨f0,f1,f2,f3,f4,f5⟩:=hf b hb
  exact ⟨f3,f1,f4,f5⟩
 ·obtain ⟨o,es,ep,ho,r⟩:=hm
  exact ⟨o,es,ep,k _ o (λ z=>(hf _ z).2.1 rfl) ho,r⟩
 ·refine (I.hok b u e).stay (λ c v hc q=>k c v ?_ q) (λ _ q=>q) λ _ _ q=>q
  rcases hc with z | z
  ·rw [z]; exact nit b u e
  ·exact nit c _ z
theorem mK {t':Nat} {ch:List Addr} {vs:List V} {us:List Value} (I:Inv X pins σ H s) (k:∀b o,b∉ch->s.heap.get? b=some o->h'.get? b=some o) (hf:∀b∈ch,fu X pins H b)
  (ht:h'.get? s.heap.objs.size=some {cls:=.type "tuple",data:=.seq us.toArray}) (rv:Vals vs us) (hz:vs.length<=sizeLine):Inv X pins σ (upd H s.heap.objs.size (.tup vs)) {s with heap:=h',toks:=t'}:=by
 have nit:∀b u,H b=some u->b∉ch:=λ b u e z=>by rw [(hf b z).1] at e; cases e
 have hHs:H s.heap.objs.size=none:=I.hok.fresh (Nat.le_refl _)
 have hok:HOk X.prog X.w (upd H s.heap.objs.size (.tup vs)) h':=by
  have lift:∀b o,H b=some o->bA X.prog X.w (upd H s.heap.objs.size (.tup vs)) h' b o:=λ b o q=>
   (I.hok b o q).stay (λ c v hcv r=>k c v (by
    rcases hcv with z | z
    ·rw [z]; exact nit b o q
    ·exact nit c _ z) r) (λ c r=>by rw [aj (ak r hHs)]; exact r) λ c ys r=>by rw [aj (ak r hHs)]; exact r
  intro b o q
  by_cases eb:b=s.heap.objs.size
  ·subst eb
   rw [aB] at q
   cases q
   exact ⟨hz,us,rv,⟨_,ht,rfl,_,rfl⟩⟩
  ·rw [aj eb] at q
   exact lift b o q
 refine I.step (g':=s.gens) (d':=s.drawn) (ch:=ch) (λ b hb=>?_) (λ b o hL hb hcb q n=>k b o hcb q) (λ b o hL hb hcb q n=>⟨o.slots,k b o hcb q⟩) (λ b o hcb q n=>?_) (λ b o hcb q=>⟨o,k b o hcb q⟩) (λ b ys q=>by rw [aj (ak q hHs)]; exact q) (λ b o u q=>by rw [aj (ak q hHs)]; exact q)
  (λ b ps q=>⟨#[],by rw [aj (ak q hHs),q]; simp⟩) (λ m hm=>?_) hok I.bare
 ·obtain ⟨f0,f1,f2,f3,f4,f5⟩:=hf b hb
  exact ⟨f3,f1,f4,f5⟩
 ·rw [aj (Nat.ne_of_lt (Heap.lt_size q))]; exact n
 ·obtain ⟨o,es,ep,q,r⟩:=hm
  exact ⟨o,es,ep,k _ o (λ z=>(hf _ z).2.1 rfl) q,r⟩
theorem SqK.heap (I:Inv X pins σ H s) {j:ZJ} {xs:List V} (h:SqK X.K H (j.k,j.l) xs):∃its:List Value,Vals xs its/\({j with xs:=its.toArray}:ZJ).Sq s.heap/\xs.length<=sizeLine:=by
 rcases h with ⟨e,h⟩ | ⟨e,h⟩
 ·obtain ⟨its,rv,p,hz⟩:=I.list h
  exact ⟨its,rv,.inl ⟨e,p.isList⟩,hz⟩
 ·obtain ⟨its,rv,p,hz⟩:=I.tuple h
  exact ⟨its,rv,.inr ⟨e,(show s.heap.IsTuple j.l its.toArray from p)⟩,hz⟩
theorem SqK.inj (I:Inv X pins σ H s) {q:Bool×Addr} {xs ys:List V} (h:SqK X.K H q xs) (h':SqK X.K H q ys):xs=ys:=by
 rcases h with ⟨e,h⟩ | ⟨e,h⟩<;>rcases h' with ⟨e',h'⟩ | ⟨e',h'⟩
 ·exact I.iL h h'
 ·rw [e] at e'; cases e'
 ·rw [e] at e'; cases e'
 ·exact I.gn h h'
theorem uI (I:Inv X pins σ H s) {i:Nat}:∀{js:List ZJ},(∀q∈js.map (λ j=>qOf j.key),∃xs v,SqK X.K H q xs/\xs[i]?=some v)->
  ∃(js':List ZJ) (us:List Value) (vs:List V),js'.map ZJ.key=js.map ZJ.key/\(∀j∈js',j.Sq s.heap)/\Paired (λ (j:ZJ) u=>j.xs[i]?=some u) js' us/\Vals vs us/\Paired (λ q v=>∀xs,SqK X.K H q xs->xs[i]?=some v) (js.map λ j=>qOf j.key) vs
 | [],_=>⟨[],[],[],rfl,by simp,.nil,.nil,.nil⟩
 | j::js,h=>by
  obtain ⟨js',us,vs,h1,h2,h3,h4,h5⟩:=uI I (js:=js) λ q hq=>h q (List.mem_cons_of_mem _ hq)
  obtain ⟨xs,v,hs,hx⟩:=h (qOf j.key) List.mem_cons_self
  obtain ⟨its,rv,sq,hz⟩:=hs.heap I
  obtain ⟨u,hu,ru⟩:=rv.get hx
  refine ⟨{j with xs:=its.toArray}::js',u::us,v::vs,by simp only [List.map_cons,h1]; rfl,λ x hx'=>?_,.cons (by simpa using hu) h3,.cons ru h4,.cons (λ ys hy=>by rw [hs.inj I hy] at hx; exact hx) h5⟩
  rcases List.mem_cons.mp hx' with rfl | z
  ·exact sq
  ·exact h2 x z
theorem yX (I:Inv X pins σ H s):∀{js:List ZJ},(∀q∈js.map (λ j=>qOf j.key),∃xs,SqK X.K H q xs)->∃js':List ZJ,js'.map ZJ.key=js.map ZJ.key/\(∀j∈js',j.Sq s.heap)
 | [],_=>⟨[],rfl,by simp⟩
 | j::js,h=>by
  obtain ⟨js',h1,h2⟩:=yX I (js:=js) λ q hq=>h q (List.mem_cons_of_mem _ hq)
  obtain ⟨xs,hs⟩:=h (qOf j.key) List.mem_cons_self
  obtain ⟨its,rv,sq,hz⟩:=hs.heap I
  refine ⟨{j with xs:=its.toArray}::js',by simp only [List.map_cons,h1]; rfl,λ x hx'=>?_⟩
  rcases List.mem_cons.mp hx' with rfl | z
  ·exact sq
  ·exact h2 x z
noncomputable def AtK (h:Heap) (i:Nat) (x:Bool×Addr×Addr):Prop:=(x.1=true/\h.IsListIter x.2.1 x.2.2 i)\/(x.1=false/\h.IsTupleIter x.2.1 x.2.2 i)
theorem oN {js:List ZJ} {ks:List (Bool×Addr×Addr)} {h:Heap} {i:Nat} (e:js.map ZJ.key=ks):(∀j∈js,j.At h i)↔∀x∈ks,AtK h i x:=by
 subst e
 simp only [List.forall_mem_map]
 exact Iff.rfl
theorem oO {js:List ZJ} {ks:List (Bool×Addr×Addr)} (e:js.map ZJ.key=ks):js.map (·.it)=ks.map (·.2.1):=by
 subst e; simp [ZJ.key,Function.comp_def]
theorem p7 {js:List ZJ} {ks:List (Bool×Addr×Addr)} (e:js.map ZJ.key=ks):js.map (λ j=>qOf j.key)=ks.map qOf:=by
 subst e; simp [Function.comp_def]
structure ZK (h:Heap) (z TI TO:Addr) (f0:Value) (ks:List (Bool×Addr×Addr)) (i:Nat):Prop where
 rc:IsZip h z TI TO f0
 ti:dM h TI (ks.map λ x=>Value.ref x.2.1).toArray
 to:∃T,dM h TO T/\T.size=ks.length
 at_:∀x∈ks,AtK h i x
theorem AtK.keep {x:Bool×Addr×Addr} {h h':Heap} {i:Nat} (a:AtK h i x) (k:∀o,h.get? x.2.1=some o->h'.get? x.2.1=some o):AtK h' i x:=by
 rcases a with ⟨e,o,a,r⟩ | ⟨e,o,a,r⟩
 ·exact .inl ⟨e,o,k o a,r⟩
 ·exact .inr ⟨e,o,k o a,r⟩
theorem AtK.obj {x:Bool×Addr×Addr} {h:Heap} {i:Nat} (a:AtK h i x):∃o,h.get? x.2.1=some o/\∃vs,o.data=.fields vs:=by
 rcases a with ⟨e,o,a,_,r⟩ | ⟨e,o,a,_,r⟩<;>exact ⟨o,a,_,r⟩
noncomputable def zfp (z TI TO:Addr) (ks:List (Bool×Addr×Addr)):List Addr:=z::TI::TO::ks.map (·.2.1)
theorem uJ {P:Program} {w:World} {K:PySem.W.Frag} {elts:List Expr} {x1} {pos:Pos} {z TI TO:Addr} {ks:List (Bool×Addr×Addr)} (D:∀js:List ZJ,js.map ZJ.key=ks->gE z TI TO js) (hl:ks.length<=100) :
  Turn P w K (.Tuple elts x1 pos) (Izp K (ks.map qOf)) (zfp z TI TO ks) z (λ i h=>ZK h z TI TO .none ks i) where
 mem:=by simp [zfp]
 obj:=λ i h st b hb=>by
  simp only [zfp,List.mem_cons] at hb
  rcases hb with rfl | rfl | rfl | hb
  ·refine ⟨_,st.rc,λ v q=>?_⟩
   have q':Data.fields _=Data.cell v:=q
   cases q'
  ·refine ⟨_,st.ti,λ v q=>?_⟩
   have q':Data.seq _=Data.cell v:=q
   cases q'
  ·obtain ⟨T,st,_⟩:=st.to
   refine ⟨_,st,λ v q=>?_⟩
   have q':Data.seq _=Data.cell v:=q
   cases q'
  ·obtain ⟨x,hx,rfl⟩:=List.mem_map.mp hb
   obtain ⟨o,ho,vs,hd⟩:=(st.at_ x hx).obj
   exact ⟨o,ho,λ v q=>by rw [hd] at q; cases q⟩
 keep:=λ i h h' st k=>by
  obtain ⟨T,t1,t2⟩:=st.to
  exact ⟨k z (by simp [zfp]) _ st.rc,k TI (by simp [zfp]) _ st.ti,⟨T,k TO (by simp [zfp]) _ t1,t2⟩,λ x hx=>(st.at_ x hx).keep λ o e=>k _ (by simp only [zfp,List.mem_cons]; exact .inr (.inr (.inr (List.mem_map_of_mem (f:=λ x=>x.2.1) hx)))) o e⟩
 item:=by
  intro X hP hw hK hc i pins s σ H E I hf st hg
  subst hP hw hK
  have hg:∀q∈ks.map qOf,∃xs v,SqK X.K H q xs/\xs[i]?=some v:=hg
  obtain ⟨js0,e0⟩:∃js0:List ZJ,js0.map ZJ.key=ks:=⟨ks.map λ x=>⟨x.1,x.2.1,x.2.2,#[]⟩,by simp [ZJ.key,Function.comp_def]⟩
  obtain ⟨js,us,vs,h1,h2,h3,h4,h5⟩:=uI I (js:=js0) (i:=i) (by rw [p7 e0]; exact hg)
  rw [e0] at h1
  rw [p7 e0] at h5
  have dz:=D js h1
  obtain ⟨T,t1,t2⟩:=st.to
  have hlen:js.length=ks.length:=by rw [<-h1,List.length_map]
  have eti:(js.map λ j=>Value.ref j.it)=ks.map λ x=>Value.ref x.2.1:=by subst h1; simp [ZJ.key,Function.comp_def]
  refine uG dz ⟨st.rc,by rw [eti]; exact st.ti⟩ t1 (by rw [t2,hlen]) (by rw [hlen]; exact hl) (λ j hj=>⟨(oN h1).mpr st.at_ j hj,h2 j hj⟩) h3 λ h' a1 a2 a3 a4 a5 a6=>⟨_,rfl,?_⟩
  have zlt:z < s.heap.objs.size:=Heap.lt_size st.rc
  refine wpAny_letOwnedTupleGo_zip (s:={s with heap:=h'}) a1.rc λ h2' hE sb=>?_
  have hit:js.map (·.it)=ks.map (·.2.1):=oO h1
  have k2:∀b o,b∉z::TO::ks.map (·.2.1)->s.heap.get? b=some o->h2'.get? b=some o:=λ b o nb q=>by
   simp only [List.mem_cons,not_or] at nb
   exact sb.extBut b o nb.1 (a6 b o nb.1 nb.2.1 (by rw [hit]; exact nb.2.2) q)
  have hf':∀b∈z::TO::ks.map (·.2.1),fu X pins H b:=λ b hb=>hf b (by
   simp only [zfp,List.mem_cons] at hb ⊢
   rcases hb with q | q | q
   ·exact .inl q
   ·exact .inr (.inr (.inl q))
   ·exact .inr (.inr (.inr q)))
  have hHs:H s.heap.objs.size=none:=I.hok.fresh (Nat.le_refl _)
  have hvz:vs.length<=sizeLine:=by
   have e1:vs.length=us.length:=h4.length
   have e2:js.length=us.length:=Paired.length h3
   rw [sizeLine_eq]; omega
  have I2:Inv X pins σ (upd H s.heap.objs.size (.tup vs)) {s with heap:=h2'}:=mK (t':=s.toks) I k2 hf' (sb.extBut _ _ (Nat.ne_of_gt zlt) a4) h4 hvz
  refine ⟨.ref s.heap.objs.size,_,I2,rfl,⟨_,vs,hHs,rfl,rfl,h5⟩,⟨hE,?_,⟨us.toArray,sb.extBut _ _ dz.toz a2,?_⟩,?_⟩,λ b hb=>?_⟩
  ·have:=sb.extBut _ _ dz.tiz a1.ti
   rw [eti] at this
   exact this
  ·have e2:js.length=us.length:=Paired.length h3
   simp; omega
  ·refine (oN h1).mp λ j hj=>(a3 j hj).keep λ o e=>sb.extBut _ o (dz.iz j hj) e
  ·have:b < s.heap.objs.size:=by
    simp only [zfp,List.mem_cons] at hb
    rcases hb with rfl | rfl | rfl | hb
    ·exact zlt
    ·exact Heap.lt_size st.ti
    ·exact Heap.lt_size t1
    ·obtain ⟨x,hx,rfl⟩:=List.mem_map.mp hb
     obtain ⟨o,ho,_⟩:=(st.at_ x hx).obj
     exact Heap.lt_size ho
   rw [aj (Nat.ne_of_lt this)]
   exact (hf b hb).1
 done:=by
  intro X hP hw hK hc i pins s σ H E I hf st hg
  subst hP hw hK
  obtain ⟨hall,pre,q,post,hq,hpre,xs,hsx,hxl⟩:(∀q∈ks.map qOf,∃xs,SqK X.K H q xs)/\∃pre q post,ks.map qOf=pre++q::post/\(∀p∈pre,∃xs v,SqK X.K H p xs/\xs[i]?=some v)/\∃xs,SqK X.K H q xs/\xs.length<=i:=hg
  obtain ⟨kpre,kr,ek,ep,er⟩:=List.map_eq_append_iff.mp hq
  obtain ⟨kq,kpost,er',eq',epost⟩:=List.map_eq_cons_iff.mp er
  subst er' eq' epost ep
  obtain ⟨p0,e0⟩:∃js0:List ZJ,js0.map ZJ.key=kpre:=⟨kpre.map λ x=>⟨x.1,x.2.1,x.2.2,#[]⟩,by simp [ZJ.key,Function.comp_def]⟩
  obtain ⟨o0,f0⟩:∃js0:List ZJ,js0.map ZJ.key=kpost:=⟨kpost.map λ x=>⟨x.1,x.2.1,x.2.2,#[]⟩,by simp [ZJ.key,Function.comp_def]⟩
  obtain ⟨jp,us,vs,h1,h2,h3,h4,h5⟩:=uI I (js:=p0) (i:=i) (by rw [p7 e0]; exact hpre)
  obtain ⟨jo,o1,o2⟩:=yX I (js:=o0) (by rw [p7 f0]; exact λ q hq'=>hall q (by rw [ek]; simp at hq' ⊢; exact .inr (.inr hq')))
  rw [e0] at h1
  rw [f0] at o1
  obtain ⟨its,rv,sq,hz⟩:=SqK.heap I (j:=⟨kq.1,kq.2.1,kq.2.2,#[]⟩) hsx
  have hkey:(jp++(⟨kq.1,kq.2.1,kq.2.2,its.toArray⟩:ZJ)::jo).map ZJ.key=ks:=by rw [ek,List.map_append,List.map_cons,h1,o1]; rfl
  have dz:=D _ hkey
  obtain ⟨T,t1,t2⟩:=st.to
  have eti:((jp++(⟨kq.1,kq.2.1,kq.2.2,its.toArray⟩:ZJ)::jo).map λ j=>Value.ref j.it)=ks.map λ x=>Value.ref x.2.1:=by rw [<-hkey]; simp [ZJ.key,Function.comp_def]
  have hlv:xs.length=its.length:=rv.length
  refine uH (I.ok.hd hc) dz ⟨st.rc,by rw [eti]; exact st.ti⟩ t1 (by rw [t2]; exact hl) (λ j hj=>⟨(oN hkey).mpr st.at_ j hj,?_⟩) h3 (by simp; omega) λ h' a6=>⟨rfl,?_⟩
  ·rcases List.mem_append.mp hj with z1 | z1
   ·exact h2 j z1
   ·rcases List.mem_cons.mp z1 with rfl | z1
    ·exact sq
    ·exact o2 j z1
  ·refine mJ (t':=s.toks) (ch:=z::TO::ks.map (·.2.1)) I (λ b o nb q=>?_) λ b hb=>hf b (by
    simp only [zfp,List.mem_cons] at hb ⊢
    rcases hb with q | q | q
    ·exact .inl q
    ·exact .inr (.inr (.inl q))
    ·exact .inr (.inr (.inr q)))
   simp only [List.mem_cons,not_or] at nb
   exact a6 b o nb.1 nb.2.1 (by rw [oO hkey]; exact nb.2.2) q
 self:=λ _ _ _ _ _ st h=>wpAny_pyIter_zip st.rc h
end
end D
end
section
namespace D
open PySem PySem.Spec PyProof.Rows L2
theorem jd (a b c:Value):checkTypeCall "zip" ⟨[a,b,c],[]⟩=pure ():=by kernel_rfl
theorem jN (a b c:Value):checkBuiltinCall "zip.__new__" ⟨[.type "zip",a,b,c],[]⟩=pure ():=by kernel_rfl
theorem je (a b c d:Value):checkTypeCall "zip" ⟨[a,b,c,d],[]⟩=pure ():=by kernel_rfl
theorem jO (a b c d:Value):checkBuiltinCall "zip.__new__" ⟨[.type "zip",a,b,c,d],[]⟩=pure ():=by kernel_rfl
theorem fN (a b c d e:Value):argsOk "object.__init__" ⟨[a,b,c,d,e],[]⟩:=by
 unfold argsOk; rw [signature?_of (id:="object.__init__") (n:=['_','_','t','i','n','i','_','_']) (o:=['t','c','e','j','b','o']) (by kernel_rfl) F.owner_object]; kernel_rfl
theorem fO (a b c d:Value):argsOk "object.__init__" ⟨[a,b,c,d],[]⟩:=by
 unfold argsOk; rw [signature?_of (id:="object.__init__") (n:=['_','_','t','i','n','i','_','_']) (o:=['t','c','e','j','b','o']) (by kernel_rfl) F.owner_object]; kernel_rfl
abbrev itO (q:Bool×Addr):Obj:={cls:=.type (if q.1 then "list_iterator" else "tuple_iterator"),data:=.fields #[.ref q.2,.int 0 0]}
noncomputable def SqH (h:Heap) (q:Bool×Addr):Prop:=∃xs,(q.1=true/\h.IsList q.2 xs)\/(q.1=false/\h.IsTuple q.2 xs)
theorem SqH.push {h:Heap} {q:Bool×Addr} (x:SqH h q) (o:Obj):SqH (h.push o) q:=by
 obtain ⟨xs,⟨e,x⟩ | ⟨e,p,x,r⟩⟩:=x
 ·exact ⟨xs,.inl ⟨e,Heap.IsList.push x o⟩⟩
 ·exact ⟨xs,.inr ⟨e,p,Heap.get?_push_of_some _ x,r⟩⟩
section
variable {prog:Program} {w:World} {A:Around} {E:Value->Shared->Prop} {s:Shared}
theorem cP {k:Bool} {l:Addr} {Q:Value->Shared->Prop} (x:SqH s.heap (k,l)) (hQ:Q (.ref s.heap.objs.size) {s with heap:=s.heap.push (itO (k,l))}):wpAny (model prog w) A (pyIter (.ref l)) Q E s:=by
 obtain ⟨xs,⟨e,x⟩ | ⟨e,x⟩⟩:=x
 ·cases e; exact wpAny_pyIter_list x hQ
 ·cases e; exact wpAny_pyIter_tuple x hQ
end
theorem mL (p q:Bool×Addr) :
  Meets (Builtin.«zip.__new__» ⟨[.type "zip",.ref p.2,.ref q.2],[]⟩) (λ _ R s=>SqH s.heap p/\SqH s.heap q/\
   R (.ok (.ret (.ref (s.heap.objs.size+4)))) {s with heap:=((((s.heap.push (itO p)).push (itO q)).push {cls:=.type "tuple",data:=.seq #[.ref s.heap.objs.size,.ref (s.heap.push (itO p)).objs.size]}).push {cls:=.type "tuple",data:=.seq #[.none,.none]}).push {cls:=.type "zip",data:=.fields #[.none,.bool false,.bool false,.ref (s.heap.objs.size+2),.ref (s.heap.objs.size+3)]}}):=
 .of_wp λ prog w A R s h=>by
  obtain ⟨k1,l1⟩:=p; obtain ⟨k2,l2⟩:=q
  obtain ⟨hp,g,d,tk,os⟩:=s; obtain ⟨hl1,hl2,h⟩:=h
  have hsub:=sub_zip
  have hL1:SqH (Shared.heap ⟨hp,g,d,tk,os⟩) (k1,l1):=hl1
  have hL2:SqH (Shared.heap ⟨hp.push (itO (k1,l1)),g,d,tk,os⟩) (k2,l2):=SqH.push hl2 _
  wp_walk using cP hL1,cP hL2
  refine ⟨_,rfl,?_⟩
  simp only [Heap.size_push] at h ⊢
  exact h
set_option maxHeartbeats 0 in
theorem mO (p q r:Bool×Addr) :
  Meets (Builtin.«zip.__new__» ⟨[.type "zip",.ref p.2,.ref q.2,.ref r.2],[]⟩) (λ _ R s=>SqH s.heap p/\SqH s.heap q/\SqH s.heap r/\
   R (.ok (.ret (.ref (s.heap.objs.size+5)))) {s with heap:=(((((s.heap.push (itO p)).push (itO q)).push (itO r)).push {cls:=.type "tuple",data:=.seq #[.ref s.heap.objs.size,.ref (s.heap.objs.size+1),.ref (s.heap.objs.size+2)]}).push {cls:=.type "tuple",data:=.seq #[.none,.none,.none]}).push {cls:=.type "zip",data:=.fields #[.none,.bool false,.bool false,.ref (s.heap.objs.size+3),.ref (s.heap.objs.size+4)]}}):=
 .of_wp λ prog w A R s h=>by
  obtain ⟨k1,l1⟩:=p; obtain ⟨k2,l2⟩:=q; obtain ⟨k3,l3⟩:=r
  obtain ⟨hp,g,d,tk,os⟩:=s; obtain ⟨hl1,hl2,hl3,h⟩:=h
  have hsub:=sub_zip
  have hL1:SqH (Shared.heap ⟨hp,g,d,tk,os⟩) (k1,l1):=hl1
  have hL2:SqH (Shared.heap ⟨hp.push (itO (k1,l1)),g,d,tk,os⟩) (k2,l2):=SqH.push hl2 _
  have hL3:SqH (Shared.heap ⟨(hp.push (itO (k1,l1))).push (itO (k2,l2)),g,d,tk,os⟩) (k3,l3):=SqH.push (SqH.push hl3 _) _
  wp_walk using cP hL1,cP hL2,cP hL3
  refine ⟨_,rfl,?_⟩
  simp only [Heap.size_push] at h ⊢
  exact h
set_option maxHeartbeats 0 in
theorem mP (p q r t:Bool×Addr) :
  Meets (Builtin.«zip.__new__» ⟨[.type "zip",.ref p.2,.ref q.2,.ref r.2,.ref t.2],[]⟩) (λ _ R s=>SqH s.heap p/\SqH s.heap q/\SqH s.heap r/\SqH s.heap t/\
   R (.ok (.ret (.ref (s.heap.objs.size+6)))) {s with heap:=((((((s.heap.push (itO p)).push (itO q)).push (itO r)).push (itO t)).push {cls:=.type "tuple",data:=.seq #[.ref s.heap.objs.size,.ref (s.heap.objs.size+1),.ref (s.heap.objs.size+2),.ref (s.heap.objs.size+3)]}).push {cls:=.type "tuple",data:=.seq #[.none,.none,.none,.none]}).push {cls:=.type "zip",data:=.fields #[.none,.bool false,.bool false,.ref (s.heap.objs.size+4),.ref (s.heap.objs.size+5)]}}):=
 .of_wp λ prog w A R s h=>by
  obtain ⟨k1,l1⟩:=p; obtain ⟨k2,l2⟩:=q; obtain ⟨k3,l3⟩:=r; obtain ⟨k4,l4⟩:=t
  obtain ⟨hp,g,d,tk,os⟩:=s; obtain ⟨hl1,hl2,hl3,hl4,h⟩:=h
  have hsub:=sub_zip
  have hL1:SqH (Shared.heap ⟨hp,g,d,tk,os⟩) (k1,l1):=hl1
  have hL2:SqH (Shared.heap ⟨hp.push (itO (k1,l1)),g,d,tk,os⟩) (k2,l2):=SqH.push hl2 _
  have hL3:SqH (Shared.heap ⟨(hp.push (itO (k1,l1))).push (itO (k2,l2)),g,d,tk,os⟩) (k3,l3):=SqH.push (SqH.push hl3 _) _
  have hL4:SqH (Shared.heap ⟨((hp.push (itO (k1,l1))).push (itO (k2,l2))).push (itO (k3,l3)),g,d,tk,os⟩) (k4,l4):=SqH.push (SqH.push (SqH.push hl4 _) _) _
  wp_walk using cP hL1,cP hL2,cP hL3,cP hL4
  refine ⟨_,rfl,?_⟩
  simp only [Heap.size_push] at h ⊢
  exact h
theorem cQ {h:Heap} {q:Bool×Addr} {a:Addr} (e:h.get? a=some (itO q)):AtK h 0 (q.1,a,q.2):=by
 obtain ⟨k,l⟩:=q
 cases k
 ·exact .inr ⟨rfl,_,e,rfl,rfl⟩
 ·exact .inl ⟨rfl,_,e,rfl,rfl⟩
noncomputable def keysAt (n:Nat):List (Bool×Addr)->List (Bool×Addr×Addr)
 | []=>[]
 | q::qs=>(q.1,n,q.2)::keysAt (n+1) qs
theorem mQ:∀(qs:List (Bool×Addr)) (n:Nat),(keysAt n qs).map qOf=qs
 | [],_=>rfl
 | q::qs,n=>by simp [keysAt,qOf,mQ qs]
theorem fP:∀(qs:List (Bool×Addr)) (n:Nat),(keysAt n qs).length=qs.length
 | [],_=>rfl
 | q::qs,n=>by simp [keysAt,fP qs]
theorem dW:∀{qs:List (Bool×Addr)} {n:Nat} {x:Bool×Addr×Addr},x∈keysAt n qs->(@LE.le Nat _ n x.2.1/\@LT.lt Nat _ x.2.1 (n+qs.length))/\(x.1,x.2.2)∈qs
 | [],_,_,h=>by cases h
 | q::qs,n,x,h=>by
  rcases List.mem_cons.mp h with rfl | h
  ·exact ⟨⟨Nat.le_refl _,by simp⟩,List.mem_cons_self⟩
  ·obtain ⟨⟨h1,h2⟩,h3⟩:=dW h
   exact ⟨⟨by omega,by simp; omega⟩,List.mem_cons_of_mem _ h3⟩
theorem gb:∀(qs:List (Bool×Addr)) (n:Nat),((keysAt n qs).map (·.2.1)).Nodup
 | [],_=>List.nodup_nil
 | q::qs,n=>by
  rw [keysAt,List.map_cons,List.nodup_cons]
  refine ⟨λ h=>?_,gb qs (n+1)⟩
  obtain ⟨x,hx,e⟩:=List.mem_map.mp h
  have h1:=(dW hx).1.1
  have e':@Eq Nat x.2.1 n:=e
  omega
theorem Bj {n m:Nat} {qs:List (Bool×Addr)} (hq:∀q∈qs,@LT.lt Nat _ q.2 n) (hne:qs≠[]) (hm:m=n+qs.length) (js:List ZJ) (hk:js.map ZJ.key=keysAt n qs):gE (m+2) m (m+1) js:=by
 have hj:∀j∈js,(@LE.le Nat _ n j.it/\@LT.lt Nat _ j.it (n+qs.length))/\@LT.lt Nat _ j.l n:=λ j h=>by
  have h1:j.key∈keysAt n qs:=by rw [<-hk]; exact List.mem_map_of_mem h
  obtain ⟨h2,h3⟩:=dW h1
  exact ⟨h2,hq _ h3⟩
 refine {its:=?_,toi:=λ j h=>?_,tol:=λ j h=>?_,il:=λ j h j' h'=>?_,iz:=λ j h=>?_,lz:=λ j h=>?_,toz:=?_,tiz:=?_,tito:=?_,tii:=λ j h=>?_,ne:=λ h=>?_}
 ·rw [oO hk]; exact gb qs n
 ·have:=hj j h; exact λ e=>by have e':@Eq Nat _ _:=e; omega
 ·have:=hj j h; exact λ e=>by have e':@Eq Nat _ _:=e; omega
 ·have:=hj j h; have:=hj j' h'; exact λ e=>by have e':@Eq Nat _ _:=e; omega
 ·have:=hj j h; exact λ e=>by have e':@Eq Nat _ _:=e; omega
 ·have:=hj j h; exact λ e=>by have e':@Eq Nat _ _:=e; omega
 ·exact λ e=>by have e':@Eq Nat _ _:=e; omega
 ·exact λ e=>by have e':@Eq Nat _ _:=e; omega
 ·exact λ e=>by have e':@Eq Nat _ _:=e; omega
 ·have:=hj j h; exact λ e=>by have e':@Eq Nat _ _:=e; omega
 ·subst h
  have:=fP qs n
  rw [<-hk] at this
  exact hne (List.length_eq_zero_iff.mp this.symm)
theorem cu {h:Heap} {o:Obj} {n:Nat} (e:h.objs.size=n) (f:o.isFreed=false):(h.push o).get? n=some o:=by subst e; exact Heap.get?_push_size _ f
section
variable {prog:Program} {w:World} {A:Around} {E:Value->Shared->Prop} {s:Shared}
theorem SqH.lt {h:Heap} {q:Bool×Addr} (x:SqH h q):@LT.lt Nat _ q.2 h.objs.size:=by
 obtain ⟨xs,⟨e,p,x,_⟩ | ⟨e,p,x,_⟩⟩:=x<;>exact Heap.lt_size x
theorem rP {qs:List (Bool×Addr)} {Q:Value->Shared->Prop} (hq:∀q∈qs,SqH s.heap q) (hl:qs.length=2\/qs.length=3\/qs.length=4)
  (h:∀h' m,m=s.heap.objs.size+qs.length->ZK h' (m+2) m (m+1) .none (keysAt s.heap.objs.size qs) 0->(∀c o,s.heap.get? c=some o->h'.get? c=some o)->Q (.ref (m+2)) {s with heap:=h'}) :
  wpAny (model prog w) A (call (.type "zip") (qs.map λ q=>.ref q.2)) Q E s:=by
 match qs,hl,hq,h with
 | [p,q],_,hq,h=>
  refine callType_new F.called_zip (by decide) (F.typeCall_zip_2 _ _) (F.newCall_zip_2 _ _) (λ obj=>F.args_object_init_3 obj _ _) F.entry_zip_new (mL p q) ⟨hq p (by simp),hq q (by simp),?_⟩
  have z1:(s.heap.push (itO p)).objs.size=s.heap.objs.size+1:=Heap.size_push ..
  have z2:((s.heap.push (itO p)).push (itO q)).objs.size=s.heap.objs.size+2:=by rw [Heap.size_push,z1]
  rw [z1]
  have e1:∀(h:Heap) (o:Obj) (n:Nat),h.objs.size=n->(h.push o).objs.size=n+1:=λ h o n z=>by rw [Heap.size_push,z]
  refine ⟨⟨_,cu (e1 _ _ _ (e1 _ _ _ z2)) rfl,rfl⟩,h _ (s.heap.objs.size+2) rfl ⟨cu (e1 _ _ _ (e1 _ _ _ z2)) rfl,Heap.get?_push_of_some _ (Heap.get?_push_of_some _ (cu z2 rfl)),⟨#[.none,.none],Heap.get?_push_of_some _ (cu (e1 _ _ _ z2) rfl),rfl⟩,λ x hx=>?_⟩ λ c o x=>?_⟩
  ·simp only [keysAt,List.mem_cons,List.not_mem_nil,or_false] at hx
   rcases hx with rfl | rfl
   ·exact cQ (Heap.get?_push_of_some _ (Heap.get?_push_of_some _ (Heap.get?_push_of_some _ (Heap.get?_push_of_some _ (Heap.get?_push_size _ rfl)))))
   ·exact cQ (Heap.get?_push_of_some _ (Heap.get?_push_of_some _ (Heap.get?_push_of_some _ (cu z1 rfl))))
  ·exact Heap.get?_push_of_some _ (Heap.get?_push_of_some _ (Heap.get?_push_of_some _ (Heap.get?_push_of_some _ (Heap.get?_push_of_some _ x))))
 | [p,q,r],_,hq,h=>
  refine callType_new F.called_zip (by decide) (jd _ _ _) (jN _ _ _) (λ obj=>fO obj _ _ _) F.entry_zip_new (mO p q r) ⟨hq p (by simp),hq q (by simp),hq r (by simp),?_⟩
  have z1:(s.heap.push (itO p)).objs.size=s.heap.objs.size+1:=Heap.size_push ..
  have z2:((s.heap.push (itO p)).push (itO q)).objs.size=s.heap.objs.size+2:=by rw [Heap.size_push,z1]
  have z3:(((s.heap.push (itO p)).push (itO q)).push (itO r)).objs.size=s.heap.objs.size+3:=by rw [Heap.size_push,z2]
  have e1:∀(h:Heap) (o:Obj) (n:Nat),h.objs.size=n->(h.push o).objs.size=n+1:=λ h o n z=>by rw [Heap.size_push,z]
  refine ⟨⟨_,cu (e1 _ _ _ (e1 _ _ _ z3)) rfl,rfl⟩,h _ (s.heap.objs.size+3) rfl ⟨cu (e1 _ _ _ (e1 _ _ _ z3)) rfl,Heap.get?_push_of_some _ (Heap.get?_push_of_some _ (cu z3 rfl)),⟨#[.none,.none,.none],Heap.get?_push_of_some _ (cu (e1 _ _ _ z3) rfl),rfl⟩,λ x hx=>?_⟩ λ c o x=>?_⟩
  ·simp only [keysAt,List.mem_cons,List.not_mem_nil,or_false] at hx
   rcases hx with rfl | rfl | rfl
   ·exact cQ (Heap.get?_push_of_some _ (Heap.get?_push_of_some _ (Heap.get?_push_of_some _ (Heap.get?_push_of_some _ (Heap.get?_push_of_some _ (Heap.get?_push_size _ rfl))))))
   ·exact cQ (Heap.get?_push_of_some _ (Heap.get?_push_of_some _ (Heap.get?_push_of_some _ (Heap.get?_push_of_some _ (cu z1 rfl)))))
   ·exact cQ (Heap.get?_push_of_some _ (Heap.get?_push_of_some _ (Heap.get?_push_of_some _ (cu z2 rfl))))
  ·exact Heap.get?_push_of_some _ (Heap.get?_push_of_some _ (Heap.get?_push_of_some _ (Heap.get?_push_of_some _ (Heap.get?_push_of_some _ (Heap.get?_push_of_some _ x)))))
 | [p,q,r,t],_,hq,h=>
  refine callType_new F.called_zip (by decide) (je _ _ _ _) (jO _ _ _ _) (λ obj=>fN obj _ _ _ _) F.entry_zip_new (mP p q r t) ⟨hq p (by simp),hq q (by simp),hq r (by simp),hq t (by simp),?_⟩
  have z1:(s.heap.push (itO p)).objs.size=s.heap.objs.size+1:=Heap.size_push ..
  have z2:((s.heap.push (itO p)).push (itO q)).objs.size=s.heap.objs.size+2:=by rw [Heap.size_push,z1]
  have z3:(((s.heap.push (itO p)).push (itO q)).push (itO r)).objs.size=s.heap.objs.size+3:=by rw [Heap.size_push,z2]
  have z4:((((s.heap.push (itO p)).push (itO q)).push (itO r)).push (itO t)).objs.size=s.heap.objs.size+4:=by rw [Heap.size_push,z3]
  have e1:∀(h:Heap) (o:Obj) (n:Nat),h.objs.size=n->(h.push o).objs.size=n+1:=λ h o n z=>by rw [Heap.size_push,z]
  refine ⟨⟨_,cu (e1 _ _ _ (e1 _ _ _ z4)) rfl,rfl⟩,h _ (s.heap.objs.size+4) rfl ⟨cu (e1 _ _ _ (e1 _ _ _ z4)) rfl,Heap.get?_push_of_some _ (Heap.get?_push_of_some _ (cu z4 rfl)),⟨#[.none,.none,.none,.none],Heap.get?_push_of_some _ (cu (e1 _ _ _ z4) rfl),rfl⟩,λ x hx=>?_⟩ λ c o x=>?_⟩
  ·simp only [keysAt,List.mem_cons,List.not_mem_nil,or_false] at hx
   rcases hx with rfl | rfl | rfl | rfl
   ·exact cQ (Heap.get?_push_of_some _ (Heap.get?_push_of_some _ (Heap.get?_push_of_some _ (Heap.get?_push_of_some _ (Heap.get?_push_of_some _ (Heap.get?_push_of_some _ (Heap.get?_push_size _ rfl)))))))
   ·exact cQ (Heap.get?_push_of_some _ (Heap.get?_push_of_some _ (Heap.get?_push_of_some _ (Heap.get?_push_of_some _ (Heap.get?_push_of_some _ (cu z1 rfl))))))
   ·exact cQ (Heap.get?_push_of_some _ (Heap.get?_push_of_some _ (Heap.get?_push_of_some _ (Heap.get?_push_of_some _ (cu z2 rfl)))))
   ·exact cQ (Heap.get?_push_of_some _ (Heap.get?_push_of_some _ (Heap.get?_push_of_some _ (cu z3 rfl))))
  ·exact Heap.get?_push_of_some _ (Heap.get?_push_of_some _ (Heap.get?_push_of_some _ (Heap.get?_push_of_some _ (Heap.get?_push_of_some _ (Heap.get?_push_of_some _ (Heap.get?_push_of_some _ x))))))
end
section
variable {X:L2.Cx}
theorem SqK.hp {pins:List (Addr×Obj)} {σ:L2.St} {H:Hp} {s:Shared} (I:Inv X pins σ H s) {q:Bool×Addr} {xs:List V} (h:SqK X.K H q xs):SqH s.heap q:=by
 rcases h with ⟨e,h⟩ | ⟨e,h⟩
 ·obtain ⟨its,rv,p,hz⟩:=I.list h
  exact ⟨_,.inl ⟨e,p.isList⟩⟩
 ·obtain ⟨its,rv,p,hz⟩:=I.tuple h
  exact ⟨_,.inr ⟨e,(show s.heap.IsTuple q.2 its.toArray from p)⟩⟩
noncomputable def EU (K:PySem.W.Frag) (ta:TA):TI:=fun σ H R=>ta σ H λ vs H1=>∃qs:List (Bool×Addr),vs=qs.map (λ q=>.ref q.2)/\(qs.length=2\/qs.length=3\/qs.length=4)/\(∀q∈qs,∃xs,SqK K H1 q xs)/\R (Izp K qs) H1
theorem mR:∀{qs:List (Bool×Addr)} {us:List Value},Vals (qs.map λ q=>V.ref q.2) us->us=qs.map λ q=>Value.ref q.2
 | [],_,.nil=>rfl
 | q::qs,_,.cons r t=>by rw [mR t]; cases r; rfl
theorem Bk {a:Expr} {r:List Expr} {ta:TA} {p pos tpos:Pos} {elts:List Expr} {x1} (hg:Gl X "zip") (hm:X.mg "zip"=none) (ha:PA X (a::r) ta) (hs:starEach (a::r) X.env=(false,eval a X.env)::starEach r X.env) (hp:∀pos,(backTo pos (starEach r X.env)).any (·.1)=false) :
  PI X (.Tuple elts x1 tpos) (.Call (.Name "zip" p) (a::r) [] pos) (EU X.K ta):=by
 intro pins s σ H R I h
 refine Call_ (dD I hg hm (u:=.type "zip") (by decide +kernel) (PyProof.Rows.callWith_type1 (thn (ha pos pins s σ H _ I h) λ us s1 ⟨vs,H1,I1,r1,q1⟩=>?_) hs (hp _)))
 obtain ⟨qs,rfl,hl,hq,q⟩:=q1
 rw [mR r1]
 have hqs:∀q∈qs,SqH s1.heap q:=λ q hq'=>by obtain ⟨xs,z⟩:=hq q hq'; exact z.hp I1
 refine rP hqs hl λ h' m hm' hz hk=>?_
 refine wpAny_pyIter_zip hz.rc ?_
 have I2:Inv X pins σ H1 {s1 with heap:=h'}:=I1.kept (t':=s1.toks) hk
 have hlen:qs.length<=4:=by omega
 have hT:=uJ (P:=X.prog) (w:=X.w) (K:=X.K) (elts:=elts) (x1:=x1) (pos:=tpos) (ks:=keysAt s1.heap.objs.size qs) (Bj (m:=m) (λ q hq'=>(hqs q hq').lt) (by intro z; subst z; simp at hl) hm') (by rw [fP]; omega)
 rw [mQ] at hT
 refine ⟨_,_,_,_,H1,rfl,I2,hT,hz,λ b hb=>?_,q⟩
 have:@LE.le Nat _ s1.heap.objs.size b:=by
  simp only [zfp,List.mem_cons] at hb
  rcases hb with rfl | rfl | rfl | hb
  ·omega
  ·omega
  ·omega
  ·obtain ⟨x,hx,rfl⟩:=List.mem_map.mp hb
   exact (dW hx).1.1
 exact I1.ku this (I1.hok.fresh this)
end
end D
end
section
namespace D
open PySem PySem.Spec PyProof.Rows L2
noncomputable def QS (X:L2.Cx) (cl:Cl) (src:Src) (q:Bool×Addr) (β0:List Addr) (H0:Hp):Prop:=∀(β:List Addr) (m:Mem) (H:Hp) (i:Nat),(∃γ,β=β0++γ)->(∀{a:Addr} {vs:List V},SqT X.K H0 a vs->SqT X.K H a vs)->(∀{a:Addr} {o:Obj} {u:HO},H0 a=some (.frz o u)->H a=some (.frz o u))->Rel X.K cl β m H->
 src.get m i≠.bad->∃xs,SqK X.K H q xs/\(∀w,src.get m i=.it w->∃v,xs[i]?=some v/\RW X.K β H w v)/\(src.get m i=.fin->xs.length<=i)
section
variable {X:L2.Cx} {cl:Cl} {C:D.Cx} {pos:Pos}
theorem Bl {n:Nat} {a:Addr} {β0:List Addr} {H0:Hp} (hb:β0[n]?=some a):QS X cl (.lst n) (true,a) β0 H0:=by
 intro β m H i hβ _ _ r nb
 obtain ⟨γ,rfl⟩:=hβ
 have hb':(β0++γ)[n]?=some a:=by rw [List.getElem?_append_left (List.getElem?_eq_some_iff.mp hb).1]; exact hb
 simp only [Src.get] at nb ⊢
 cases e1:getL m (.ref n) with
 | none=>rw [e1] at nb; exact absurd rfl nb
 | some xs=>
  obtain ⟨a',vs,z,hs,t⟩:=r.getL (.ref hb') e1
  cases z
  refine ⟨vs,.inl ⟨rfl,hs⟩,λ w e=>?_,λ e=>?_⟩
  ·dsimp only at e
   split at e
   ·rename_i w' e2
    cases e
    exact t.get e2
   ·cases e
  ·dsimp only at e
   split at e
   ·cases e
   ·rename_i e2
    rw [<-t.length]
    exact List.getElem?_eq_none_iff.mp e2
theorem uK {q:Bool×Addr} {ws:List W} {β0:List Addr} {H0:Hp} {vs:List V} (t0:RWs X.K β0 H0 ws vs) (hq:∀{H:Hp},(∀{a:Addr} {vs:List V},SqT X.K H0 a vs->SqT X.K H a vs)->(∀{a:Addr} {o:Obj} {u:HO},H0 a=some (.frz o u)->H a=some (.frz o u))->SqK X.K H q vs):QS X cl (.tup ws) q β0 H0:=by
 intro β m H i hβ ht hf r nb
 have t:=t0.keep hβ ht hf
 simp only [Src.get] at nb ⊢
 refine ⟨vs,hq ht hf,λ w e=>?_,λ e=>?_⟩
 ·split at e
  ·rename_i w' e2
   cases e
   exact t.get e2
  ·cases e
 ·split at e
  ·cases e
  ·rename_i e2
   rw [<-t.length]
   exact List.getElem?_eq_none_iff.mp e2
inductive QSs (X:L2.Cx) (cl:Cl) (β:List Addr) (H:Hp):List Src->List (Bool×Addr)->Prop
 | nil:QSs X cl β H [] []
 | cons {s:Src} {q:Bool×Addr} {ss:List Src} {qs:List (Bool×Addr)}:QS X cl s q β H->QSs X cl β H ss qs->QSs X cl β H (s::ss) (q::qs)
theorem p8 {β:List Addr} {m:Mem} {H:Hp} (r:Rel X.K cl β m H):∀{ws:List W} {vs:List V} {ss:List Src},RWs X.K β H ws vs->kP m ws=some ss->∃qs:List (Bool×Addr),vs=qs.map (λ q=>V.ref q.2)/\QSs X cl β H ss qs/\∀q∈qs,∃xs,SqK X.K H q xs
 | _,_,_,.nil,e=>by cases e; exact ⟨[],rfl,.nil,by simp⟩
 | _,_,_,.cons q t,e=>by
  simp only [kP] at e
  split at e
  ·cases e
  ·rename_i s e1
   split at e
   ·cases e
   ·rename_i ss e2
    cases e
    obtain ⟨qs,rfl,h1,h2⟩:=p8 r t e2
    obtain ⟨a,rfl,h⟩:=uB r q e1
    rcases h with ⟨n,vs,rfl,rfl,hb,hs⟩ | ⟨ws,vs,rfl,rfl,hs,t'⟩ | ⟨ws,vs,rfl,rfl,hs,t'⟩
    ·refine ⟨(true,a)::qs,rfl,.cons (Bl hb) h1,λ q hq=>?_⟩
     rcases List.mem_cons.mp hq with rfl | hq
     ·exact ⟨vs,.inl ⟨rfl,hs⟩⟩
     ·exact h2 q hq
    ·refine ⟨(true,a)::qs,rfl,.cons (uK t' λ _ hf=>.inl ⟨rfl,(hs.keep hf).l⟩) h1,λ q hq=>?_⟩
     rcases List.mem_cons.mp hq with rfl | hq
     ·exact ⟨vs,.inl ⟨rfl,hs.l⟩⟩
     ·exact h2 q hq
    ·refine ⟨(false,a)::qs,rfl,.cons (uK t' λ ht _=>.inr ⟨rfl,ht hs⟩) h1,λ q hq=>?_⟩
     rcases List.mem_cons.mp hq with rfl | hq
     ·exact ⟨vs,.inr ⟨rfl,hs⟩⟩
     ·exact h2 q hq
theorem p9 {β0 β:List Addr} {m:Mem} {H0 H:Hp} {i:Nat} (hβ:∃γ,β=β0++γ) (ht:∀{a:Addr} {vs:List V},SqT X.K H0 a vs->SqT X.K H a vs) (hf:∀{a:Addr} {o:Obj} {u:HO},H0 a=some (.frz o u)->H a=some (.frz o u)) (r:Rel X.K cl β m H):∀{ss:List Src} {qs:List (Bool×Addr)},QSs X cl β0 H0 ss qs->
  (Src.jJ ss m i≠.bad->∀q∈qs,∃xs,SqK X.K H q xs)/\
  (∀ws,Src.jJ ss m i=.its ws->(∀q∈qs,∃xs v,SqK X.K H q xs/\xs[i]?=some v)/\∀vs,Paired (λ q v=>∀xs,SqK X.K H q xs->xs[i]?=some v) qs vs->RWs X.K β H ws vs)/\
  (Src.jJ ss m i=.fin->∃pre q post,qs=pre++q::post/\(∀p∈pre,∃xs v,SqK X.K H p xs/\xs[i]?=some v)/\∃xs,SqK X.K H q xs/\xs.length<=i)
 | _,_,.nil=>by
  refine ⟨λ _ q hq=>(nomatch hq),λ ws e=>?_,λ e=>?_⟩
  ·unfold Src.jJ at e; cases e; exact ⟨by simp,λ vs p=>by cases p; exact .nil⟩
  ·unfold Src.jJ at e; cases e
 | _,_,.cons (s:=s) (q:=q) (ss:=ss) (qs:=qs) h t=>by
  obtain ⟨i1,i2,i3⟩:=p9 hβ ht hf r t
  simp only [Src.jJ]
  cases e1:s.get m i with
  | bad=>refine ⟨λ z=>absurd (by simp) z,λ ws e=>by simp at e,λ e=>by simp at e⟩
  | fin=>
   obtain ⟨xs,x1,x2,x3⟩:=h β m H i hβ ht hf r (by rw [e1]; intro z; cases z)
   cases e2:Src.jJ ss m i with
   | bad=>refine ⟨λ z=>absurd (by simp) z,λ ws e=>by simp at e,λ e=>by simp at e⟩
   | fin=>
    refine ⟨λ _ p hp=>?_,λ ws e=>by simp at e,λ _=>⟨[],q,qs,rfl,by simp,xs,x1,x3 e1⟩⟩
    rcases List.mem_cons.mp hp with rfl | hp
    ·exact ⟨xs,x1⟩
    ·exact i1 (by rw [e2]; intro z; cases z) p hp
   | its ws=>
    refine ⟨λ _ p hp=>?_,λ ws e=>by simp at e,λ _=>⟨[],q,qs,rfl,by simp,xs,x1,x3 e1⟩⟩
    rcases List.mem_cons.mp hp with rfl | hp
    ·exact ⟨xs,x1⟩
    ·exact i1 (by rw [e2]; intro z; cases z) p hp
  | it w=>
   obtain ⟨xs,x1,x2,x3⟩:=h β m H i hβ ht hf r (by rw [e1]; intro z; cases z)
   obtain ⟨v,v1,v2⟩:=x2 w e1
   cases e2:Src.jJ ss m i with
   | bad=>refine ⟨λ z=>absurd (by simp) z,λ ws e=>by simp at e,λ e=>by simp at e⟩
   | fin=>
    refine ⟨λ _ p hp=>?_,λ ws e=>by simp at e,λ _=>?_⟩
    ·rcases List.mem_cons.mp hp with rfl | hp
     ·exact ⟨xs,x1⟩
     ·exact i1 (by rw [e2]; intro z; cases z) p hp
    ·obtain ⟨pre,p,post,rfl,h1,h2⟩:=i3 e2
     refine ⟨q::pre,p,post,rfl,λ p' hp'=>?_,h2⟩
     rcases List.mem_cons.mp hp' with rfl | hp'
     ·exact ⟨xs,v,x1,v1⟩
     ·exact h1 p' hp'
   | its ws=>
    obtain ⟨j1,j2⟩:=i2 ws e2
    refine ⟨λ _ p hp=>?_,λ ws' e=>?_,λ e=>by simp at e⟩
    ·rcases List.mem_cons.mp hp with rfl | hp
     ·exact ⟨xs,x1⟩
     ·exact i1 (by rw [e2]; intro z; cases z) p hp
    ·simp only [Nxs.its.injEq] at e
     subst e
     refine ⟨λ p hp=>?_,λ vs p=>?_⟩
     ·rcases List.mem_cons.mp hp with rfl | hp
      ·exact ⟨xs,v,x1,v1⟩
      ·exact j1 p hp
     ·cases p with
      | cons y p=>
       have:=y xs x1
       rw [v1] at this
       cases this
       exact .cons v2 (j2 _ p)
theorem Bm {ss:List Src} {qs:List (Bool×Addr)} {β0:List Addr} {H0:Hp} (h:QSs X cl β0 H0 ss qs):IS X cl (Izp X.K qs) (.zip ss) β0 H0:=by
 intro β m H i hβ ht hf r
 obtain ⟨i1,i2,i3⟩:=p9 (i:=i) hβ ht hf r h
 refine ⟨λ w e=>?_,λ e=>?_⟩
 ·simp only [Src.get] at e
  split at e
  ·rename_i ws e1
   cases e
   obtain ⟨j1,j2⟩:=i2 ws e1
   refine ⟨j1,λ x H' y=>?_⟩
   obtain ⟨p,vs,hp,rfl,rfl,hv⟩:=y
   obtain ⟨x2,r2⟩:=r.kQ hp vs
   exact ⟨x2,r2,.tup (.of aB) ((j2 vs hv).mono r x2)⟩
  ·cases e
  ·cases e
 ·simp only [Src.get] at e
  split at e
  ·cases e
  ·rename_i e1
   exact ⟨i1 (by rw [e1]; intro z; cases z),i3 e1⟩
  ·cases e
theorem Dm {a:Expr} {es:List Expr} {ds:Es} {p tpos:Pos} {elts:List Expr} {x1} (hg:Gl X "zip") (hm:X.mg "zip"=none) (ha:PA X (a::es) (SA X cl (aI C ds))) (hl:∀ρ m ws m',aI C ds ρ m=.ok ws m'->ws.length=2\/ws.length=3\/ws.length=4)
  (hs:starEach (a::es) X.env=(false,eval a X.env)::starEach es X.env) (hp:∀pos,(backTo pos (starEach es X.env)).any (·.1)=false):PI X (.Tuple elts x1 tpos) (.Call (.Name "zip" p) (a::es) [] pos) (SI X cl (evI C (.zip ds))):=by
 refine PI.imp (Bk hg hm ha hs hp) ?_
 rintro σ H Rr ⟨β,ρ,m,src,m',r,l,e,k⟩
 simp only [evI] at e
 obtain ⟨ws,m1,e1,e⟩:=R.aa e
 split at e
 ·rename_i ss e2
  cases e
  refine ⟨β,ρ,m,ws,_,r,l,e1,fun β1 H1 vs x1 r1 q1=>?_⟩
  obtain ⟨qs,rfl,h1,h2⟩:=p8 r1 q1 e2
  have hlen:=hl _ _ _ _ e1
  have:=q1.length
  simp only [List.length_map] at this
  exact ⟨qs,rfl,by omega,h2,k _ _ _ x1 r1 (Bm h1)⟩
 ·cases e
end
end D
end
section
namespace D
open PySem PySem.Spec PyProof.Rows L2
noncomputable def bW (γ:List Addr) (h:Heap) (H:Hp):Hp:=λ b=>if b∈γ then match H b,h.get? b with
  | some (.lst vs),some o=>some (.frz o (.lst vs))
  | some (.ins c dx fs),some o=>some (.frz o (.ins c dx fs))
  | u,_=>u else H b
section
variable {γ:List Addr} {h:Heap} {H:Hp} {b:Addr}
theorem fQ:bW γ h H b=H b\/∃o u,b∈γ/\H b=some u/\h.get? b=some o/\bW γ h H b=some (.frz o u)/\((∃vs,u=.lst vs)\/∃c dx fs,u=.ins c dx fs):=by
 unfold bW
 by_cases hb:b∈γ
 ·simp only [if_pos hb]
  split
  ·rename_i vs o h1 h2
   exact .inr ⟨o,_,hb,h1,h2,rfl,.inl ⟨vs,rfl⟩⟩
  ·rename_i c dx fs o h1 h2
   exact .inr ⟨o,_,hb,h1,h2,rfl,.inr ⟨c,dx,fs,rfl⟩⟩
  ·exact .inl rfl
 ·exact .inl (if_neg hb)
theorem eZ (e:H b=none):bW γ h H b=none:=by
 rcases fQ (γ:=γ) (h:=h) (H:=H) (b:=b) with z | ⟨o,u,_,z,_⟩
 ·rw [z,e]
 ·rw [e] at z; cases z
theorem bE {u:HO} (e:H b=some u) (h1:∀vs,u≠.lst vs) (h2:∀c dx fs,u≠.ins c dx fs):bW γ h H b=some u:=by
 rcases fQ (γ:=γ) (h:=h) (H:=H) (b:=b) with z | ⟨o,u',_,z,_,_,⟨vs,rfl⟩ | ⟨c,dx,fs,rfl⟩⟩
 ·rw [z,e]
 ·rw [e] at z; cases z; exact absurd rfl (h1 _)
 ·rw [e] at z; cases z; exact absurd rfl (h2 _ _ _)
theorem cF (e:b∉γ):bW γ h H b=H b:=by unfold bW; rw [if_neg e]
theorem uL {vs:List V} {o:Obj} (e:b∈γ) (e1:H b=some (.lst vs)) (e2:h.get? b=some o):bW γ h H b=some (.frz o (.lst vs)):=by unfold bW; rw [if_pos e,e1,e2]
theorem uM {c dx:Addr} {fs:List (Str×V)} {o:Obj} (e:b∈γ) (e1:H b=some (.ins c dx fs)) (e2:h.get? b=some o):bW γ h H b=some (.frz o (.ins c dx fs)):=by unfold bW; rw [if_pos e,e1,e2]
theorem Dn {P:Program} {w:World} (x:HOk P w H h):HOk P w (bW γ h H) h:=λ a u e=>by
 have go:∀v,H a=some v->bA P w (D.bW γ h H) h a v:=λ v hv=>(x a v hv).stay (λ _ _ _ q=>q) (λ c q=>bE q (by intro _ z; cases z) (by intro _ _ _ z; cases z)) λ c xs q=>bE q (by intro _ z; cases z) (by intro _ _ _ z; cases z)
 rcases fQ (γ:=γ) (h:=h) (H:=H) (b:=a) with z | ⟨o,v,_,z,z2,z3,_⟩
 ·exact go u (by rw [<-z]; exact e)
 ·rw [z3] at e
  cases e
  exact ⟨z2,go v z⟩
end
theorem yY {X:L2.Cx} {pins:List (Addr×Obj)} {σ:L2.St} {H:Hp} {s:Shared} (I:Inv X pins σ H s) (γ:List Addr):Inv X pins σ (bW γ s.heap H) s where
 ok:=I.ok
 os:=I.os
 bare:=I.bare
 base:={
  keep:=I.base.keep
  slot:=I.base.slot
  free:=λ b o q n hx=>eZ (I.base.free b o q n hx)
  there:=I.base.there
  tups:=λ b xs q=>bE (I.base.tups b xs q) (by intro _ z; cases z) (by intro _ _ _ z; cases z)
  ie:=λ b o u q=>bE (I.base.ie b o u q) (by intro _ z; cases z) (by intro _ _ _ z; cases z)
  iJ:=λ b ps q=>let ⟨more,e⟩:=I.base.iJ b ps q; ⟨more,bE e (by intro _ z; cases z) (by intro _ _ _ z; cases z)⟩}
 loc:=I.loc
 cell:=I.cell
 free:=eZ I.free
 freeC:=λ x c e=>eZ (I.freeC x c e)
 pin:=λ p hp=>let ⟨a,b,c⟩:=I.pin p hp; ⟨a,eZ b,c⟩
 hok:=Dn I.hok
 len:=I.len
section
variable {K:PySem.W.Frag} {cl:Cl} {β γ:List Addr} {H:Hp} {h:Heap} {m:Mem}
theorem yZ {a:Addr} {vs:List V} (q:SqT K H a vs):SqT K (bW γ h H) a vs:=by
 rcases q with (q | ⟨o,q⟩) | q
 ·exact .inl (.inl (bE q (by intro _ z; cases z) (by intro _ _ _ z; cases z)))
 ·exact .inl (.inr ⟨o,bE q (by intro _ z; cases z) (by intro _ _ _ z; cases z)⟩)
 ·exact .inr q
theorem y9 {a:Addr} {vs:List V} (q:SqF K H a vs):SqF K (bW γ h H) a vs:=by
 rcases q with ⟨o,q⟩ | q
 ·exact .inl ⟨o,bE q (by intro _ z; cases z) (by intro _ _ _ z; cases z)⟩
 ·exact .inr q
theorem RW.bel {w:W} {v:V} (q:RW K (β++γ) H w v):gx β.length w=true->RW K β (bW γ h H) w v:=
 RW.rec (motive_1:=λ w v _=>gx β.length w=true->RW K β (bW γ h H) w v) (motive_2:=λ w v _=>cY β.length w=true->RWs K β (bW γ h H) w v) (λ _=>.non) (λ b _=>.bl b) (λ b _=>.int b) (λ b _=>.str b) (λ h _ i e=>.tup (yZ h) (i e)) (λ h _ i e=>.fz (y9 h) (i e)) (λ h z _ i e=>.obj (bE h (by intro _ z; cases z) (by intro _ _ _ z; cases z)) z (i e)) (λ q e=>.ref (by rw [List.getElem?_append_left (of_decide_eq_true e)] at q; exact q)) (λ _=>.nil) (λ _ _ a b e=>.cons (a (Bool.and_eq_true_iff.mp e).1) (b (Bool.and_eq_true_iff.mp e).2)) q
theorem RWs.bel {w:List W} {v:List V} (q:RWs K (β++γ) H w v) (e:cY β.length w=true):RWs K β (bW γ h H) w v:=by
 induction w generalizing v with
 | nil=>cases q; exact .nil
 | cons x w ih=>cases q with | cons a b=>exact .cons (a.bel (Bool.and_eq_true_iff.mp e).1) (ih b (Bool.and_eq_true_iff.mp e).2)
theorem RFs.snd:∀{fs:List (Str×W)} {gs:List (Str×V)},RFs K β H fs gs->RWs K β H (fs.map (·.2)) (gs.map (·.2))/\fs.map (·.1)=gs.map (·.1)
 | _,_,.nil=>⟨.nil,rfl⟩
 | _,_,.cons q t=>⟨.cons q t.snd.1,by rw [List.map_cons,List.map_cons,t.snd.2]⟩
theorem RFs.of:∀{fs:List (Str×W)} {gs:List (Str×V)},fs.map (·.1)=gs.map (·.1)->RWs K β H (fs.map (·.2)) (gs.map (·.2))->RFs K β H fs gs
 | [],[],_,_=>.nil
 | (f,w)::fs,(g,v)::gs,e,t=>by
  simp only [List.map_cons,List.cons.injEq] at e
  obtain ⟨rfl,e⟩:=e
  cases t with
  | cons q t=>exact .cons q (RFs.of e t)
 | [],_::_,e,_=>by simp at e
 | _::_,[],e,_=>by simp at e
mutual
theorem RW.frW {g:Nat->Option W} (hg:∀{n w v},g n=some w->RW K (β++γ) H (.ref n) v->RW K β (bW γ h H) w v):∀{w:W} {v:V} {w1:W},RW K (β++γ) H w v->D.frW g w=some w1->RW K β (bW γ h H) w1 v
 | _,_,_,.non,e=>by simp only [D.frW] at e; cases e; exact .non
 | _,_,_,.bl b,e=>by simp only [D.frW] at e; cases e; exact .bl b
 | _,_,_,.int i,e=>by simp only [D.frW] at e; cases e; exact .int i
 | _,_,_,.str s,e=>by simp only [D.frW] at e; cases e; exact .str s
 | _,_,_,.tup q t,e=>by
  simp only [D.frW,Option.map_eq_some_iff] at e
  obtain ⟨ys,e1,rfl⟩:=e
  exact .tup (yZ q) (RWs.dZ hg t e1)
 | _,_,_,.fz q t,e=>by
  simp only [D.frW,Option.map_eq_some_iff] at e
  obtain ⟨ys,e1,rfl⟩:=e
  exact .fz (y9 q) (RWs.dZ hg t e1)
 | _,_,_,.obj q z t,e=>by
  simp only [D.frW,Option.map_eq_some_iff] at e
  obtain ⟨ys,e1,rfl⟩:=e
  exact .obj (bE q (by intro _ z; cases z) (by intro _ _ _ z; cases z)) z (RWs.dZ hg t e1)
 | _,_,_,.ref q,e=>hg (by simpa only [D.frW] using e) (.ref q)
theorem RWs.dZ {g:Nat->Option W} (hg:∀{n w v},g n=some w->RW K (β++γ) H (.ref n) v->RW K β (bW γ h H) w v):∀{w:List W} {v:List V} {w1:List W},RWs K (β++γ) H w v->D.dZ g w=some w1->RWs K β (bW γ h H) w1 v
 | _,_,_,.nil,e=>by simp only [D.dZ] at e; cases e; exact .nil
 | _,_,_,.cons q t,e=>by
  simp only [D.dZ] at e
  split at e
  ·cases e
  ·rename_i y e1
   split at e
   ·cases e
   ·rename_i ys e2
    cases e
    exact .cons (RW.frW hg q e1) (RWs.dZ hg t e2)
end
theorem kX (hh:∀a u,H a=some u->((∃vs,u=.lst vs)\/∃c dx fs,u=.ins c dx fs)->∃o,h.get? a=some o) (r:Rel K cl (β++γ) m H):∀(d:Nat) {n:Nat} {w:W} {v:V},frG m β.length d n=some w->RW K (β++γ) H (.ref n) v->RW K β (bW γ h H) w v
 | 0,n,w,v,e,q=>by
  simp only [frG] at e
  split at e
  ·rename_i hn
   cases e
   exact q.bel (by simpa only [gx,decide_eq_true_eq] using hn)
  ·cases e
 | d+1,n,w,v,e,q=>by
  simp only [frG] at e
  split at e
  ·rename_i hn
   cases e
   exact q.bel (by simpa only [gx,decide_eq_true_eq] using hn)
  ·rename_i hn
   cases q with
   | ref hb=>
    rename_i a
    have ha:a∈γ:=by
     rw [List.getElem?_append_right (by omega)] at hb
     exact List.mem_of_getElem? hb
    split at e
    ·rename_i xs e1
     simp only [Option.map_eq_some_iff] at e
     obtain ⟨ys,e2,rfl⟩:=e
     obtain ⟨vs,z,t⟩:=r.obj e1 hb
     obtain ⟨o,ho⟩:=hh a _ z (.inl ⟨_,rfl⟩)
     exact .fz (.inl ⟨o,uL ha z ho⟩) (t.dZ (λ e q=>kX hh r d e q) e2)
    ·rename_i c fs e1
     simp only [Option.map_eq_some_iff] at e
     obtain ⟨ys,e2,rfl⟩:=e
     obtain ⟨dx,fs',z,t⟩:=r.obj e1 hb
     obtain ⟨o,ho⟩:=hh a _ z (.inr ⟨_,_,_,rfl⟩)
     exact .obj (uM ha z ho) t.snd.2 (t.snd.1.dZ (λ e q=>kX hh r d e q) e2)
    ·cases e
end
theorem za {X:L2.Cx} {cl:Cl} {C:D.Cx} {ex:Expr} {d:E} (hp:PE X ex (SE X cl (evE C d))):PE X ex (SE X cl (evE C (.frz d))):=by
 rintro pins s σ H Q I ⟨β,ρ,m,w,m',r,l,e,k⟩
 simp only [evE] at e
 cases h0:evE C d ρ m with
 | no=>rw [h0] at e; cases e
 | ok w0 m0=>
  rw [h0] at e
  simp only [rC] at e
  split at e
  ·rename_i hc
   split at e
   ·rename_i w1 e1
    cases e
    refine thn (hp pins s σ H (λ v H1=>∃β1,Ext β H β1 H1/\Rel X.K cl β1 m0 H1/\RW X.K β1 H1 w0 v) I ⟨β,ρ,m,w0,m0,r,l,h0,fun β1 H1 v1 x1 r1 q1=>⟨β1,x1,r1,q1⟩⟩) λ u s1 ⟨v,H1,I1,rv,β1,x1,r1,q1⟩=>?_
    obtain ⟨γ,rfl,hγ⟩:=x1.pre
    have hl:=r.len
    have hh:∀a u,H1 a=some u->((∃vs,u=.lst vs)\/∃c dx fs,u=.ins c dx fs)->∃o,s1.heap.get? a=some o:=λ a u q hu=>by
     rcases hu with ⟨vs,rfl⟩ | ⟨c,dx,fs,rfl⟩
     ·obtain ⟨_,_,_,_,e⟩:=I1.hok a _ q
      exact ⟨_,e⟩
     ·obtain ⟨_,_,_,e,_⟩:=I1.hok a _ q
      exact ⟨_,e⟩
    refine ⟨v,bW γ s1.heap H1,yY I1 γ,rv,k β _ v ⟨⟨[],by simp,by simp⟩,λ {a o} q hn _=>?_⟩ ⟨?_,?_,λ {n o a} h1 h2=>?_⟩ ?_⟩
    ·rw [cF λ z=>by rw [hγ a z] at q; cases q]
     exact x1.keep q hn (by simp)
    ·rw [List.length_take,hl]; omega
    ·exact (List.nodup_append.mp r1.nd).1
    ·have hn:n < m.length:=by
      have:=(List.getElem?_eq_some_iff.mp h1).1
      rw [List.length_take] at this; omega
     rw [List.getElem?_take_of_lt hn] at h1
     have hb:(β++γ)[n]?=some a:=by rw [List.getElem?_append_left (by omega)]; exact h2
     have uN:gy β.length o=true:=by
      rw [hl]
      exact List.all_eq_true.mp hc.2 o (List.mem_of_getElem? (by rw [List.getElem?_take_of_lt hn]; exact h1))
     have ha:a∉γ:=λ z=>by
      have:=(List.nodup_append.mp r1.nd).2.2 a (List.mem_of_getElem? h2) a z
      exact this rfl
     have q:=r1.obj h1 hb
     cases o with
     | lst ws=>obtain ⟨vs,e,t⟩:=q; exact ⟨vs,(cF ha).trans e,t.bel (by simpa only [gy] using uN)⟩
     | ins c fs=>
      obtain ⟨dx,fs',e,t⟩:=q
      exact ⟨dx,fs',(cF ha).trans e,.of t.snd.2 (t.snd.1.bel (by simpa only [gy] using uN))⟩
     | set ks=>obtain ⟨S,e,t⟩:=q; exact ⟨S,(cF ha).trans e,t⟩
    ·rw [<-hl] at e1
     exact q1.frW (λ e q=>kX hh r1 8 e q) e1
   ·cases e
  ·cases e
theorem RW.Dp {K:PySem.W.Frag} {β:List Addr} {H:Hp} {w:W} {v:V} (q:RW K β H w v):gx β.length w=true:=
 RW.rec (motive_1:=λ w v _=>gx β.length w=true) (motive_2:=λ w v _=>cY β.length w=true) rfl (λ _=>rfl) (λ _=>rfl) (λ _=>rfl) (λ _ _ i=>i) (λ _ _ i=>i) (λ _ _ _ i=>i) (λ q=>decide_eq_true (List.getElem?_eq_some_iff.mp q).1) rfl (λ _ _ a b=>Bool.and_eq_true_iff.mpr ⟨a,b⟩) q
theorem Rel.frozen {X:L2.Cx} {cl:Cl} {pins:List (Addr×Obj)} {σ:L2.St} {s1:Shared} {β γ:List Addr} {H H1:Hp} {m m0:Mem} (r:Rel X.K cl β m H) (x1:Ext β H (β++γ) H1) (hγ:∀a∈γ,H a=none) (r1:Rel X.K cl (β++γ) m0 H1) (hc:m.length<=m0.length/\rB m.length (m0.take m.length)=true) (I1:Inv X pins σ H1 s1) :
  Ext β H β (bW γ s1.heap H1)/\Rel X.K cl β (m0.take m.length) (bW γ s1.heap H1)/\(∀a u,H1 a=some u->((∃vs,u=.lst vs)\/∃c dx fs,u=.ins c dx fs)->∃o,s1.heap.get? a=some o):=by
 have hl:=r.len
 refine ⟨⟨⟨[],by simp,by simp⟩,λ {a o} q hn _=>?_⟩,⟨?_,?_,λ {n o a} h1 h2=>?_⟩,λ a u q hu=>?_⟩
 ·rw [cF λ z=>by rw [hγ a z] at q; cases q]
  exact x1.keep q hn (by simp)
 ·rw [List.length_take,hl]; omega
 ·exact (List.nodup_append.mp r1.nd).1
 ·have hn:n < m.length:=by
   have:=(List.getElem?_eq_some_iff.mp h1).1
   rw [List.length_take] at this; omega
  rw [List.getElem?_take_of_lt hn] at h1
  have hb:(β++γ)[n]?=some a:=by rw [List.getElem?_append_left (by omega)]; exact h2
  have uN:gy β.length o=true:=by
   rw [hl]
   exact List.all_eq_true.mp hc.2 o (List.mem_of_getElem? (by rw [List.getElem?_take_of_lt hn]; exact h1))
  have ha:a∉γ:=λ z=>by
   have:=(List.nodup_append.mp r1.nd).2.2 a (List.mem_of_getElem? h2) a z
   exact this rfl
  have q:=r1.obj h1 hb
  cases o with
  | lst ws=>obtain ⟨vs,e,t⟩:=q; exact ⟨vs,(cF ha).trans e,t.bel (by simpa only [gy] using uN)⟩
  | ins c fs=>
   obtain ⟨dx,fs',e,t⟩:=q
   exact ⟨dx,fs',(cF ha).trans e,.of t.snd.2 (t.snd.1.bel (by simpa only [gy] using uN))⟩
  | set ks=>obtain ⟨S,e,t⟩:=q; exact ⟨S,(cF ha).trans e,t⟩
 ·rcases hu with ⟨vs,rfl⟩ | ⟨c,dx,fs,rfl⟩
  ·obtain ⟨_,_,_,_,e⟩:=I1.hok a _ q
   exact ⟨_,e⟩
  ·obtain ⟨_,_,_,e,_⟩:=I1.hok a _ q
   exact ⟨_,e⟩
theorem Bo {X:L2.Cx} {cl:Cl} {C:D.Cx} {st:Stmt} {i:Nat} {d:E} (hp:PS X st (SS X cl (evS C (.asg (.pt (.var i)) d)))):PS X st (SS X cl (evS C (.asg (.pt (.var i)) (.frz d)))):=by
 rintro pins s σ H D I ⟨β,ρ,m,f,m',r,l,e,k⟩
 simp only [evS,evE,evA,au] at e
 obtain ⟨w1,m1,e1,e⟩:=R.aa e
 simp only [R.bind] at e
 cases e
 cases h0:evE C d ρ m with
 | no=>rw [h0] at e1; cases e1
 | ok w0 m0=>
  rw [h0] at e1
  simp only [rC] at e1
  split at e1
  ·rename_i hc
   split at e1
   ·rename_i w1' e2
    cases e1
    refine thn (hp pins s σ H {nx:=fun σ1 H1=>∃β1,Ext β H β1 H1/\Rel X.K cl β1 m0 H1/\RL X.K β1 H1 (ρ.set i (some w0)) σ1,rt:=λ _ _=>False} I ⟨β,ρ,m,.nx (ρ.set i (some w0)),m0,r,l,by simp only [evS,h0,R.bind,evA,au],fun β1 H1 x1 r1 σ1 l1=>⟨β1,x1,r1,l1⟩⟩) λ fl s1 h=>?_
    cases fl with
    | next=>
     obtain ⟨σ1,H1,I1,β1,x1,r1,l1⟩:=h
     obtain ⟨γ,rfl,hγ⟩:=x1.pre
     obtain ⟨z1,z2,z3⟩:=r.frozen x1 hγ r1 hc I1
     refine ⟨σ1,bW γ s1.heap H1,yY I1 γ,k β _ z1 z2 σ1 ⟨by rw [List.length_set,<-l1.len,List.length_set],λ {j w} hj=>?_⟩⟩
     by_cases hij:i=j
     ·subst hij
      have hlt:i < ρ.length:=by
       have:=(List.getElem?_eq_some_iff.mp hj).1
       simpa using this
      rw [List.getElem?_set_self hlt] at hj
      cases hj
      obtain ⟨v,hv,qv⟩:=l1.at_ (i:=i) (w:=w0) (by rw [List.getElem?_set_self hlt])
      rw [<-r.len] at e2
      exact ⟨v,hv,qv.frW (λ e q=>kX z3 r1 8 e q) e2⟩
     ·rw [List.getElem?_set_ne hij] at hj
      obtain ⟨v,hv,qv⟩:=l1.at_ (i:=j) (w:=w) (by rw [List.getElem?_set_ne hij]; exact hj)
      obtain ⟨v',_,q'⟩:=l.at_ hj
      exact ⟨v,hv,qv.bel q'.Dp⟩
    | brk=>obtain ⟨_,_,_,z⟩:=h; exact False.elim z
    | cont=>obtain ⟨_,_,_,z⟩:=h; exact False.elim z
    | ret u=>obtain ⟨_,_,_,_,_,z⟩:=h; exact False.elim z
   ·cases e1
  ·cases e1
end D
end
section
namespace D
open PySem PySem.Spec PyProof.Rows L2
theorem iA {prog:Program} {w:World} {A:Around} {E:Value->Shared->Prop} {s:Shared} {env:Env} {o:Expr} {name:Str} {apos pos:Pos} {args:List Expr} {Q:Value->Shared->Prop}
  (hbase:attributeBase o name env (eval o env)=eval o env)
  (hfew:((backTo pos (starEach args env)).all (λ x=>!x.1)&&(backToKw pos (keywordEach [] env)).all (λ x=>x.1.isSome)
   && decide (args.length+([]:List Keyword).length+(if ([]:List Keyword).isEmpty then 0 else 1) < 30))=true)
  (hline:(apos.endLine==pos.line)=true)
  (h:wpAny (model prog w) A (eval o env) (λ ov s₁=>∀pl,wpAny (model prog w) A (getMethod ov name pl) (λ fx s₂=>wpAny (model prog w) A (callWith pos fx.1 fx.2 (backTo pos (starEach args env)) []) Q E s₂) E s₁) E s) :
  wpAny (model prog w) A (eval (.Call (.Attribute o name apos) args [] pos) env) Q E s:=by
 rw [arm_eval_Call,hbase]
 refine wpAny_bind (wpAny_mono h (λ ov s₁ h₁=>?_) λ _ _ e=>e)
 refine wpAny_bind (wpAny_standAt ?_)
 have Dq:methodCallForm (args.length+([]:List Keyword).length) (backTo pos (starEach args env)) (backToKw pos (keywordEach [] env))=true:=hfew
 have hpos:methodCallPos true o env apos pos=pure pos:=by unfold methodCallPos; simp [hline]
 unfold methodCall
 rw [Dq]
 refine wpAny_bind (wpAny_holding (wpAny_mono (h₁ _) (λ fx s2 h2=>?_) λ _ _ e=>e))
 exact wpAny_bind (wpAny_of_eq hpos h2)
section
variable {X:L2.Cx} {cl:Cl} {C:D.Cx} {pos:Pos}
theorem uO {pins:List (Addr×Obj)} {σ:L2.St} {H:Hp} {s:Shared} {a Cc dx:Addr} {fs:List (Str×V)} (I:Inv X pins σ H s) (e:Rd H a (.ins Cc dx fs)):∃mA,lU s.heap a dx Cc mA/\∀f,iI (fs.lookup f) (mA f):=by
 obtain ⟨d,z,ne,ob,mA,n,r,q⟩:=(show bA X.prog X.w H s.heap a (.ins Cc dx fs) from e.ok I.hok)
 exact ⟨mA,⟨ob,n,ne⟩,r⟩
theorem RFs.lookup {K:PySem.W.Frag} {β:List Addr} {H:Hp} {f:Str}:∀{fs:List (Str×W)} {gs:List (Str×V)},RFs K β H fs gs->(∀{w},fs.lookup f=some w->∃v,gs.lookup f=some v/\RW K β H w v)/\(fs.lookup f=none->gs.lookup f=none)
 | _,_,.nil=>⟨λ h=>by simp at h,λ _=>rfl⟩
 | _,_,.cons (f:=g) q t=>by
  obtain ⟨h1,h2⟩:=t.lookup (f:=f)
  cases hx:f==g with
  | true=>
   refine ⟨λ h=>?_,λ h=>?_⟩
   ·simp only [List.lookup_cons,hx] at h ⊢
    cases h
    exact ⟨_,rfl,q⟩
   ·simp only [List.lookup_cons,hx] at h; cases h
  | false=>
   refine ⟨λ h=>?_,λ h=>?_⟩
   ·simp only [List.lookup_cons,hx] at h ⊢
    exact h1 h
   ·simp only [List.lookup_cons,hx] at h ⊢
    exact h2 h
theorem uP {K:PySem.W.Frag} {β:List Addr} {H:Hp}:∀{gs:List (Str×V)} {xs:List W},RWs K β H xs (gs.map (·.2))->RFs K β H ((gs.map (·.1)).zip xs) gs
 | [],_,t=>by cases t; exact .nil
 | (g,v)::gs,xs,t=>by
  cases t with
  | cons q t=>exact .cons q (uP t)
theorem Rel.ins {K:PySem.W.Frag} {β:List Addr} {H:Hp} {m:Mem} {w:W} {v:V} {c:Str} {fs:List (Str×W)} (r:Rel K cl β m H) (q:RW K β H w v) (e:j7 m w=some (c,fs)):∃a dx gs,v=.ref a/\Rd H a (.ins (aW K c) dx gs)/\RFs K β H fs gs:=by
 cases q with
 | ref h=>
  simp only [j7] at e
  split at e
  ·rename_i c' fs' e1
   cases e
   obtain ⟨dx,gs,z,t⟩:=r.obj e1 h
   exact ⟨_,dx,gs,rfl,.inl z,t⟩
  ·cases e
 | obj h e0 t=>
  simp only [j7] at e
  cases e
  subst e0
  exact ⟨_,_,_,rfl,.inr ⟨_,h⟩,uP t⟩
 | _=>simp only [j7] at e; cases e
theorem Dr {a:Expr} {d:E} {f:Str} (hc:∀{c f},C.cs.flds.contains (c,f)=true->Cls X.K (aW X.K c)/\ef X.K (aW X.K c) f) (ha:PE X a (SE X cl (evE C d))) (hb:attributeBase a f X.env (eval a X.env)=eval a X.env):PE X (.Attribute a f pos) (SE X cl (evE C (.fld d f))):=by
 rintro pins s σ H Q I ⟨β,ρ,m,w,m',r,l,e,k⟩
 simp only [evE] at e
 obtain ⟨x,m1,e1,e⟩:=R.aa e
 unfold gZ at e
 split at e
 ·rename_i c fs e2
  split at e
  ·rename_i hcf
   split at e
   ·rename_i w' e3
    cases e
    refine wG hb (thn (ha pins s σ H (λ v H1=>∃β1,Ext β H β1 H1/\Rel X.K cl β1 m' H1/\RW X.K β1 H1 x v) I ⟨β,ρ,m,x,m',r,l,e1,fun β1 H1 v1 x1 r1 q1=>⟨β1,x1,r1,q1⟩⟩) λ u s1 ⟨v,H1,I1,rv,β1,x1,r1,q1⟩=>?_)
    obtain ⟨a',dx,gs,rfl,hr,t⟩:=r1.ins q1 e2
    obtain rfl:u=Value.ref a':=rv
    obtain ⟨mA,O,ro⟩:=uO I1 hr
    obtain ⟨z,ez,qz⟩:=t.lookup.1 e3
    obtain ⟨hcl,hna⟩:=hc hcf
    obtain ⟨u,hu,ru⟩:=iI.some_of (v:=z) (o:=mA f) (by rw [<-ez]; exact ro f)
    exact get_map I1.kIn O (hcl.get f) hcl.hd hna hu (qQ ru) ⟨z,H1,I1.tok _,ru,k _ _ _ x1 r1 qz⟩
   ·cases e
  ·cases e
 ·cases e
theorem qa {K:PySem.W.Frag} {β:List Addr} {H:Hp} {f:Str} {w:W} {v:V} (q:RW K β H w v):∀{fs:List (Str×W)} {gs:List (Str×V)},RFs K β H fs gs->RFs K β H (D.cM f w fs) (L2.cM f v gs)
 | _,_,.nil=>.cons q .nil
 | _,_,.cons (f:=g) (ws:=ws) (vs:=vs) q' t=>by
  simp only [D.cM,L2.cM]
  split
  ·exact .cons q t
  ·exact .cons q' (qa q t)
theorem RFs.length {K:PySem.W.Frag} {β:List Addr} {H:Hp}:∀{fs:List (Str×W)} {gs:List (Str×V)},RFs K β H fs gs->fs.length=gs.length
 | _,_,.nil=>rfl
 | _,_,.cons _ t=>by rw [List.length_cons,List.length_cons,t.length]
theorem RFs.mono {K:PySem.W.Frag} {β β':List Addr} {H H':Hp} {m:Mem} (r:Rel K cl β m H) (x:Ext β H β' H') {fs:List (Str×W)} {gs:List (Str×V)} (t:RFs K β H fs gs):RFs K β' H' fs gs:=t.ck r noD x
theorem Rel.EV {K:PySem.W.Frag} {β:List Addr} {H:Hp} {m:Mem} {a:Addr} (r:Rel K cl β m H) {n:Nat} {o:O} {c:Str} {dx:Addr} {fs:List (Str×W)} {gs:List (Str×V)} (hm:m[n]?=some o) (hb:β[n]?=some a) (q:RFs K β H fs gs) :
  Ext β H β (upd H a (.ins (aW K c) dx gs))/\Rel K cl β (m.set n (.ins c fs)) (upd H a (.ins (aW K c) dx gs)):=by
 have ha:a∈β:=List.mem_of_getElem? hb
 have x:Ext β H β (upd H a (.ins (aW K c) dx gs)):=⟨⟨[],by simp,by simp⟩,λ {b u} h hn _=>by rw [aj (show b≠a from λ z=>hn (by rw [z]; exact ha))]; exact h⟩
 refine ⟨x,by simp [r.len],r.nd,λ {k o' b} h1 h2=>?_⟩
 by_cases hk:n=k
 ·subst hk
  rw [hb] at h2; cases h2
  rw [List.getElem?_set_self (List.getElem?_eq_some_iff.mp hm).1] at h1
  cases h1
  exact ⟨dx,gs,aB,q.mono r x⟩
 ·rw [List.getElem?_set_ne hk] at h1
  have q':=r.obj h1 h2
  refine q'.mono r x (aj ?_)
  rintro rfl
  obtain ⟨h3,e3⟩:=List.getElem?_eq_some_iff.mp h2
  obtain ⟨h4,e4⟩:=List.getElem?_eq_some_iff.mp hb
  exact hk ((List.getElem_inj r.nd).mp (e4.trans e3.symm))
theorem Bp {o a:Expr} {do_ d:E} {f:Str} {pos':Pos} (hc:∀{c f},C.cs.flds.contains (c,f)=true->Cls X.K (aW X.K c)/\ef X.K (aW X.K c) f) (ho:PE X o (SE X cl (evE C do_))) (ha:PE X a (SE X cl (evE C d)))
  (hs:swapsWith a (some (.Attribute o f pos')) pos.line X.env=pure false):PS X (.Assign [.Attribute o f pos'] a pos) (SS X cl (evS C (.fas do_ f d))):=by
 refine PS.imp (Ai ho ha hs) ?_
 rintro D σ H ⟨β,ρ,m,ff,m',r,l,e,k⟩
 simp only [evS] at e
 obtain ⟨w,m1,e1,e⟩:=R.aa e
 obtain ⟨x,m2,e2,e⟩:=R.aa e
 obtain ⟨_,m3,e3,e⟩:=R.aa e
 cases e
 refine ⟨β,ρ,m,w,m1,r,l,e1,fun β1 H1 v1 x1 r1 q1=>?_⟩
 refine ⟨β1,ρ,m1,x,m2,r1,l.mono r x1,e2,fun β2 H2 v2 x2 r2 q2=>?_⟩
 unfold mz at e3
 split at e3
 ·rename_i n
  split at e3
  ·rename_i c fs e4
   split at e3
   ·rename_i hcf
    cases e3
    cases q2 with
    | ref hb=>
     obtain ⟨dx,gs,z,t⟩:=r2.obj e4 hb
     obtain ⟨hcl,hna⟩:=hc hcf.1
     obtain ⟨x3,r3⟩:=r2.EV (c:=c) (dx:=dx) e4 hb (qa (f:=f) (q1.mono r1 x2) t)
     exact ⟨_,_,dx,gs,rfl,z,hcl,hna,by rw [<-t.length]; exact hcf.2,k _ _ ((x1.trans r1 x2).trans r2 x3) r3 _ (((l.mono r x1).mono r1 x2).mono r2 x3)⟩
   ·cases e3
  ·cases e3
 ·cases e3
noncomputable def zb (X:L2.Cx) (cl:Cl) (C:D.Cx) (c name:Str) (i:Nat):Prop:=∃(k:Nat) (fa:Addr) (fd:FuncData) (ps:List Str),bZ k X.A/\Cls X.K (aW X.K c)/\Meth X.K (aW X.K c) name fa/\Binds X.K fd ps []/\
 dH X.prog X.w X.K X.mg X.base CX0 k fa fd ps (spD X.K cl ps.length (C.call i))/\∀ws m w m',C.call i ws m=.ok w m'->ws.length=ps.length
theorem Ds {o:Expr} {d:E} {name:Str} {apos:Pos} {es:List Expr} {ds:Es} (hM:∀{c name i},C.cs.mths.lookup (c,name)=some i->zb X cl C c name i) (ho:PE X o (SE X cl (evE C d))) (ha:PA X es (SA X cl (aI C ds)))
  (hbase:attributeBase o name X.env (eval o X.env)=eval o X.env)
  (hfew:((backTo pos (starEach es X.env)).all (λ x=>!x.1)&&(backToKw pos (keywordEach [] X.env)).all (λ x=>x.1.isSome)
   && decide (es.length+([]:List Keyword).length+(if ([]:List Keyword).isEmpty then 0 else 1) < 30))=true)
  (hline:(apos.endLine==pos.line)=true) (hs:(es=[]/\ds=.nil)\/∃a r,es=a::r/\starEach (a::r) X.env=(false,eval a X.env)::starEach r X.env/\(backTo pos (starEach r X.env)).any (·.1)=false) :
  PE X (.Call (.Attribute o name apos) es [] pos) (SE X cl (evE C (.mth d name ds))):=by
 rintro pins s σ H Q I ⟨β,ρ,m,w,m',r,l,e,k⟩
 simp only [evE] at e
 obtain ⟨x,m1,e1,e⟩:=R.aa e
 split at e
 ·rename_i i e2
  obtain ⟨ws,m2,e3,e⟩:=R.aa e
  refine iA hbase hfew hline (thn (ho pins s σ H (λ v H1=>∃β1,Ext β H β1 H1/\Rel X.K cl β1 m1 H1/\RW X.K β1 H1 x v) I ⟨β,ρ,m,x,m1,r,l,e1,fun β1 H1 v1 x1 r1 q1=>⟨β1,x1,r1,q1⟩⟩) λ u s1 ⟨v,H1,I1,rv,β1,x1,r1,q1⟩ pl=>?_)
  unfold f6 at e2
  split at e2
  ·rename_i c fs e4
   split at e2
   ·rename_i hno
    obtain ⟨a',dx,gs,rfl,hr,t⟩:=r1.ins q1 e4
    obtain rfl:u=Value.ref a':=rv
    obtain ⟨mA,O,ro⟩:=uO I1 hr
    have hn:mA name=none:=iI.none_of (by rw [<-t.lookup.2 (by simpa using hno)]; exact ro name)
    obtain ⟨kk,fa,fd,ps,hroom,hcl,hmt,hbd,hF,hln⟩:=hM e2
    refine sW I1.kIn O (hcl.get name) hmt.at_ hmt.fn hn ?_
    have hsp:∀vs β2 H2,Ext β1 H1 β2 H2->Rel X.K cl β2 m2 H2->RWs X.K β2 H2 ws vs->spD X.K cl ps.length (C.call i) ((.ref a'::vs)++[]) H2 Q E0:=λ vs β2 H2 x2 r2 q2=>by
     rw [List.append_nil]
     have hq:RWs X.K β2 H2 (x::ws) (.ref a'::vs):=.cons (q1.mono r1 x2) q2
     exact ⟨by rw [<-hq.length]; exact hln _ _ _ _ e,β2,m2,x::ws,w,m',r2,hq,e,fun β3 H3 v3 x3 r3 q3=>k _ _ _ ((x1.trans r1 x2).trans r2 x3) r3 q3⟩
    rcases hs with ⟨rfl,rfl⟩ | ⟨a,rr,rfl,hst,hpl⟩
    ·simp only [aI] at e3
     cases e3
     exact PySem.W.callWith_K0 (first:=[.ref a']) I1.kIn hmt.kp (kB (us:=[.ref a']) (vs:=[.ref a']) hF hroom hbd .nil lY I1 (.cons rfl .nil) (hsp [] β1 H1 Ext.refl r1 .nil))
    ·refine PySem.W.callWith_K (first:=[.ref a']) (h₀:=X.base) I.ok.mod.kin hmt.kp (thn (ha pos pins s1 σ H1 (λ vs H2=>∃β2,Ext β1 H1 β2 H2/\Rel X.K cl β2 m2 H2/\RWs X.K β2 H2 ws vs) I1 ⟨β1,ρ,m1,ws,m2,r1,l.mono r x1,e3,fun β2 H2 v2 x2 r2 q2=>⟨β2,x2,r2,q2⟩⟩) λ us s2 ⟨vs,H2,I2,rr2,β2,x2,r2,q2⟩=>⟨I2.kIn,?_⟩) hst hpl
     exact kB (us:=.ref a'::us) (vs:=.ref a'::vs) hF hroom hbd .nil lY I2 (.cons rfl rr2) (hsp vs β2 H2 x2 r2 q2)
   ·cases e2
  ·cases e2
 ·cases e
noncomputable def zc (X:L2.Cx) (cl:Cl) (C:D.Cx) (c:Str) (i:Nat):Prop:=∃(k:Nat) (fa:Addr) (fd:FuncData) (ps:List Str),bZ (k+1) X.A/\Mk X.K (aW X.K c) fa/\X.mg c=some (.ref (aW X.K c))/\Binds X.K fd ps []/\
 dH X.prog X.w X.K X.mg X.base CX0 k fa fd ps (spD X.K cl ps.length (C.call i))/\∀ws m w m',C.call i ws m=.ok w m'->ws.length=ps.length
theorem Bq {c:Str} {p:Pos} {a:Expr} {es:List Expr} {ds:Es} {i:Nat} (hi:C.cs.ini.lookup c=some i) (hI:zc X cl C c i) (hg:Gl X c) (ha:PA X (a::es) (SA X cl (aI C ds)))
  (hdb:(c==("__debug__":Str))=false) (he:starEach (a::es) X.env=(false,eval a X.env)::starEach es X.env) (hpl:(backTo pos (starEach es X.env)).any (·.1)=false) :
  PE X (.Call (.Name c p) (a::es) [] pos) (SE X cl (evE C (.make c ds))):=by
 obtain ⟨k,fa,fd,ps,hroom,hmk,hmg,hbd,hF,hln⟩:=hI
 refine PE.imp (wJ hmk hF hroom hg hmg hbd .nil lY ha hdb he hpl) ?_
 rintro σ H Q ⟨β,ρ,m,w,m',r,l,e,k⟩
 simp only [evE] at e
 obtain ⟨ws,m1,e1,e⟩:=R.aa e
 refine ⟨β,ρ,m,ws,m1,r,l,e1,fun β1 H1 v1 x1 r1 q1 x dx hx hdx hne=>?_⟩
 simp only [gz,hi] at e
 obtain ⟨w2,m2,e2,e⟩:=R.aa e
 split at e
 ·cases e
  obtain ⟨x2,r2⟩:=r1.Dc hdx (.own x)
  have hx2:upd H1 dx (.own x) x=none:=by rw [aj hne.symm]; exact hx
  obtain ⟨x3,r3⟩:=r2.AL (ho:=.ins (aW X.K c) dx []) (o:=.ins c []) hx2 λ _=>⟨dx,[],aB,.nil⟩
  have hq:RWs X.K (β1++[x]) _ (.ref m1.length::ws) (.ref x::v1):=.cons (.ref (r1.last x)) ((q1.mono r1 x2).mono r2 x3)
  refine ⟨?_,β1++[x],m1++[.ins c []],.ref m1.length::ws,.non,m',r3,by rw [List.append_nil]; exact hq,e2,fun β4 H4 v4 x4 r4 q4=>?_⟩
  ·rw [List.append_nil,<-hq.length]; exact hln _ _ _ _ e2
  ·cases q4
   refine ⟨rfl,k _ _ _ (((x1.trans r1 x2).trans r2 x3).trans r3 x4) r4 (.ref (x4.get (r1.last x)))⟩
 ·cases e
theorem xO {k f:Nat} {fa:Addr} {fd:FuncData} {ps:List Str} {x:Str} {p:Pos} (F:dH X.prog X.w X.K X.mg X.base CX0 k fa fd ps (spD X.K cl ps.length (C.call f))) (hr:bZ k X.A) (hg:Gl X x) (hm:X.mg x=some (.ref fa)) (hk:PySem.W.keepIn X.K (.ref fa)=true) (hb:Binds X.K fd ps [])
  (hl:ps.length=0) (hdb:(x==("__debug__":Str))=false):PE X (.Call (.Name x p) [] [] pos) (SE X cl (evE C (.call f .nil))):=by
 refine PE.imp (sY F hr hg hm hk hb .nil lY hdb) ?_
 rintro σ H Q ⟨β,ρ,m,w,m',r,l,e,k⟩
 simp only [evE,aI,R.bind] at e
 exact ⟨by rw [hl]; rfl,β,m,[],w,m',r,.nil,e,fun β2 H2 v2 x2 r2 q2=>k _ _ _ x2 r2 q2⟩
end
end D
end
section
namespace D
open PySem PySem.Spec PyProof.Rows L2
section
variable {X:L2.Cx} {cl:Cl} {C:D.Cx} {pos:Pos}
theorem Br {a:Expr} {d:E} {p p2 pos2:Pos} (hh:X.A.handled=none) (hu:X.A.units+64 < cLine) (hg:Gl X "len") (hm:X.mg "len"=none) (hg2:Gl X "set") (hm2:X.mg "set"=none) (ha:PE X a (SE X cl (evE C d))) (he:starEach [a] X.env=[(false,eval a X.env)]) :
  PE X (.Call (.Name "len" p) [.Call (.Name "set" p2) [a] [] pos2] [] pos) (SE X cl (evE C (.fus .iT d))):=by
 refine PE.imp (iP rL hg hm (by decide +kernel) (bU (jZ (rK hh hu) hg2 hm2 (by decide +kernel) (bU ha dS he) (by decide +kernel) (by decide +kernel) he rfl) dS) (by decide +kernel) (by decide +kernel) rfl rfl) ?_
 rintro σ H Q ⟨β,ρ,m,w,m',r,l,e,k⟩
 simp only [evE] at e
 obtain ⟨x,m1,e1,e⟩:=R.aa e
 unfold gY at e
 split at e
 ·cases e
 ·rename_i ys e2
  split at e
  ·cases e
  ·rename_i tss e3
   simp only [ow] at e
   split at e
   ·rename_i hz
    cases e
    refine ⟨β,ρ,m,x,_,r,l,e1,fun β1 H1 v1 x1 r1 q1=>?_⟩
    obtain ⟨a,vs,rfl,hs,t⟩:=r1.getL q1 e2
    refine ⟨a,vs,tss,rfl,hs,t.tups e3,hz.1,λ t ht=>List.all_eq_true.mp hz.2.1 t ht,hz.2.2,λ p hp=>?_⟩
    obtain ⟨x2,r2⟩:=r1.Dc hp (i7 p tss.length)
    exact ⟨p,tss.length,rfl,aB,hz.1,k _ _ _ (x1.trans r1 x2) r2 (.int _)⟩
   ·cases e
theorem Bs {a:Expr} {d:E} {p kpos cpos:Pos} {j:Nat} (hh:X.A.handled=none) (hu:X.A.units+64 < cLine) (hg:Gl X "min") (hm:X.mg "min"=none) (ha:PE X a (SE X cl (evE C d))) (he:starEach [a] X.env=[(false,eval a X.env)]) :
  PE X (.Call (.Name "min" p) [a] [⟨some "default",.Constant .none j cpos,kpos⟩] pos) (SE X cl (evE C (.fus .mind d))):=by
 refine PE.imp (xr hh hu hg hm ha he) ?_
 rintro σ H Q ⟨β,ρ,m,w,m',r,l,e,k⟩
 simp only [evE] at e
 obtain ⟨x,m1,e1,e⟩:=R.aa e
 unfold gY at e
 split at e
 ·cases e
 ·rename_i ys e2
  split at e
  ·cases e
  ·rename_i tss e3
   simp only [oz] at e
   split at e
   ·rename_i hz
    cases e
    refine ⟨β,ρ,m,x,_,r,l,e1,fun β1 H1 v1 x1 r1 q1=>?_⟩
    obtain ⟨a,vs,rfl,hs,t⟩:=r1.getL q1 e2
    refine ⟨a,vs,tss,rfl,hs,t.tups e3,λ n0 h0 ns hn=>?_,?_⟩
    ·have:=List.all_eq_true.mp hz ns hn
     rw [show tss.headD []=n0 by cases tss with | nil=>cases h0 | cons a r=>cases h0; rfl] at this
     simpa using this
    ·cases t with
     | nil=>exact k _ _ _ x1 r1 .non
     | cons q t=>exact k _ _ _ x1 r1 q
   ·cases e
end
end D
end
section
namespace D
open PySem PySem.Spec PyProof.Rows L2
set_option genInjectivity false in
structure Ci where
 N:List Str
 names:List (Str×NameKind)
 fns:List (Str×(Nat×Nat))
 gl:List (Str×W)
 cs:Cs
 fz:List Pos
noncomputable def kY (x:Str):List Str->Option Nat
 | []=>none
 | y::r=>if y=x then some 0 else (kY x r).map (·+1)
theorem mS {x:Str}:∀{N:List Str} {i:Nat},kY x N=some i->N[i]?=some x
 | [],_,h=>by cases h
 | y::r,i,h=>by
  unfold kY at h
  split at h
  ·rename_i e; cases h; simp [e]
  ·simp only [Option.map_eq_some_iff] at h
   obtain ⟨j,h1,rfl⟩:=h
   simpa using mS h1
noncomputable def oQ:List (Str×B):=[("len",.len),("abs",.abs),("max",.max),("min",.min),("divmod",.divmod),("all",.all),("any",.any),("list",.list),("tuple",.tuple),("int",.int),("sorted",.sorted),("repr",.repr)]
noncomputable def uQ:List (Str×String):=[("int","int"),("bool","bool"),("str","str"),("list","list"),("tuple","tuple"),("dict","dict")]
noncomputable def jf:List Str:=["len","abs","max","min","divmod","all","any","list","tuple","int","bool","str","dict","isinstance","range","enumerate","zip","sorted","set","repr"]
noncomputable def uR:List (Str×(String×String)):=[("append",("append","list.append")),("clear",("clear","list.clear")),("reverse",("reverse","list.reverse")),
 ("pop",("pop","list.pop")),
 ("join",("join","str.join")),("index",("index","str.index")),("add",("add","set.add"))]
noncomputable def noStar:Expr->Bool
 | .Starred ..=>false
 | _=>true
noncomputable def isSlice:Expr->Bool
 | .Slice ..=>true
 | _=>false
noncomputable def isSet:Expr->Bool
 | .Set ..=>true
 | _=>false
noncomputable def kZ:Expr->Bool
 | .ListComp ..=>true
 | .SetComp ..=>true
 | .DictComp ..=>true
 | _=>false
noncomputable def fc:Expr->Bool
 | .Call (.Name _ _) [] [] _=>true
 | _=>false
noncomputable def xP:Expr->Bool
 | .Call ..=>true
 | .ListComp ..=>true
 | .List ..=>true
 | .BinOp ..=>true
 | .Subscript ..=>true
 | _=>false
noncomputable def wz (c:Ci) (e:Expr) (d:E):E:=if xP e&&c.fz.contains e.pos then .frz d else d
noncomputable def qb:Expr->Bool
 | .Name ..=>true
 | _=>false
noncomputable def k9:Expr->Bool
 | .Tuple ..=>true
 | .List ..=>true
 | _=>false
noncomputable def isIt:E->Bool
 | .rng _=>true
 | .rng2 _ _=>true
 | .enm _=>true
 | .zip _=>true
 | _=>false
noncomputable def special (x:Str):Bool:=x=="__debug__"||x=="__classdict__"||x=="__name__"
noncomputable def cEs (f:Expr->Option E):List Expr->Option Es
 | []=>some .nil
 | e::es=>if noStar e then match f e with
  | none=>none
  | some d=>match cEs f es with
   | none=>none
   | some ds=>some (.cons d ds) else none
noncomputable def cBs (f:Expr->Option E) (op:BoolOp):List Expr->Option E
 | []=>none
 | [e]=>f e
 | e::r=>match f e with
  | none=>none
  | some d=>match cBs f op r with
   | none=>none
   | some ds=>match op with
    | .And=>some (.and d ds)
    | .Or=>some (.or d ds)
noncomputable def cO (f:Expr->Option E):Option Expr->Option Oe
 | none=>some .none
 | some e=>(f e).map .some
noncomputable def uS (c:Ci) (x:Str):Option E:=if special x then none else match c.names.lookup x with
 | some .local=>(kY x c.N).map .var
 | some .cell=>(kY x c.N).map .var
 | some .free=>(kY x c.N).map .var
 | some .globalImplicit=>(c.gl.lookup x).map .cst
 | _=>none
noncomputable def g7 (c:Ci) (x:Str):Option Nat:=match c.names.lookup x with
 | some .local=>kY x c.N
 | some .cell=>kY x c.N
 | _=>none
noncomputable def cTs (f:Expr->Option T):List Expr->Option Ts
 | []=>some .nil
 | e::es=>if noStar e then match f e with
  | none=>none
  | some d=>match cTs f es with
   | none=>none
   | some ds=>some (.cons d ds) else none
noncomputable def cT:Nat->Ci->Expr->Option T
 | 0,_,_=>none
 | n+1,c,e=>match e with
  | .Name x _=>(g7 c x).map .var
  | .Tuple es _ _=>(cTs (cT n c) es).map .tup
  | _=>none
noncomputable def cI (f:Expr->Option E) (c:Ci) (tg e:Expr):Option E:=match e with
 | .Call (.Name x _) args kws _=>if kws.isEmpty&&c.names.lookup x==some .globalImplicit&&(c.fns.lookup x).isNone&&!special x then
   if x="range" then match args with
    | [a]=>if noStar a then (f a).map .rng else none
    | [a,b]=>if noStar a&&noStar b then match f a,f b with
     | some d,some d'=>some (.rng2 d d')
     | _,_=>none else none
    | _=>none
   else if x="enumerate" then match tg,args with
    | .Tuple _ _ _,[a]=>if noStar a then (f a).map .enm else none
    | _,_=>none
   else if x="zip" then match tg,args with
    | .Tuple _ _ _,a::r=>if r.length=1\/r.length=2\/r.length=3 then (cEs f (a::r)).map .zip else none
    | _,_=>none
   else match f e with
    | some d=>if isIt d then none else some d
    | none=>none
  else match f e with
   | some d=>if isIt d then none else some d
   | none=>none
 | e=>match f e with
  | some d=>if isIt d then none else some d
  | none=>none
noncomputable def xQ (f:Expr->Option E):List Expr->Option Es
 | []=>some .nil
 | [e]=>(f e).map λ d=>.cons d .nil
 | _=>none
noncomputable def cGs (f:Expr->Option E) (n:Nat) (c:Ci) (elt:Expr):List Comprehension->Option G
 | []=>(f elt).map .elt
 | ⟨tg,it,ifs,as⟩::gs=>if as=0/\isSet it=false then match cT n c tg,cI f c tg it,xQ f ifs,cGs f n c elt gs with
  | some t,some d,some ds,some g=>some (.gen t [] d ds g)
  | _,_,_,_=>none else none
noncomputable def uT (N:List Str) (names:List (Str×NameKind)):List Nat:=(N.zipIdx.filter λ p=>names.lookup p.1==some .local||names.lookup p.1==some .cell).map (·.2)
noncomputable def oR (N:List Str) (scope:Scope) (onames:List (Str×NameKind)):Bool:=
 decide (scope.kind=.function)&&scope.names.all λ y=>(decide (y.2≠.cell)||decide (scope.names.lookup y.1=some .cell))&&(decide (y.2≠.local)||decide (scope.names.lookup y.1=some .local))&&(decide (y.2≠.free)||decide (onames.lookup y.1=some .cell)||decide (onames.lookup y.1=some .free))
noncomputable def oS (x:Str) (args:List Expr):Option Expr:=if x="len" then match args with
  | [.Call (.Name y _) [a] [] _]=>if y="set" then some a else none
  | _=>none else none
noncomputable def oU (f:Expr) (args:List Expr) (kws:List Keyword):Option Expr:=match f,args,kws with
 | .Name x _,[a],[⟨some k,.Constant .none _ _,_⟩]=>if x="min"/\k="default" then some a else none
 | _,_,_=>none
noncomputable def cE:Nat->Ci->Expr->Option E
 | 0,_,_=>none
 | n+1,c,e=>Option.map (wz c e) <| match e with
  | .Name x _=>uS c x
  | .Constant k _ _=>match k with
   | .int i=>some (.cst (.int i))
   | .bool b=>some (.cst (.bl b))
   | .none=>some (.cst .non)
   | .str x=>some (.cst (.str x))
   | _=>none
  | .BinOp a op b _=>match cE n c a,cE n c b with
   | some d,some d'=>some (.bin op d d')
   | _,_=>none
  | .UnaryOp op a _=>match op with
   | .USub=>(cE n c a).map .neg
   | .Not=>(cE n c a).map .not
   | _=>none
  | .BoolOp op vs _=>cBs (cE n c) op vs
  | .Compare a ops bs _=>match ops,bs with
   | [op],[b]=>if behindInMarks op b then none else match cE n c a,cE n c b with
    | some d,some d'=>some (.cmp op d d')
    | _,_=>none
   | [o1,o2],[b,b']=>if lastMarks [o1,o2] [b,b'] then none else match cE n c a,cE n c b,cE n c b' with
    | some d,some d',some d''=>some (.chain o1 o2 d d' d'')
    | _,_,_=>none
   | _,_=>none
  | .IfExp t a b _=>match cE n c t,cE n c a,cE n c b with
   | some d,some d',some d''=>some (.ife d d' d'')
   | _,_,_=>none
  | .Tuple es _ _=>(cEs (cE n c) es).map .tup
  | .List es _=>(cEs (cE n c) es).map .lst
  | .Subscript a s _=>match s with
   | .Slice lo hi st _=>match st with
    | none=>match cE n c a,cO (cE n c) lo,cO (cE n c) hi with
     | some d,some l,some h=>some (.slc d l h)
     | _,_,_=>none
    | some _=>none
   | s=>if isSlice s then none else match cE n c a,cE n c s with
    | some d,some d'=>some (.idx d d')
    | _,_=>none
  | .Call f args kws pos=>if kws.isEmpty then match f with
    | .Name x _=>if special x then none else if c.names.lookup x=some .globalImplicit then match c.fns.lookup x with
      | some (i,np)=>match args with
       | []=>if np=0 then some (.call i .nil) else none
       | a::r=>if args.length=np then (cEs (cE n c) (a::r)).map (.call i) else none
      | none=>match c.cs.ini.lookup x with
       | some _=>match args with
        | []=>none
        | a::r=>(cEs (cE n c) (a::r)).map (.make x)
       | none=>if x="set" then match args with
        | []=>some .set0
        | _=>none
       else
       match oS x args with
       | some a=>if noStar a&&c.names.lookup ("set":Str)==some .globalImplicit&&(c.fns.lookup ("set":Str)).isNone then (cE n c a).map (.fus .iT) else none
       | none=>
       match oQ.lookup x with
       | some b=>match args with
        | []=>none
        | a::r=>(cEs (cE n c) (a::r)).map (.blt b)
       | none=>if x="isinstance" then match args with
         | [a,.Name t _]=>if special t then none else if noStar a&&c.names.lookup t==some .globalImplicit then match uQ.lookup t,cE n c a with
          | some tn,some d=>some (.isI d tn)
          | _,_=>none else none
         | _=>none
        else none
     else none
    | .Attribute o m apos=>if fc o then none else if (apos.endLine==pos.line) then match uR.lookup m,cE n c o with
      | some (nm,_),some d=>if args.length < 20 then (cEs (cE n c) args).map (.meth d nm) else none
      | none,some d=>if args.length < 20 then (cEs (cE n c) args).map (.mth d m) else none
      | _,_=>none
     else none
    | _=>none
   else match oU f args kws with
    | some a=>if noStar a&&c.names.lookup ("min":Str)==some .globalImplicit&&(c.fns.lookup ("min":Str)).isNone then (cE n c a).map (.fus .mind) else none
    | none=>none
  | .Attribute o f _=>if fc o then none else (cE n c o).map λ d=>.fld d f
  | .ListComp elt gens scope _=>match gens with
   | []=>none
   | ⟨tg,it,ifs,as⟩::gs=>
    let c':Ci:={c with names:=scope.names}
    if as=0/\isSet it=false/\oR c.N scope c.names=true then match cT n c' tg,cI (cE n c) c tg it,xQ (cE n c') ifs,cGs (cE n c') n c' elt gs with
     | some t,some d,some ds,some g=>some (.comp (.gen t (uT c.N scope.names) d ds g))
     | _,_,_,_=>none
    else none
  | _=>none
noncomputable def cAs (f:Expr->Option A):List Expr->Option As
 | []=>some .nil
 | e::es=>if noStar e then match f e with
  | none=>none
  | some d=>match cAs f es with
   | none=>none
   | some ds=>some (.cons d ds) else none
noncomputable def cA:Nat->Ci->Expr->Option A
 | 0,_,_=>none
 | n+1,c,e=>match e with
  | .Name x _=>(g7 c x).map λ i=>.pt (.var i)
  | .Tuple es _ _=>(cAs (cA n c) es).map .tup
  | .Subscript o i _=>if isSlice i then none else match cE n c o,cE n c i with
   | some d,some d'=>some (.sub d d')
   | _,_=>none
  | _=>none
noncomputable def cSs (f:Stmt->Option S):List Stmt->Option Ss
 | []=>some .nil
 | s::r=>match f s with
  | none=>none
  | some d=>match cSs f r with
   | none=>none
   | some ds=>some (.cons d ds)
noncomputable def pairOf:Expr->Expr->Option (Str×Pos×Str×Pos×Expr×Expr)
 | .Tuple [.Name x px,.Name y py] _ _,.Tuple [a,b] _ _=>some (x,px,y,py,a,b)
 | _,_=>none
noncomputable def Bt (n:Nat) (c:Ci) (tg v:Expr):Option S:=if (k9 tg&&k9 v)||qb tg||!noStar tg then none else match cA n c tg,cE n c v with
 | some t,some d=>some (.asg t d)
 | _,_=>none
noncomputable def Bu (n:Nat) (c:Ci) (tg v:Expr):Option S:=match tg with
 | .Name x _=>match g7 c x,cE n c v with
  | some i,some d=>some (.asg (.pt (.var i)) d)
  | _,_=>none
 | .Attribute o f _=>match cE n c o,cE n c v with
  | some d,some d'=>some (.fas d f d')
  | _,_=>none
 | tg=>
  match pairOf tg v with
  | some (x,px,y,py,a,b)=>if px.line==py.line&&c.names.lookup x==some .local&&c.names.lookup y==some .local&&x != y&&noStar a&&noStar b&&!([a,b].all (foldedForSure 8))&&!([a,b].all (constantsAlone 8)) then
    match g7 c x,g7 c y,cE n c a,cE n c b with
    | some i,some j,some d,some d'=>some (.asg (.pt (.tup (.cons (.var i) (.cons (.var j) .nil)))) (.tup (.cons d (.cons d' .nil))))
    | _,_,_,_=>none else none
  | none=>
  Bt n c tg v
noncomputable def cS:Nat->Ci->Stmt->Option S
 | 0,_,_=>none
 | n+1,c,s=>match s with
  | .Assign ts v _=>match ts with
   | [t]=>Bu n c t v
   | _=>none
  | .Expr v _=>if kZ v then none else (cE n c v).map .expr
  | .Return o _=>match o with
   | some v=>(cE n c v).map .ret
   | none=>some .retN
  | .If t a b _=>match cE n c t,cSs (cS n c) a,cSs (cS n c) b with
   | some d,some x,some y=>some (.ife d x y)
   | _,_,_=>none
  | .For tg it body els _=>match els with
   | []=>if isSet it then none else match cT n c tg,cI (cE n c) c tg it,cSs (cS n c) body with
    | some t,some d,some x=>some (.for_ t d x)
    | _,_,_=>none
   | _=>none
  | .Pass _=>some .pass
  | .Break _=>some .brk
  | .Continue _=>some .cont
  | .Raise _ _ _=>some .never
  | _=>none
end D
end
section
namespace D
open PySem PySem.Spec PyProof.Rows L2
structure Ok (X:L2.Cx) (cl:Cl) (C:D.Cx) (c:Ci):Prop where
 N:X.N=c.N
 nd:c.N.Nodup
 vis:∀{x:Str} {k:NameKind},c.names.lookup x=some k->(k=.local\/k=.cell\/k=.free)->Vis X.env.scope x
 loc:∀{x:Str} {k:NameKind},c.names.lookup x=some k->(k=.local\/k=.cell)->L2.Loc X.env.scope x/\(X.fn x=true\/X.env.scope.names.lookup x=some .local)
 cel:∀{x:Str},(c.names.lookup x=some .cell\/c.names.lookup x=some .free)->X.env.scope.names.lookup x=some .cell\/X.env.scope.names.lookup x=some .free
 glb:∀{x:Str},c.names.lookup x=some .globalImplicit->Gl X x
 calm:X.calm=true
 units:UN X cl
 hand:X.A.handled=none
 blt:∀x∈jf,X.mg x=none
 fn:∀{x:Str} {i np:Nat},c.fns.lookup x=some (i,np)->∃(k:Nat) (fa:Addr) (fd:FuncData) (ps:List Str),ps.length=np/\bZ k X.A/\X.mg x=some (.ref fa)/\PySem.W.keepIn X.K (.ref fa)=true/\Binds X.K fd ps []/\dH X.prog X.w X.K X.mg X.base CX0 k fa fd ps (spD X.K cl ps.length (C.call i))
 gl:∀{x:Str} {w:W},c.gl.lookup x=some w->∃u v,X.mg x=some u/\RelV v u/\∀β H,RW X.K β H w v
 cs:c.cs=C.cs
 fld:∀{d f:Str},C.cs.flds.contains (d,f)=true->Cls X.K (aW X.K d)/\ef X.K (aW X.K d) f
 mth:∀{d f:Str} {i:Nat},C.cs.mths.lookup (d,f)=some i->zb X cl C d f i
 ini:∀{d:Str} {i:Nat},C.cs.ini.lookup d=some i->zc X cl C d i
section
variable {env:Env}
theorem aR {e:Expr} {es:List Expr} (h:noStar e=true):starEach (e::es) env=(false,eval e env)::starEach es env:=by
 cases e<;>first | rfl | cases h
theorem cG {f:Expr->Option E} {pos:Pos}:∀{es:List Expr} {ds:Es},cEs f es=some ds->(backTo pos (starEach es env)).any (·.1)=false
 | [],_,_=>rfl
 | e::es,ds,h=>by
  unfold cEs at h
  split at h
  ·rename_i hs
   split at h
   ·cases h
   ·split at h
    ·cases h
    ·rename_i ds' h2
     rw [aR hs]
     show ((false||(backTo pos (starEach es env)).any (·.1)))=false
     rw [cG h2]; rfl
  ·cases h
theorem lg {f:Expr->Option E} {pos:Pos}:∀{es:List Expr} {ds:Es},cEs f es=some ds->(backTo pos (starEach es env)).all (λ x=>!x.1)=true
 | [],_,_=>rfl
 | e::es,ds,h=>by
  unfold cEs at h
  split at h
  ·rename_i hs
   split at h
   ·cases h
   ·split at h
    ·cases h
    ·rename_i ds' h2
     rw [aR hs]
     show ((true&&(backTo pos (starEach es env)).all (λ x=>!x.1)))=true
     rw [lg h2]; rfl
  ·cases h
theorem eK {f:Expr->Option E} {e:Expr} {es:List Expr} {ds:Es} (h:cEs f (e::es)=some ds):noStar e=true/\∃d ds',f e=some d/\cEs f es=some ds'/\ds=.cons d ds':=by
 unfold cEs at h
 split at h
 ·rename_i hs
  split at h
  ·cases h
  ·rename_i d h1
   split at h
   ·cases h
   ·rename_i ds' h2
    cases h
    exact ⟨hs,d,ds',h1,h2,rfl⟩
 ·cases h
theorem jg {e:Expr} {es:List Expr} (h:noStar e=true):assignEach (e::es) env=(false,assign e env)::assignEach es env:=by
 cases e<;>first | rfl | cases h
theorem xR {b:Expr} (h:isSlice b=false):kF b:=by
 intro o i
 cases b<;>first | rfl | cases h
theorem lq {o:Expr} {m:Str} (h:fc o=false):attributeBase o m env (eval o env)=eval o env:=by
 unfold attributeBase
 split
 ·cases h
 ·rfl
theorem ly {e:Expr} (h:isSet e=false) (x:Value):foldedSetIterable e env x=pure x:=by
 cases e<;>first | rfl | cases h
theorem qc {v:Expr} {t:Option Expr} {l:Nat} (h:kZ v=false):swapsWith v t l env=pure false:=by
 cases v<;>first | rfl | cases h
noncomputable def Es.len:Es->Nat
 | .nil=>0
 | .cons _ r=>r.len+1
theorem lA {f:Expr->Option E}:∀{es:List Expr} {ds:Es},cEs f es=some ds->ds.len=es.length
 | [],_,h=>by cases h; rfl
 | e::es,ds,h=>by
  obtain ⟨_,d,ds',_,h2,rfl⟩:=eK h
  show ds'.len+1=_
  rw [lA h2]; rfl
theorem jh {C:D.Cx}:∀{ds:Es} {ρ:Loc} {m m':Mem} {ws:List W},aI C ds ρ m=.ok ws m'->ws.length=ds.len
 | .nil,_,_,_,_,h=>by simp only [aI] at h; cases h; rfl
 | .cons d ds,_,_,_,_,h=>by
  simp only [aI] at h
  obtain ⟨w,m1,h1,h⟩:=R.aa h
  obtain ⟨ws,m2,h2,h⟩:=R.aa h
  cases h
  rw [List.length_cons,jh h2]; rfl
end
theorem lookup_mem {β:Type} {x:Str} {b:β}:∀{l:List (Str×β)},l.lookup x=some b->(x,b)∈l:=λ {l} h=>PySem.mem_of_lookup h
theorem rQ {x:Str} {b:B} (h:oQ.lookup x=some b):x∈jf/\((∃id,ur b=.builtin id/\bootBuiltins x=some (.builtin id))\/∃id,ur b=.type id/\bootBuiltins x=some (.type id)):=by
 have hm:=lookup_mem h
 simp only [oQ,List.mem_cons,Prod.mk.injEq,List.not_mem_nil,or_false] at hm
 rcases hm with ⟨rfl,rfl⟩ | ⟨rfl,rfl⟩ | ⟨rfl,rfl⟩ | ⟨rfl,rfl⟩ | ⟨rfl,rfl⟩ | ⟨rfl,rfl⟩ | ⟨rfl,rfl⟩ | ⟨rfl,rfl⟩ | ⟨rfl,rfl⟩ | ⟨rfl,rfl⟩ | ⟨rfl,rfl⟩ | ⟨rfl,rfl⟩
 all_goals first
  | exact ⟨by decide +kernel,.inl ⟨_,rfl,by decide +kernel⟩⟩
  | exact ⟨by decide +kernel,.inr ⟨_,rfl,by decide +kernel⟩⟩
theorem uU {x:Str} {b:String} (h:uQ.lookup x=some b):x∈jf/\b∈bJ/\bootBuiltins x=some (.type b):=by
 have hm:=lookup_mem h
 simp only [uQ,List.mem_cons,Prod.mk.injEq,List.not_mem_nil,or_false] at hm
 rcases hm with ⟨rfl,rfl⟩ | ⟨rfl,rfl⟩ | ⟨rfl,rfl⟩ | ⟨rfl,rfl⟩ | ⟨rfl,rfl⟩ | ⟨rfl,rfl⟩
 all_goals exact ⟨by decide +kernel,by decide,by decide +kernel⟩
theorem uV {X:L2.Cx} {cl:Cl} (hu:UN X cl) {m:Str} {nm id:String} (h:uR.lookup m=some (nm,id)):PlainAttrs (kdT (kdM nm))/\Slot (kdT (kdM nm)) m id/\typeOf (.builtin id)=pure (.type "method_descriptor")/\MtR X id (SM X cl nm):=by
 have hm:=lookup_mem h
 simp only [uR,List.mem_cons,Prod.mk.injEq,List.not_mem_nil,or_false] at hm
 rcases hm with ⟨rfl,rfl,rfl⟩ | ⟨rfl,rfl,rfl⟩ | ⟨rfl,rfl,rfl⟩
  | ⟨rfl,rfl,rfl⟩
  | ⟨rfl,rfl,rfl⟩ | ⟨rfl,rfl,rfl⟩ | ⟨rfl,rfl,rfl⟩
 ·exact ⟨PySem.F.plainAttrs_list,PySem.F.slot_list_append,PySem.F.type_list_append,rM⟩
 ·exact ⟨PySem.F.plainAttrs_list,PySem.F.slot_list_clear,PySem.F.type_list_clear,uw⟩
 ·exact ⟨PySem.F.plainAttrs_list,PySem.F.slot_list_reverse,PySem.F.type_list_reverse,oJ⟩
 ·exact ⟨PySem.F.plainAttrs_list,PySem.F.slot_list_pop,PySem.F.type_list_pop,AX⟩
 ·exact ⟨PySem.F.plainAttrs_str,PySem.F.slot_str_join,PySem.F.type_str_join,xw⟩
 ·exact ⟨PySem.F.plainAttrs_str,PySem.F.slot_str_index,PySem.F.type_str_index,rN⟩
 ·exact ⟨PySem.F.plainAttrs_set,PySem.F.slot_set_add,PySem.F.type_set_add,AY hu⟩
theorem fR {x:Str} (h:special x=false):(x==("__debug__":Str))=false/\(x==("__classdict__":Str))=false/\x≠"__name__":=by
 unfold special at h
 simp only [Bool.or_eq_false_iff] at h
 exact ⟨h.1.1,h.1.2,by simpa using h.2⟩
section
variable {X:L2.Cx} {cl:Cl} {C:D.Cx} {c:Ci}
theorem Ok.slot (o:Ok X cl C c) {x:Str} {i:Nat} (h:kY x c.N=some i):X.N[i]?=some x:=by rw [o.N]; exact mS h
theorem xS (o:Ok X cl C c) {x:Str} {pos:Pos} {d:E} (h:uS c x=some d):PE X (.Name x pos) (SE X cl (evE C d))/\∀ρ m,evT C d ρ m=(evE C d ρ m).bind λ w m=>D.truthy m w:=by
 unfold uS at h
 split at h
 ·cases h
 ·rename_i hs
  obtain ⟨h1,h2,h3⟩:=fR (by simpa using hs)
  split at h
  ·rename_i hk
   simp only [Option.map_eq_some_iff] at h
   obtain ⟨i,hi,rfl⟩:=h
   exact ⟨ug (o.slot hi) (o.vis hk (.inl rfl)) h1 h2,λ _ _=>by simp only [evT,evE]⟩
  ·rename_i hk
   simp only [Option.map_eq_some_iff] at h
   obtain ⟨i,hi,rfl⟩:=h
   exact ⟨ug (o.slot hi) (o.vis hk (.inr (.inl rfl))) h1 h2,λ _ _=>by simp only [evT,evE]⟩
  ·rename_i hk
   simp only [Option.map_eq_some_iff] at h
   obtain ⟨i,hi,rfl⟩:=h
   exact ⟨ug (o.slot hi) (o.vis hk (.inr (.inr rfl))) h1 h2,λ _ _=>by simp only [evT,evE]⟩
  ·rename_i hk
   simp only [Option.map_eq_some_iff] at h
   obtain ⟨w,hw,rfl⟩:=h
   exact ⟨CV (o.glb hk) (o.gl hw) h1,λ _ _=>by simp only [evT,evE]⟩
  ·cases h
noncomputable def Tells (X:L2.Cx) (cl:Cl) (C:D.Cx) (e:Expr) (d:E):Prop:=PE X e (SE X cl (evE C d))/\PT X e (ST X cl (evT C d))
theorem ay {e:Expr} {d:E} (h:PE X e (SE X cl (evE C d))) (he:∀whole,isTrue e X.env whole=(do let v <-whole; standAt e.pos; holding [v] (PySem.truthy v))) (hd:∀ρ m,evT C d ρ m=(evE C d ρ m).bind λ w m=>D.truthy m w):Tells X cl C e d:=⟨h,yQ h he hd⟩
theorem uW {e:Expr} {d:E} (h:Tells X cl C e d):Tells X cl C e (wz c e d):=by
 unfold wz
 split
 ·rename_i hc
  simp only [Bool.and_eq_true] at hc
  refine ⟨za h.1,yQ (za h.1) ?_ λ _ _=>by simp only [evT,evE]⟩
  have:=hc.1
  cases e<;>first | (intro _; rfl) | cases this
 ·exact h
theorem fF {f:Expr->Option E} (ih:∀e d,f e=some d->Tells X cl C e d):∀{es:List Expr} {ds:Es},cEs f es=some ds->PA X es (SA X cl (aI C ds))
 | [],_,h=>by cases h; exact yR
 | e::es,ds,h=>by
  obtain ⟨hs,d,ds',h1,h2,rfl⟩:=eK h
  exact oF (ih e d h1).1 (fF ih h2) (aR hs)
theorem Du {f:Expr->Option E} (ih:∀e d,f e=some d->Tells X cl C e d) {e:Option Expr} {d:Oe} (h:cO f e=some d):PO X e (SOo X cl (evO C d)):=by
 cases e with
 | none=>cases h; exact AO
 | some e=>
  simp only [cO,Option.map_eq_some_iff] at h
  obtain ⟨d',h1,rfl⟩:=h
  exact AQ (ih e d' h1).1
theorem zd {f:Expr->Option E} (ih:∀e d,f e=some d->Tells X cl C e d) {op:BoolOp} {pos:Pos}:∀{es:List Expr} {d:E},cBs f op es=some d->PE X (.BoolOp op es pos) (SE X cl (evE C d))/\PW X (.BoolOp op es pos) (ST X cl (evT C d))
 | [],_,h=>by cases h
 | [e],d,h=>by
  have q:=ih e d h
  cases op with
  | And=>exact ⟨sJ q.1,v7 q.2⟩
  | Or=>exact ⟨sJ q.1,zI q.2⟩
 | e::e'::r,d,h=>by
  unfold cBs at h
  split at h
  ·cases h
  ·rename_i d1 h1
   split at h
   ·cases h
   ·rename_i d2 h2
    obtain ⟨q1,q2⟩:=zd (pos:=pos) ih h2
    obtain ⟨p1,p2⟩:=ih e d1 h1
    cases op with
    | And=>cases h; exact ⟨C3 p1 q1,w_and p2 q2⟩
    | Or=>cases h; exact ⟨EK p1 q1,w_or p2 q2⟩
theorem xT {a b c':Expr} {da db dc:E} {o1 o2:CmpOp} {pos:Pos} (hu:UN X cl) (ha:PE X a (SE X cl (evE C da))) (hb:PE X b (SE X cl (evE C db))) (hc:PE X c' (SE X cl (evE C dc))) (hm:lastMarks [o1,o2] [b,c']=false) :
  PT X (.Compare a [o1,o2] [b,c'] pos) (ST X cl (evT C (.chain o1 o2 da db dc))):=by
 refine PT.imp (sS (gB (cl:=cl) hu o1) (gB (cl:=cl) hu o2) ha hb hc hm) ?_
 rintro σ H Q ⟨β,ρ,m,w,m',r,l,e,k⟩
 simp only [evT,evE] at e
 obtain ⟨x,m1,e1,e⟩:=R.aa e
 obtain ⟨y,m2,e2,e⟩:=R.aa e
 obtain ⟨z,m3,e3,e⟩:=R.aa e
 refine ⟨β,ρ,m,x,m1,r,l,e1,fun β1 H1 v1 x1 r1 q1=>?_⟩
 refine ⟨β1,ρ,m1,y,m2,r1,l.mono r x1,e2,fun β2 H2 v2 x2 r2 q2=>?_⟩
 have l2:=(l.mono r x1).mono r1 x2
 refine ⟨β2,m2,x,y,.bl z,m3,r2,q1.mono r1 x2,q2,by dsimp only; rw [e3]; rfl,fun β3 H3 v3 x3 r3 q3=>?_⟩
 cases q3
 refine ⟨z,rfl,?_⟩
 have x03:=(x1.trans r1 x2).trans r2 x3
 split at e
 ·rename_i hc
  rw [if_pos hc]
  obtain ⟨u,m4,e4,e⟩:=R.aa e
  refine ⟨β3,ρ,m3,u,m4,r3,l2.mono r2 x3,e4,fun β4 H4 v4 x4 r4 q4=>?_⟩
  refine ⟨β4,m4,y,u,.bl w,m',r4,(q2.mono r2 x3).mono r3 x4,q4,by dsimp only; rw [e]; rfl,fun β5 H5 v5 x5 r5 q5=>?_⟩
  cases q5
  exact ⟨_,rfl,k _ _ ((x03.trans r3 x4).trans r4 x5) r5⟩
 ·rename_i hc
  rw [if_neg hc]
  cases e
  exact ⟨_,rfl,k _ _ x03 r3⟩
theorem Dv {t a b:Expr} {dt da db:E} {pos:Pos} (ht:PT X t (ST X cl (evT C dt))) (ha:PT X a (ST X cl (evT C da))) (hb:PT X b (ST X cl (evT C db))):PT X (.IfExp t a b pos) (ST X cl (evT C (.ife dt da db))):=by
 intro pins s σ H Q I h
 obtain ⟨β,ρ,m,w,m',r,l,e,k⟩:=h
 simp only [evT,evE] at e
 obtain ⟨x,m1,e1,e⟩:=R.aa e
 show wpAny _ _ (isTrue t X.env (eval t X.env) >>= λ z=>if z=true then isTrue a X.env (eval a X.env) else isTrue b X.env (eval b X.env)) _ _ s
 refine wpAny_bind (thn (ht pins s σ H (λ c H1=>c=x/\∃β1,Ext β H β1 H1/\Rel X.K cl β1 m1 H1) I ⟨β,ρ,m,x,m1,r,l,e1,fun β1 H1 x1 r1=>⟨rfl,β1,x1,r1⟩⟩) λ c s1 ⟨H1,I1,hc,β1,x1,r1⟩=>?_)
 subst hc
 cases c with
 | true=>exact ha pins s1 σ H1 Q I1 ⟨β1,ρ,m1,w,m',r1,l.mono r x1,e,fun β2 H2 x2 r2=>k _ _ (x1.trans r1 x2) r2⟩
 | false=>exact hb pins s1 σ H1 Q I1 ⟨β1,ρ,m1,w,m',r1,l.mono r x1,e,fun β2 H2 x2 r2=>k _ _ (x1.trans r1 x2) r2⟩
end
end D
end
section
namespace D
open PySem PySem.Spec PyProof.Rows L2
section
variable {X:L2.Cx} {cl:Cl} {C:D.Cx} {c:Ci}
theorem dO (o:Ok X cl C c) {x:Str} {i:Nat} (h:g7 c x=some i):X.N[i]?=some x/\L2.Loc X.env.scope x/\(X.fn x=true\/X.env.scope.names.lookup x=some .local):=by
 unfold g7 at h
 split at h
 ·rename_i hk
  exact ⟨o.slot h,o.loc hk (.inl rfl)⟩
 ·rename_i hk
  exact ⟨o.slot h,o.loc hk (.inr rfl)⟩
 ·cases h
theorem ndX (o:Ok X cl C c):X.N.Nodup:=by rw [o.N]; exact o.nd
theorem ze {f:Expr->Option T} (ih:∀e t,f e=some t->PG X e (SG X cl (evA C (.pt t)))):∀{es:List Expr} {ts:Ts},cTs f es=some ts->
  PGs X es (SGs X cl (cz C (T.oK ts)))/\(assignEach es X.env).length=(T.oK ts).len/\(assignEach es X.env).findIdx? (·.1)=none
 | [],_,h=>by cases h; exact ⟨uD,rfl,rfl⟩
 | e::es,ts,h=>by
  unfold cTs at h
  split at h
  ·rename_i hs
   split at h
   ·cases h
   ·rename_i d h1
    split at h
    ·cases h
    ·rename_i ds h2
     cases h
     obtain ⟨q1,q2,q3⟩:=ze ih h2
     have e1:=jg (env:=X.env) (es:=es) hs
     refine ⟨pZ (ih e d h1) q1 (by rw [e1]; rfl),?_,?_⟩
     ·rw [e1,List.length_cons,q2]; rfl
     ·rw [e1,List.findIdx?_cons]
      simp [q3]
  ·cases h
theorem mT (o:Ok X cl C c):∀(n:Nat) (e:Expr) (t:T),cT n c e=some t->PG X e (SG X cl (evA C (.pt t)))
 | 0,_,_,h=>by cases h
 | n+1,e,t,h=>by
  unfold cT at h
  split at h
  ·simp only [Option.map_eq_some_iff] at h
   obtain ⟨i,hi,rfl⟩:=h
   obtain ⟨h1,h2,h3⟩:=dO o hi
   exact yU (ndX o) h1 h2 h3
  ·simp only [Option.map_eq_some_iff] at h
   obtain ⟨ts,hi,rfl⟩:=h
   obtain ⟨q1,q2,q3⟩:=ze (λ e t h=>mT o n e t h) hi
   exact A7 (yV o.calm q1 q2 q3)
  ·cases h
theorem rR {x:Str} {args:List Expr} {a:Expr} (h:oS x args=some a):∃py p2,x="len"/\args=[.Call (.Name "set" py) [a] [] p2]:=by
 unfold oS at h
 split at h
 ·rename_i hx
  split at h
  ·split at h
   ·rename_i hy
    cases h
    subst hx hy
    exact ⟨_,_,rfl,rfl⟩
   ·cases h
  ·cases h
 ·cases h
theorem rS {f:Expr} {args:List Expr} {kws:List Keyword} {a:Expr} (h:oU f args kws=some a):∃p j cp kp,f=.Name "min" p/\args=[a]/\kws=[⟨some "default",.Constant .none j cp,kp⟩]:=by
 unfold oU at h
 split at h
 ·split at h
  ·rename_i hx
   cases h
   obtain ⟨rfl,rfl⟩:=hx
   exact ⟨_,_,_,_,rfl,rfl,rfl⟩
  ·cases h
 ·cases h
theorem uX {d:E} (h:isIt d=false):∀ρ m,evI C d ρ m=(evE C d ρ m).bind toI:=by
 intro ρ m
 cases d<;>first | (simp [isIt] at h; done) | (simp only [evI,evE]; done) | rfl
theorem lB {f:Expr->Option E} (ih:∀e d,f e=some d->Tells X cl C e d) {tg e:Expr} {d:E} (h:(match f e with | some d=>if isIt d=true then none else some d | none=>none)=some d):PI X tg e (SI X cl (evI C d)):=by
 split at h
 ·rename_i d' h1
  split at h
  ·cases h
  ·rename_i hi
   cases h
   exact De (ih _ _ h1).1 (uX (by simpa using hi))
 ·cases h
theorem qd (o:Ok X cl C c) {f:Expr->Option E} (ih:∀e d,f e=some d->Tells X cl C e d) {tg e:Expr} {d:E} (h:cI f c tg e=some d):PI X tg e (SI X cl (evI C d)):=by
 unfold cI at h
 split at h
 ·rename_i x p args kws pos
  split at h
  ·rename_i hk
   simp only [Bool.and_eq_true,beq_iff_eq,List.isEmpty_iff] at hk
   obtain ⟨⟨⟨hk1,hk2⟩,hk3⟩,hk4⟩:=hk
   subst hk1
   split at h
   ·rename_i hx
    subst hx
    have hm:=o.blt "range" (by decide +kernel)
    split at h
    ·split at h
     ·rename_i hs
      simp only [Option.map_eq_some_iff] at h
      obtain ⟨d',h1,rfl⟩:=h
      exact Df (o.glb hk2) hm (ih _ _ h1).1 (aR hs)
     ·cases h
    ·split at h
     ·rename_i hs
      simp only [Bool.and_eq_true] at hs
      split at h
      ·rename_i d1 d2 h1 h2
       cases h
       exact A4 (o.glb hk2) hm (ih _ _ h1).1 (ih _ _ h2).1 (by rw [aR hs.1,aR hs.2]; rfl) (aR hs.2)
      ·cases h
     ·cases h
    ·cases h
   ·split at h
    ·rename_i hx
     subst hx
     have hm:=o.blt "enumerate" (by decide +kernel)
     split at h
     ·split at h
      ·rename_i hs
       simp only [Option.map_eq_some_iff] at h
       obtain ⟨d',h1,rfl⟩:=h
       exact Dg (o.glb hk2) hm (ih _ _ h1).1 (aR hs)
      ·cases h
     ·cases h
    ·
     split at h
     ·rename_i hx
      subst hx
      have hm:=o.blt "zip" (by decide +kernel)
      split at h
      ·split at h
       ·rename_i hr
        simp only [Option.map_eq_some_iff] at h
        obtain ⟨ds,h1,rfl⟩:=h
        obtain ⟨hst,d1,ds1,z1,z2,rfl⟩:=eK h1
        exact Dm (o.glb hk2) hm (fF ih h1) (fun ρ m ws m' e=>by
         have:=jh e
         have:=lA h1
         simp only [List.length_cons] at this
         omega) (aR hst) λ _=>cG z2
       ·cases h
      ·cases h
     ·
      exact lB ih h
  ·exact lB ih h
 ·exact lB ih h
theorem lC {f:Expr->Option E} (ih:∀e d,f e=some d->Tells X cl C e d) {es:List Expr} {ds:Es} (h:xQ f es=some ds):jF X es (ST X cl (aF C ds)):=by
 unfold xQ at h
 split at h
 ·cases h; exact xM
 ·simp only [Option.map_eq_some_iff] at h
  obtain ⟨d,h1,rfl⟩:=h
  exact xN (ih _ _ h1).2
 ·cases h
theorem ji {f:Expr->Option E} {n:Nat} {elt:Expr} {gs:List Comprehension} {g:G} (h:cGs f n c elt gs=some g):∀g',gs[0]?=some g'->g'.is_async=0/\∀(env:Env) x,foldedSetIterable g'.iter env x=pure x:=by
 intro g' hg
 cases gs with
 | nil=>simp at hg
 | cons g0 gs=>
  simp at hg
  subst hg
  obtain ⟨tg,it,ifs,as⟩:=g0
  unfold cGs at h
  split at h
  ·rename_i hs
   exact ⟨hs.1,λ env x=>ly hs.2 x⟩
  ·cases h
theorem oV (o:Ok X cl C c) (hx:X.xe=λ _ _=>False) {f:Expr->Option E} (ih:∀e d,f e=some d->Tells X cl C e d) {n:Nat} {elt:Expr} {scope:Scope} {pos:Pos} {gens:List Comprehension} {Δ:Addr}:∀{gs:List Comprehension} {g:G} {d0:Nat},cGs f n c elt gs=some g->(∀i,gens[d0+1+i]?=gs[i]?)->
  PB X (.ListComp elt gens scope pos) elt gens d0 Δ (SB X cl Δ (evG C g))
 | [],g,d0,h,hg=>by
  simp only [cGs,Option.map_eq_some_iff] at h
  obtain ⟨d,h1,rfl⟩:=h
  exact Bf hx (by simpa using hg 0) (ih _ _ h1).1
 | ⟨tg,it,ifs,as⟩::gs,g,d0,h,hg=>by
  unfold cGs at h
  split at h
  ·rename_i hs
   split at h
   ·rename_i t d ds g' h1 h2 h3 h4
    cases h
    obtain ⟨rfl,hs2⟩:=hs
    have hh:=ji h4
    refine Dj hx o.calm (by simpa using hg 0) (λ g2 hg2=>?_) (qd o ih h2) (mT o n _ _ h1) (lC ih h3) (oV o hx ih (d0:=d0+1) h4 λ i=>?_)
    ·have:=hg 1
     rw [hg2] at this
     obtain ⟨a1,a2⟩:=hh g2 (by simpa using this.symm)
     exact ⟨a1,a2 _⟩
    ·have:=hg (i+1)
     rw [show d0+1+1+i=d0+1+(i+1) by omega,this]
     simp
   ·cases h
  ·cases h
theorem aV {env:Env}:∀{names:List (Str×NameKind)} {x:Str} {k:NameKind},names.lookup x=some k->
  (names.map λ (n,k)=>if (k==NameKind.free&&env.scope.kind==.function&&env.kindOf n==some .cell) then (n,NameKind.cell) else (n,k)).lookup x=some k\/
  (k=.free/\(names.map λ (n,k)=>if (k==NameKind.free&&env.scope.kind==.function&&env.kindOf n==some .cell) then (n,NameKind.cell) else (n,k)).lookup x=some .cell)
 | [],_,_,h=>by simp at h
 | (n,k0)::r,x,k,h=>by
  have ih:=@aV env r x k
  show List.lookup x ((if (k0==NameKind.free&&env.scope.kind==.function&&env.kindOf n==some .cell)=true then (n,NameKind.cell) else (n,k0))::(r.map λ (n,k)=>if (k==NameKind.free&&env.scope.kind==.function&&env.kindOf n==some .cell) then (n,NameKind.cell) else (n,k)))=some k\/(k=.free/\List.lookup x ((if (k0==NameKind.free&&env.scope.kind==.function&&env.kindOf n==some .cell)=true then (n,NameKind.cell) else (n,k0))::(r.map λ (n,k)=>if (k==NameKind.free&&env.scope.kind==.function&&env.kindOf n==some .cell) then (n,NameKind.cell) else (n,k)))=some .cell)
  cases hx:x==n with
  | true=>
   simp only [List.lookup_cons,hx] at h
   cases h
   by_cases hc:(k0==NameKind.free&&env.scope.kind==.function&&env.kindOf n==some .cell)=true
   ·rw [if_pos hc]
    have hk:k0=.free:=by
     simp only [Bool.and_eq_true] at hc
     simpa using hc.1.1
    exact .inr ⟨hk,by simp only [List.lookup_cons,hx]⟩
   ·rw [if_neg hc]
    exact .inl (by simp only [List.lookup_cons,hx])
  | false=>
   simp only [List.lookup_cons,hx] at h
   have:=ih h
   split<;>(simp only [List.lookup_cons,hx]; exact this)
theorem Ok.comp (o:Ok X cl C c) {scope:Scope} (hc:oR c.N scope c.names=true):fM X.N (uT c.N scope.names) scope X.env.scope/\∀cl' s₀ H₀ fp pn,Ok (X.comp scope cl' s₀ H₀ fp pn) cl C {c with names:=scope.names}:=by
 unfold oR at hc
 simp only [Bool.and_eq_true,decide_eq_true_eq,List.all_eq_true,Bool.or_eq_true] at hc
 obtain ⟨h1,h2⟩:=hc
 refine ⟨⟨h1,λ y hy hl=>?_,λ y hy hl=>?_,λ p hp hl=>?_,λ y hy hf=>?_⟩,λ cl' s₀ H₀ fp pn=>⟨o.N,o.nd,λ {x k} hk hv=>?_,λ {x k} hk hv=>?_,λ {x} hk=>?_,λ {x} hk=>?_,o.calm,⟨o.units.un,o.units.P,o.units.w,o.units.gd⟩,o.hand,o.blt,o.fn,o.gl,o.cs,o.fld,o.mth,o.ini⟩⟩
 ·rcases (h2 y hy).1.1 with z | z
  ·exact absurd hl z
  ·exact z
 ·rcases (h2 y hy).1.2 with z | z
  ·exact absurd hl z
  ·exact z
 ·unfold uT
  rw [o.N] at hp
  refine List.mem_map.mpr ⟨p,List.mem_filter.mpr ⟨hp,by rcases hl with hl | hl<;>simp [hl]⟩,rfl⟩
 ·rcases (h2 y hy).2 with (z | z) | z
  ·exact absurd hf z
  ·exact o.cel (.inl z)
  ·exact o.cel (.inr z)
 ·rcases aV (env:=X.env) hk with z | ⟨z1,z⟩
  ·rcases hv with rfl | rfl | rfl
   ·exact .inl z
   ·exact .inr (.inl z)
   ·exact .inr (.inr z)
  ·exact .inr (.inl z)
 ·rcases hv with rfl | rfl
  ·rcases aV (env:=X.env) hk with z | ⟨z1,z⟩
   ·exact ⟨.inl z,.inr z⟩
   ·cases z1
  ·rcases aV (env:=X.env) hk with z | ⟨z1,z⟩
   ·exact ⟨.inr z,.inl (by simpa using hk)⟩
   ·cases z1
 ·rcases hk with hk | hk
  ·rcases aV (env:=X.env) hk with z | ⟨z1,z⟩
   ·exact .inl z
   ·cases z1
  ·rcases aV (env:=X.env) hk with z | ⟨z1,z⟩
   ·exact .inr z
   ·exact .inl z
 ·rcases aV (env:=X.env) hk with z | ⟨z1,z⟩
  ·exact z
  ·cases z1
end
theorem gf {cl:Cl} {C:D.Cx}:∀(n:Nat) (X:L2.Cx) (c:Ci) (e:Expr) (d:E),Ok X cl C c->cE n c e=some d->Tells X cl C e d
 | 0,_,_,_,_,_,h=>by cases h
 | n+1,X,c,e,d,o,h=>by
  have ih:∀e d,cE n c e=some d->Tells X cl C e d:=λ e d h=>gf n X c e d o h
  unfold cE at h
  simp only [Option.map_eq_some_iff] at h
  obtain ⟨d,h,rfl⟩:=h
  refine uW ?_
  split at h
  ·
   obtain ⟨q1,q2⟩:=xS o h
   exact ay q1 (λ _=>rfl) q2
  ·
   split at h
   ·cases h; exact ay CS (λ _=>rfl) λ _ _=>by simp only [evT,evE]
   ·cases h; exact ay EJ (λ _=>rfl) λ _ _=>by simp only [evT,evE]
   ·cases h; exact ay CT (λ _=>rfl) λ _ _=>by simp only [evT,evE]
   ·cases h; exact ay CU (λ _=>rfl) λ _ _=>by simp only [evT,evE]
   ·cases h
  ·
   split at h
   ·rename_i d1 d2 h1 h2
    cases h
    exact ay (CW (ih _ _ h1).1 (ih _ _ h2).1) (λ _=>rfl) λ _ _=>by simp only [evT,evE]
   ·cases h
  ·
   split at h
   ·simp only [Option.map_eq_some_iff] at h
    obtain ⟨d',h1,rfl⟩:=h
    exact ay (C0 (ih _ _ h1).1) (λ _=>rfl) λ _ _=>by simp only [evT,evE]
   ·simp only [Option.map_eq_some_iff] at h
    obtain ⟨d',h1,rfl⟩:=h
    exact ⟨C1 (ih _ _ h1).1,C2 (ih _ _ h1).2⟩
   ·cases h
  ·
   obtain ⟨q1,q2⟩:=zd ih h
   exact ⟨q1,q2.pt⟩
  ·
   split at h
   ·split at h
    ·cases h
    ·rename_i hm
     split at h
     ·rename_i d1 d2 h1 h2
      cases h
      exact ⟨CY o.units (ih _ _ h1).1 (ih _ _ h2).1 (by simpa using hm),CZ o.units (ih _ _ h1).1 (ih _ _ h2).1 (by simpa using hm)⟩
     ·cases h
   ·split at h
    ·cases h
    ·rename_i hm
     split at h
     ·rename_i d1 d2 d3 h1 h2 h3
      cases h
      have hm:=(Bool.not_eq_true _).mp hm
      exact ⟨xq o.units (ih _ _ h1).1 (ih _ _ h2).1 (ih _ _ h3).1 (sR (gB o.units _) (gB o.units _) (ih _ _ h1).1 (ih _ _ h2).1 (ih _ _ h3).1 hm),xT o.units (ih _ _ h1).1 (ih _ _ h2).1 (ih _ _ h3).1 hm⟩
     ·cases h
   ·cases h
  ·
   split at h
   ·rename_i d1 d2 d3 h1 h2 h3
    cases h
    exact ⟨C4 (ih _ _ h1).2 (ih _ _ h2).1 (ih _ _ h3).1,Dv (ih _ _ h1).2 (ih _ _ h2).2 (ih _ _ h3).2⟩
   ·cases h
  ·
   simp only [Option.map_eq_some_iff] at h
   obtain ⟨ds,h1,rfl⟩:=h
   exact ay (C5 (fF ih h1)) (λ _=>rfl) λ _ _=>by simp only [evT,evE]
  ·simp only [Option.map_eq_some_iff] at h
   obtain ⟨ds,h1,rfl⟩:=h
   exact ay (C6 (fF ih h1)) (λ _=>rfl) λ _ _=>by simp only [evT,evE]
  ·
   split at h
   ·split at h
    ·split at h
     ·rename_i d1 d2 d3 h1 h2 h3
      cases h
      exact ay (C8 (ih _ _ h1).1 (Du ih h2) (Du ih h3)) (λ _=>rfl) λ _ _=>by simp only [evT,evE]
     ·cases h
    ·cases h
   ·split at h
    ·cases h
    ·rename_i hs
     split at h
     ·rename_i d1 d2 h1 h2
      cases h
      exact ay (C7 (ih _ _ h1).1 (ih _ _ h2).1 (xR ((Bool.not_eq_true _).mp hs))) (λ _=>rfl) λ _ _=>by simp only [evT,evE]
     ·cases h
  ·
   rename_i f args kws pos
   split at h
   ·rename_i hk
    have hk:kws=[]:=by simpa using hk
    subst hk
    split at h
    ·rename_i x p
     split at h
     ·cases h
     ·rename_i hsp
      obtain ⟨hs1,hs2,hs3⟩:=fR (by simpa using hsp)
      split at h
      ·rename_i hgl
       have hg:=o.glb hgl
       split at h
       ·rename_i i np hf
        split at h
        ·split at h
         ·rename_i hnp
          cases h
          obtain ⟨k,fa,fd,ps,e1,e2,e3,e4,e5,e6⟩:=o.fn hf
          exact ay (xO e6 e2 hg e3 e4 e5 (by rw [e1]; exact hnp) hs1) (λ _=>rfl) λ _ _=>by simp only [evT,evE]
         ·cases h
        ·rename_i a r
         split at h
         ·rename_i hlen
          simp only [Option.map_eq_some_iff] at h
          obtain ⟨ds,h1,rfl⟩:=h
          obtain ⟨k,fa,fd,ps,e1,e2,e3,e4,e5,e6⟩:=o.fn hf
          obtain ⟨hst,d1,ds1,z1,z2,rfl⟩:=eK h1
          refine ay (s_call e6 e2 hg e3 e4 e5 (fF ih h1) (fun ρ m ws m' hw=>?_) hs1 (aR hst) (cG z2)) (λ _=>rfl) λ _ _=>by simp only [evT,evE]
          rw [jh hw,lA h1,e1]
          exact hlen
         ·cases h
       ·split at h
        ·rename_i ix hix
         split at h
         ·cases h
         ·rename_i a r
          simp only [Option.map_eq_some_iff] at h
          obtain ⟨ds,h1,rfl⟩:=h
          obtain ⟨hst,d1,ds1,z1,z2,rfl⟩:=eK h1
          rw [o.cs] at hix
          exact ay (Bq hix (o.ini hix) hg (fF ih h1) hs1 (aR hst) (cG z2)) (λ _=>rfl) λ _ _=>by simp only [evT,evE]
        split at h
        ·rename_i gF
         subst gF
         split at h
         ·cases h
          exact ay (A1 o.units hg (o.blt _ (by decide +kernel))) (λ _=>rfl) λ _ _=>by simp only [evT,evE]
         ·cases h
        split at h
        ·rename_i a hl
         split at h
         ·rename_i bN
          simp only [Bool.and_eq_true,beq_iff_eq] at bN
          simp only [Option.map_eq_some_iff] at h
          obtain ⟨d1,h1,rfl⟩:=h
          obtain ⟨py,p2,rfl,rfl⟩:=rR hl
          exact ay (Br o.hand o.units.un hg (o.blt _ (by decide +kernel)) (o.glb bN.1.2) (o.blt _ (by decide +kernel)) (ih _ _ h1).1 (aR bN.1.1)) (λ _=>rfl) λ _ _=>by simp only [evT,evE]
         ·cases h
        split at h
        ·rename_i b hb
         split at h
         ·cases h
         ·rename_i a r
          simp only [Option.map_eq_some_iff] at h
          obtain ⟨ds,h1,rfl⟩:=h
          obtain ⟨hst,d1,ds1,z1,z2,rfl⟩:=eK h1
          obtain ⟨hm,⟨id,y1,y2⟩ | ⟨id,y1,y2⟩⟩:=rQ hb
          ·exact ay (AU o.units o.calm o.hand y1 hg (o.blt _ hm) y2 (fF ih h1) hs3 hs1 (aR hst) (cG z2)) (λ _=>rfl) λ _ _=>by simp only [evT,evE]
          ·exact ay (AV o.units o.calm o.hand y1 hg (o.blt _ hm) y2 (fF ih h1) hs3 hs1 (aR hst) (cG z2)) (λ _=>rfl) λ _ _=>by simp only [evT,evE]
        ·split at h
         ·rename_i hx
          subst hx
          split at h
          ·rename_i a t p2
           split at h
           ·cases h
           ·rename_i EW
            obtain ⟨hq1,hq2,hq3⟩:=fR (by simpa using EW)
            split at h
            ·rename_i bN
             simp only [Bool.and_eq_true,beq_iff_eq] at bN
             split at h
             ·rename_i tn d1 y1 y2
              cases h
              obtain ⟨z1,z2,z3⟩:=uU y1
              exact ay (Dd z2 hg (o.blt _ (by decide +kernel)) (o.glb bN.2) (o.blt _ z1) z3 (ih _ _ y2).1 hq3 hq1 (aR bN.1)) (λ _=>rfl) λ _ _=>by simp only [evT,evE]
             ·cases h
            ·cases h
          ·cases h
         ·cases h
      ·cases h
    ·rename_i ob mm apos
     split at h
     ·cases h
     ·rename_i hc0
      split at h
      ·rename_i hline
       split at h
       ·rename_i nm id d1 y1 y2
        split at h
        ·rename_i hlen
         simp only [Option.map_eq_some_iff] at h
         obtain ⟨ds,h1,rfl⟩:=h
         obtain ⟨w0,w1,w2,w3⟩:=uV (X:=X) (cl:=cl) o.units y1
         have hbase:=lq (env:=X.env) (m:=mm) (by simpa using hc0:fc ob=false)
         cases args with
         | nil=>
          cases h1
          exact ay (xy rfl w0 w1 w2 w3 (ih _ _ y2).1 hbase hline) (λ _=>rfl) λ _ _=>by simp only [evT,evE]
         | cons a r=>
          obtain ⟨hst,d2,ds1,z1,z2,rfl⟩:=eK h1
          refine ay (AZ rfl w0 w1 w2 w3 (ih _ _ y2).1 (fF ih h1) hbase ?_ hline (aR hst) (cG z2)) (λ _=>rfl) λ _ _=>by simp only [evT,evE]
          rw [lg h1]
          have:(a::r).length+0+0 < 30:=Nat.lt_of_lt_of_le hlen (by decide)
          show (true&&true&&decide _)=true
          exact decide_eq_true this
        ·cases h
       ·rename_i d1 y1 y2
        split at h
        ·rename_i hlen
         simp only [Option.map_eq_some_iff] at h
         obtain ⟨ds,h1,rfl⟩:=h
         have hbase:=lq (env:=X.env) (m:=mm) (by simpa using hc0:fc ob=false)
         refine ay (Ds (λ hx=>o.mth hx) (ih _ _ y2).1 (fF ih h1) hbase ?_ hline ?_) (λ _=>rfl) λ _ _=>by simp only [evT,evE]
         ·rw [lg h1]
          have:args.length+0+0 < 30:=Nat.lt_of_lt_of_le hlen (by decide)
          show (true&&true&&decide _)=true
          exact decide_eq_true this
         ·cases args with
          | nil=>cases h1; exact .inl ⟨rfl,rfl⟩
          | cons a r=>
           obtain ⟨hst,d2,ds1,z1,z2,rfl⟩:=eK h1
           exact .inr ⟨a,r,rfl,aR hst,cG z2⟩
        ·cases h
       ·cases h
      ·cases h
    ·cases h
   ·split at h
    ·rename_i a hl
     split at h
     ·rename_i bN
      simp only [Bool.and_eq_true,beq_iff_eq] at bN
      simp only [Option.map_eq_some_iff] at h
      obtain ⟨d1,h1,rfl⟩:=h
      obtain ⟨p1,j,cp,kp,rfl,rfl,rfl⟩:=rS hl
      exact ay (Bs o.hand o.units.un (o.glb bN.1.2) (o.blt _ (by decide +kernel)) (ih _ _ h1).1 (aR bN.1.1)) (λ _=>rfl) λ _ _=>by simp only [evT,evE]
     ·cases h
    ·cases h
  ·
   rename_i ob f p
   split at h
   ·cases h
   ·rename_i hc0
    simp only [Option.map_eq_some_iff] at h
    obtain ⟨d1,h1,rfl⟩:=h
    exact ay (Dr (λ hx=>o.fld hx) (ih _ _ h1).1 (lq (by simpa using hc0:fc ob=false))) (λ _=>rfl) λ _ _=>by simp only [evT,evE]
  ·
   rename_i elt gens scope pos
   split at h
   ·cases h
   ·rename_i tg it ifs as gs
    split at h
    ·rename_i bN
     obtain ⟨rfl,gF,hco⟩:=bN
     split at h
     ·rename_i t d1 ds g h1 h2 h3 h4
      cases h
      obtain ⟨ok,oc⟩:=o.comp hco
      have ihc:∀cl' s₀ H₀ fp pn e d,cE n {c with names:=scope.names} e=some d->Tells (X.comp scope cl' s₀ H₀ fp pn) cl C e d:=λ cl' s₀ H₀ fp pn e d h=>gf n _ _ e d (oc cl' s₀ H₀ fp pn) h
      refine ay (Bh o.calm ok rfl (by simpa using ji h4) (qd o ih h2) (λ _ _ _ _ _=>mT (oc _ _ _ _ _) n _ _ h1) (λ _ _ _ _ _=>lC (ihc _ _ _ _ _) h3)
       (λ _ _ _ _ _ Δ=>oV (oc _ _ _ _ _) rfl (ihc _ _ _ _ _) h4 λ i=>by simp [Nat.add_comm]) (λ x=>ly gF x) (eval_ListComp _ _ _ _)) (λ _=>rfl) λ _ _=>by simp only [evT,evE]
     ·cases h
    ·cases h
  ·cases h
end D
end
section
namespace D
open PySem PySem.Spec PyProof.Rows L2
section
variable {env:Env}
theorem xU {o i:Expr} {pos:Pos} (h:isSlice i=false) (v:Value):assign (.Subscript o i pos) env v=(do
   let ov <-holding [v] (eval o env)
   let iv <-holding [v,ov] (eval i env)
   standAt pos
   holding [v,ov,iv] (setItem ov iv v)
   release [v,ov,iv] []):=by
 cases i<;>first | rfl | cases h
theorem xV {v tg:Expr} {l:Nat} (h:qb tg=false):swapsWithSole [tg] v l env=pure false:=by
 show swapsWith v (some tg) l env=pure false
 cases v<;>first | rfl | (cases tg<;>first | rfl | cases h)
theorem xW {v o:Expr} {f:Str} {p:Pos} {l:Nat}:swapsWith v (some (.Attribute o f p)) l env=pure false:=by
 cases v<;>rfl
theorem rT {v tg:Expr} (h:(k9 tg&&k9 v)=false):swappedStores [tg] v env=pure none:=by
 cases tg<;>first | rfl | (cases v<;>first | rfl | cases h)
theorem mU {x y:Str} {px py pt pt2:Pos} {kt k2:Nat} {a b:Expr} (bk:env.blockKind=.function) (k1:env.kindOf x=some .local) (k2':env.kindOf y=some .local) (hl:px.line=py.line) (hxy:x≠y) (ha:noStar a=true) (hb:noStar b=true)
  (f1:[a,b].all (foldedForSure 8)=false) (f2:[a,b].all (constantsAlone 8)=false):swappedStores [.Tuple [.Name x px,.Name y py] kt pt] (.Tuple [a,b] k2 pt2) env=pure (some [x,y]):=by
 have hsa:∀(f:Expr->Bool),(∀e,noStar e=true->f e=false)->[a,b].any f=false:=λ f h=>by simp [h a ha,h b hb]
 have hfm:∀(f:Expr->Option Str),f (.Name x px)=some x->f (.Name y py)=some y->[Expr.Name x px,Expr.Name y py].filterMap f=[x,y]:=λ f h1 h2=>by simp [h1,h2]
 have e2:[x,y].eraseDups=[x,y]:=by
  rw [List.eraseDups_cons]
  have:(y==x)=false:=by simpa using hxy.symm
  simp [this,List.eraseDups_cons]
 unfold swappedStores
 simp only [bk,f1,f2]
 refine (if_neg (by simp)).trans ?_
 rw [hsa _ (λ e he=>by cases e<;>first | rfl | cases he)]
 refine (if_neg (by simp)).trans ?_
 rw [hfm _ (by simp [k1,Expr.pos]) (by simp [k2',Expr.pos,hl]),e2]
 rfl
end
theorem rV {c:Ci} {n:Nat} {v:Expr} {d:E} (hc:kZ v=true) (h:cE n c v=some d):∃elt gens scope pos,v=.ListComp elt gens scope pos:=by
 cases n with
 | zero=>cases h
 | succ n=>
  cases v with
  | ListComp elt gens scope pos=>exact ⟨_,_,_,_,rfl⟩
  | SetComp elt gens scope pos=>unfold cE at h; simp at h
  | DictComp k v gens scope pos=>unfold cE at h; simp at h
  | _=>cases hc
section
variable {X:L2.Cx} {cl:Cl} {C:D.Cx} {c:Ci}
theorem zf {f:Expr->Option A} (ih:∀e t,f e=some t->PG X e (SG X cl (evA C t))):∀{es:List Expr} {ts:As},cAs f es=some ts->
  PGs X es (SGs X cl (cz C ts))/\(assignEach es X.env).length=ts.len/\(assignEach es X.env).findIdx? (·.1)=none
 | [],_,h=>by cases h; exact ⟨uD,rfl,rfl⟩
 | e::es,ts,h=>by
  unfold cAs at h
  split at h
  ·rename_i hs
   split at h
   ·cases h
   ·rename_i d h1
    split at h
    ·cases h
    ·rename_i ds h2
     cases h
     obtain ⟨q1,q2,q3⟩:=zf ih h2
     have e1:=jg (env:=X.env) (es:=es) hs
     refine ⟨pZ (ih e d h1) q1 (by rw [e1]; rfl),?_,?_⟩
     ·rw [e1,List.length_cons,q2]; rfl
     ·rw [e1,List.findIdx?_cons]
      simp [q3]
  ·cases h
theorem zg (o:Ok X cl C c):∀(n:Nat) (e:Expr) (t:A),cA n c e=some t->PG X e (SG X cl (evA C t))
 | 0,_,_,h=>by cases h
 | n+1,e,t,h=>by
  unfold cA at h
  split at h
  ·simp only [Option.map_eq_some_iff] at h
   obtain ⟨i,hi,rfl⟩:=h
   obtain ⟨h1,h2,h3⟩:=dO o hi
   exact yU (ndX o) h1 h2 h3
  ·simp only [Option.map_eq_some_iff] at h
   obtain ⟨ts,hi,rfl⟩:=h
   obtain ⟨q1,q2,q3⟩:=zf (λ e t h=>zg o n e t h) hi
   exact yV o.calm q1 q2 q3
  ·split at h
   ·cases h
   ·rename_i hs
    split at h
    ·rename_i d1 d2 h1 h2
     cases h
     exact Dh (gf n X c _ _ o h1).1 (gf n X c _ _ o h2).1 (xU ((Bool.not_eq_true _).mp hs))
    ·cases h
  ·cases h
theorem mV {f:Stmt->Option S} (ih:∀s d,f s=some d->PS X s (SS X cl (evS C d))):∀{es:List Stmt} {ds:Ss},cSs f es=some ds->PSs X es (SS X cl (aE C ds))
 | [],_,h=>by cases h; exact A9
 | e::es,ds,h=>by
  unfold cSs at h
  split at h
  ·cases h
  ·rename_i d h1
   split at h
   ·cases h
   ·rename_i ds h2
    cases h
    exact xA (ih e d h1) (mV ih h2)
theorem uY (o:Ok X cl C c) {n:Nat} {x:Str} {p pos spos:Pos} {elt:Expr} {gens:List Comprehension} {scope:Scope} {i:Nat} {d:E} (ht:g7 c x=some i) (h:cE n c (.ListComp elt gens scope pos)=some d) :
  PS X (.Assign [.Name x p] (.ListComp elt gens scope pos) spos) (SS X cl (evS C (.asg (.pt (.var i)) d))):=by
 obtain ⟨h1,h2,h3⟩:=dO o ht
 have e:swapsWith (.ListComp elt gens scope pos) (some (.Name x p)) spos.line X.env=pure (X.env.blockKind==.function&&X.env.kindOf x==some .local&&p.line==(Expr.ListComp elt gens scope pos).pos.line&&!(scope.names.any λ (n,k)=>n==x&&(k==.local||k==.cell))):=rfl
 cases hb:(X.env.blockKind==.function&&X.env.kindOf x==some .local&&p.line==(Expr.ListComp elt gens scope pos).pos.line&&!(scope.names.any λ (n,k)=>n==x&&(k==.local||k==.cell))) with
 | false=>
  rw [hb] at e
  exact uE (ndX o) h1 h2 (gf n X c _ _ o h).1 e h3
 | true=>
  rw [hb] at e
  cases n with
  | zero=>cases h
  | succ n=>
   have ih:∀e d,cE n c e=some d->Tells X cl C e d:=λ e d h=>gf n X c e d o h
   unfold cE at h
   simp only [Option.map_eq_some_iff] at h
   obtain ⟨d,h,rfl⟩:=h
   have wrap:PS X (.Assign [.Name x p] (.ListComp elt gens scope pos) spos) (SS X cl (evS C (.asg (.pt (.var i)) d)))->PS X (.Assign [.Name x p] (.ListComp elt gens scope pos) spos) (SS X cl (evS C (.asg (.pt (.var i)) (wz c (.ListComp elt gens scope pos) d)))):=λ q=>by
    unfold wz
    split
    ·exact Bo q
    ·exact q
   refine wrap ?_
   split at h
   ·cases h
   ·rename_i tg it ifs as gs
    split at h
    ·rename_i bN
     obtain ⟨rfl,gF,hco⟩:=bN
     split at h
     ·rename_i t d1 ds g y1 y2 y3 y4
      cases h
      obtain ⟨ok,oc⟩:=o.comp hco
      have ihc:∀cl' s₀ H₀ fp pn e d,cE n {c with names:=scope.names} e=some d->Tells (X.comp scope cl' s₀ H₀ fp pn) cl C e d:=λ cl' s₀ H₀ fp pn e d h=>gf n _ _ e d (oc cl' s₀ H₀ fp pn) h
      exact xK o.calm (ndX o) h1 h2 ok (ji y4) (qd o ih y2) (λ _ _ _ _ _=>mT (oc _ _ _ _ _) n _ _ y1) (λ _ _ _ _ _=>lC (ihc _ _ _ _ _) y3)
       (λ _ _ _ _ _ Δ=>oV (oc _ _ _ _ _) rfl (ihc _ _ _ _ _) y4 λ i=>by simp [Nat.add_comm]) (λ x=>ly gF x) e h3
     ·cases h
    ·cases h
theorem xX {tg v a b:Expr} {x y:Str} {px py:Pos} (h:pairOf tg v=some (x,px,y,py,a,b)):∃kt pt k2 pt2,tg=.Tuple [.Name x px,.Name y py] kt pt/\v=.Tuple [a,b] k2 pt2:=by
 unfold pairOf at h
 split at h
 ·cases h; exact ⟨_,_,_,_,rfl,rfl⟩
 ·cases h
theorem xY (o:Ok X cl C c) {n:Nat} (ih:∀e d,cE n c e=some d->Tells X cl C e d) {tg v:Expr} {spos:Pos} {d:S} (h:Bt n c tg v=some d):PS X (.Assign [tg] v spos) (SS X cl (evS C d)):=by
 unfold Bt at h
 split at h
 ·cases h
 ·rename_i bN
  simp only [Bool.or_eq_true,Bool.not_eq_true',not_or,Bool.not_eq_false] at bN
  obtain ⟨⟨c1,c2⟩,c3⟩:=bN
  split at h
  ·rename_i t d1 y1 y2
   cases h
   exact Ba (ih _ _ y2).1 (zg o n _ _ y1) (xV ((Bool.not_eq_true _).mp c2)) (rT ((Bool.not_eq_true _).mp c1)) (by rw [jg c3]; rfl)
  ·cases h
theorem xZ (o:Ok X cl C c) (hsc:X.env.scope.names=c.names) (hkd:X.env.scope.kind=.function) {n:Nat} {tg v:Expr} {spos:Pos} {d:S} (h:Bu n c tg v=some d):PS X (.Assign [tg] v spos) (SS X cl (evS C d)):=by
 have ih:∀e d,cE n c e=some d->Tells X cl C e d:=λ e d h=>gf n X c e d o h
 unfold Bu at h
 split at h
 ·rename_i x p
  split at h
  ·rename_i i d1 y1 y2
   cases h
   obtain ⟨h1,h2,h3⟩:=dO o y1
   by_cases hc:kZ v=true
   ·obtain ⟨_,_,_,_,rfl⟩:=rV hc y2
    exact uY o y1 y2
   ·exact uE (ndX o) h1 h2 (ih _ _ y2).1 (qc ((Bool.not_eq_true _).mp hc)) h3
  ·cases h
 ·split at h
  ·rename_i d1 d2 y1 y2
   cases h
   exact Bp (λ hx=>o.fld hx) (ih _ _ y1).1 (ih _ _ y2).1 xW
  ·cases h
 ·
  split at h
  ·rename_i x px y py a b hpair
   obtain ⟨kt,pt,k2,pt2,rfl,rfl⟩:=xX hpair
   split at h
   ·rename_i bN
    simp only [Bool.and_eq_true,beq_iff_eq,bne_iff_ne,Bool.not_eq_true'] at bN
    obtain ⟨⟨⟨⟨⟨⟨⟨c1,c2⟩,c3⟩,c4⟩,c5⟩,c6⟩,c7⟩,c8⟩:=bN
    split at h
    ·rename_i i j d1 d2 y1 y2 y3 y4
     cases h
     obtain ⟨h1,h2,h3⟩:=dO o y1
     obtain ⟨g1,g2,g3⟩:=dO o y2
     have hij:i≠j:=by
      rintro rfl
      rw [h1] at g1
      exact c4 (Option.some.inj g1)
     have kx:X.env.scope.names.lookup x=some .local:=by rw [hsc]; exact c2
     have ky:X.env.scope.names.lookup y=some .local:=by rw [hsc]; exact c3
     have bk:X.env.blockKind=.function:=by
      unfold Env.blockKind
      rw [hkd]; split<;>rfl
     exact Bb o.calm (ndX o) h1 g1 hij kx ky (oF (ih _ _ y3).1 (oF (ih _ _ y4).1 yR (aR c6)) (aR c5)) (mU bk kx ky c1 c4 c5 c6 c7 c8) rfl
    ·cases h
   ·cases h
  ·
   exact xY o ih h
set_option maxHeartbeats 1000000 in
theorem zh (o:Ok X cl C c) (hsc:X.env.scope.names=c.names) (hkd:X.env.scope.kind=.function) (hp:PassesOwn (model X.prog X.w) X.A X.env X.xe):∀(n:Nat) (s:Stmt) (d:S),cS n c s=some d->PS X s (SS X cl (evS C d))
 | 0,_,_,h=>by cases h
 | n+1,s,d,h=>by
  have ih:∀e d,cE n c e=some d->Tells X cl C e d:=λ e d h=>gf n X c e d o h
  have ihs:∀s d,cS n c s=some d->PS X s (SS X cl (evS C d)):=λ s d h=>zh o hsc hkd hp n s d h
  unfold cS at h
  split at h
  ·split at h
   ·exact xZ o hsc hkd h
   ·cases h
  ·split at h
   ·cases h
   ·rename_i hc
    simp only [Option.map_eq_some_iff] at h
    obtain ⟨d1,h1,rfl⟩:=h
    exact xB (ih _ _ h1).1 (qc ((Bool.not_eq_true _).mp hc))
  ·split at h
   ·simp only [Option.map_eq_some_iff] at h
    obtain ⟨d1,h1,rfl⟩:=h
    exact Bc (ih _ _ h1).1
   ·cases h; exact xC
  ·split at h
   ·rename_i d1 x y y1 y2 y3
    cases h
    exact Di (ih _ _ y1).2 (mV ihs y2) (mV ihs y3)
   ·cases h
  ·split at h
   ·split at h
    ·cases h
    ·rename_i hs
     split at h
     ·rename_i t d1 x y1 y2 y3
      cases h
      exact Be hp o.calm (qd o ih y2) (mT o n _ _ y1) (mV ihs y3) (λ x=>ly ((Bool.not_eq_true _).mp hs) x)
     ·cases h
   ·cases h
  ·cases h; exact xD
  ·cases h; exact Bd
  ·cases h; exact xE
  ·cases h; exact uF
  ·cases h
end
end D
end
section
namespace D
open PySem PySem.Spec PyProof.Rows L2
mutual
noncomputable def ao:W->Bool
 | .tup xs=>ah xs
 | .fz xs=>ah xs
 | .obj _ _ vs=>ah vs
 | .ref _=>false
 | .non=>true
 | .bl _=>true
 | .int _=>true
 | .str _=>true
noncomputable def ah:List W->Bool
 | []=>true
 | x::r=>ao x&&ah r
end
mutual
noncomputable def shW (k:Nat):W->W
 | .tup xs=>.tup (jj k xs)
 | .fz xs=>.fz (jj k xs)
 | .obj c ks vs=>.obj c ks (jj k vs)
 | .ref n=>.ref (k+n)
 | .non=>.non
 | .bl b=>.bl b
 | .int i=>.int i
 | .str x=>.str x
noncomputable def jj (k:Nat):List W->List W
 | []=>[]
 | x::r=>shW k x::jj k r
end
noncomputable def Bv (k:Nat):List (Str×W)->List (Str×W)
 | []=>[]
 | (f,x)::r=>(f,shW k x)::Bv k r
noncomputable def shO (k:Nat):O->O
 | .lst xs=>.lst (jj k xs)
 | .ins c fs=>.ins c (Bv k fs)
 | .set ks=>.set ks
noncomputable def aA (f:List W->Mem->R W) (ws:List W) (m:Mem):R W:=
 if ah ws then match f ws [] with
  | .ok w m1=>if ao w then .ok w m else .ok (shW m.length w) (m++m1.map (shO m.length))
  | .no=>.no
 else f ws m
set_option genInjectivity false in
structure Pg where
 fns:List Fn
 cs:Cs
 fuel:Nat
noncomputable def runN (p:Pg):Nat->Nat->List W->Mem->R W
 | 0,_,_,_=>.no
 | n+1,f,ws,m=>match p.fns[f]? with
  | none=>.no
  | some d=>if ws.length=d.np then (aE ⟨λ f=>aA (runN p n f),p.fuel,p.cs⟩ d.body (cZ d.nl ws) m).bind outF else .no
theorem RW.pure {K:PySem.W.Frag} {β β':List Addr} {H:Hp} {w:W} {v:V} (q:RW K β H w v):ao w=true->RW K β' H w v:=
 RW.rec (motive_1:=λ w v _=>ao w=true->RW K β' H w v) (motive_2:=λ w v _=>ah w=true->RWs K β' H w v) (λ _=>.non) (λ b _=>.bl b) (λ b _=>.int b) (λ b _=>.str b) (λ h _ i e=>.tup h (i e)) (λ h _ i e=>.fz h (i e)) (λ h z _ i e=>.obj h z (i e)) (λ q e=>nomatch (show false=true from e)) (λ _=>.nil) (λ _ _ a b e=>.cons (a (Bool.and_eq_true_iff.mp e).1) (b (Bool.and_eq_true_iff.mp e).2)) q
theorem RWs.pure {K:PySem.W.Frag} {β β':List Addr} {H:Hp} {w:List W} {v:List V} (q:RWs K β H w v) (e:ah w=true):RWs K β' H w v:=by
 induction w generalizing v with
 | nil=>cases q; exact .nil
 | cons x w ih=>cases q with | cons a b=>exact .cons (a.pure (Bool.and_eq_true_iff.mp e).1) (ih b (Bool.and_eq_true_iff.mp e).2)
theorem RW.shift {K:PySem.W.Frag} {β γ:List Addr} {H:Hp} {w:W} {v:V} (q:RW K γ H w v):RW K (β++γ) H (shW β.length w) v:=
 RW.rec (motive_1:=λ w v _=>RW K (β++γ) H (shW β.length w) v) (motive_2:=λ w v _=>RWs K (β++γ) H (jj β.length w) v) .non .bl .int .str (λ h _ i=>.tup h i) (λ h _ i=>.fz h i) (λ h e _ i=>.obj h e i) (λ q=>.ref (by rw [List.getElem?_append_right (by omega),Nat.add_sub_cancel_left]; exact q)) .nil (λ _ _ a b=>.cons a b) q
theorem RWs.shift {K:PySem.W.Frag} {β γ:List Addr} {H:Hp} {w:List W} {v:List V} (q:RWs K γ H w v):RWs K (β++γ) H (jj β.length w) v:=by
 induction w generalizing v with
 | nil=>cases q; exact .nil
 | cons x w ih=>cases q with | cons a b=>exact .cons a.shift (ih b)
theorem RFs.shift {K:PySem.W.Frag} {β γ:List Addr} {H:Hp} {w:List (Str×W)} {v:List (Str×V)} (q:RFs K γ H w v):RFs K (β++γ) H (Bv β.length w) v:=by
 induction q with
 | nil=>exact .nil
 | cons a b ih=>exact .cons a.shift ih
theorem RO.shift {K:PySem.W.Frag} {cl:Cl} {β γ:List Addr} {H:Hp} {a:Addr} {o:O} (q:RO K cl γ H a o):RO K cl (β++γ) H a (shO β.length o):=by
 cases o with
 | lst ws=>obtain ⟨vs,e,t⟩:=q; exact ⟨vs,e,t.shift⟩
 | ins c fs=>obtain ⟨dx,fs',e,t⟩:=q; exact ⟨dx,fs',e,t.shift⟩
 | set ks=>exact q
theorem gG {K:PySem.W.Frag} {cl:Cl} {np:Nat} {f:List W->Mem->R W} {vs:List V} {H:Hp} {Q:VK} {E:XK} (h:spD K cl np (aA f) vs H Q E):spD K cl np f vs H Q E:=by
 obtain ⟨hl,β,m,ws,w,m',r,t,e,k⟩:=h
 unfold aA at e
 split at e
 ·rename_i hp
  split at e
  ·rename_i w1 m1 e1
   refine ⟨hl,[],[],ws,w1,m1,⟨rfl,List.nodup_nil,λ {n o a} h=>by simp at h⟩,t.pure hp,e1,fun β' H' v x r' q=>?_⟩
   have kp:∀{a:Addr} {o:HO},H a=some o->H' a=some o:=λ h=>x.keep h (by simp) (by simp)
   have x2:Ext β H β H':=⟨⟨[],by simp,by simp⟩,λ h _ _=>kp h⟩
   have r2:Rel K cl β m H':=⟨r.len,r.nd,λ h1 h2=>by
    have q:=r.obj h1 h2
    obtain ⟨u,e,_⟩:=q.ex
    exact q.mono r x2 ((kp e).trans e.symm)⟩
   split at e
   ·rename_i hw
    cases e
    exact k β H' v x2 r2 (q.pure hw)
   ·cases e
    obtain ⟨γ,hγ,fresh⟩:=x.pre
    rw [List.nil_append] at hγ
    subst hγ
    rw [<-r.len] at k
    refine k (β++β') H' v ⟨⟨β',rfl,fresh⟩,λ h _ _=>kp h⟩ ⟨by simp [r.len,r'.len],?_,λ {n o a} h1 h2=>?_⟩ q.shift
    ·rw [List.nodup_append]
     refine ⟨r.nd,r'.nd,λ a ha b hb=>?_⟩
     rintro rfl
     obtain ⟨u,e,_⟩:=r.ex ha
     rw [fresh a hb] at e; cases e
    ·by_cases hn:n < β.length
     ·rw [List.getElem?_append_left (by rw [<-r.len]; exact hn)] at h1
      rw [List.getElem?_append_left hn] at h2
      exact (r2.obj h1 h2).sub λ {n a} h=>by rw [List.getElem?_append_left (List.getElem?_eq_some_iff.mp h).1]; exact h
     ·rw [List.getElem?_append_right (by rw [<-r.len]; omega),List.getElem?_map] at h1
      rw [List.getElem?_append_right (by omega)] at h2
      simp only [Option.map_eq_some_iff] at h1
      obtain ⟨o',h1,rfl⟩:=h1
      rw [<-r.len] at h1
      exact (r'.obj h1 h2).shift
  ·cases e
 ·exact ⟨hl,β,m,ws,w,m',r,t,e,k⟩
theorem uZ {f:List W->Mem->R W} {ws:List W} {m m':Mem} {w:W} (h:aA f ws m=.ok w m'):∃m1 w1 m2,f ws m1=.ok w1 m2:=by
 unfold aA at h
 split at h
 ·split at h
  ·exact ⟨_,_,_,by assumption⟩
  ·cases h
 ·exact ⟨_,_,_,h⟩
section
variable {P:Program} {w:World} {K:PySem.W.Frag} {mg:Str->Option Value} {base:Heap} {fns:List (Str×(Nat×Nat))} {gl:List (Str×W)} {fz:List Pos} {p:Pg}
noncomputable def FD (K:PySem.W.Frag) (p:Pg) (fns:List (Str×(Nat×Nat))) (gl:List (Str×W)) (fz:List Pos) (i:Nat) (x:Str) (f:Addr) (fd:FuncData) (ps:List Str):Prop:=
 ∃(qual:Str) (st:Stmt) (N:List Str) (body:Ss),Fun K x qual st f fd/\iD N ps (aO st)/\cSs (cS 60 ⟨N,(aO st).names,fns,gl,p.cs,fz⟩) (cN st)=some body/\p.fns[i]?=some ⟨ps.length,N.length,body⟩/\Binds K fd ps []
structure FA (K:PySem.W.Frag) (mg:Str->Option Value) (p:Pg) (fns:List (Str×(Nat×Nat))) (gl:List (Str×W)) (fz:List Pos):Prop where
 blt:∀x∈jf,mg x=none
 glo:∀{x:Str} {w:W},gl.lookup x=some w->∃u v,mg x=some u/\RelV v u/\∀β H,RW K β H w v
 fn:∀{x:Str} {i np:Nat},fns.lookup x=some (i,np)->∃f fd ps,ps.length=np/\FD K p fns gl fz i x f fd ps/\mg x=some (.ref f)
 mth:∀{c x:Str} {i:Nat},p.cs.mths.lookup (c,x)=some i->∃f fd ps,FD K p fns gl fz i x f fd ps/\Cls K (aW K c)/\Meth K (aW K c) x f
 ini:∀{c:Str} {i:Nat},p.cs.ini.lookup c=some i->∃f fd ps,FD K p fns gl fz i "__init__" f fd ps/\Mk K (aW K c) f/\mg c=some (.ref (aW K c))
 fld:∀{c x:Str},p.cs.flds.contains (c,x)=true->Cls K (aW K c)/\ef K (aW K c) x
theorem RL.start {β:List Addr} {H:Hp} {ws:List W} {vs:List V} {N:List Str} (t:RWs K β H ws vs):RL K β H (cZ N.length ws) (L2.start N vs):=by
 refine ⟨?_,λ {i w} h=>?_⟩
 ·unfold cZ L2.start
  simp [t.length]
 ·unfold cZ at h
  by_cases hi:i < ws.length
  ·rw [List.getElem?_append_left (by simpa using hi),List.getElem?_map] at h
   simp only [Option.map_eq_some_iff] at h
   obtain ⟨w',h1,h2⟩:=h
   cases h2
   obtain ⟨v,e,q⟩:=t.get h1
   refine ⟨v,?_,q⟩
   unfold L2.start
   rw [List.getElem?_append_left (by rw [List.length_map,<-t.length]; exact hi),List.getElem?_map,e]
   rfl
  ·rw [List.getElem?_append_right (by simpa using hi),List.getElem?_replicate] at h
   split at h<;>cases h
theorem sound (A0:FA K mg p fns gl fz):∀(n:Nat) {i:Nat} {x:Str} {f:Addr} {fd:FuncData} {ps:List Str},FD K p fns gl fz i x f fd ps->dH P w K mg base CX0 (2*n) f fd ps (spD K ⟨P,w⟩ ps.length (runN p n i))
 | 0,i,x,f,fd,ps,h=>⟨λ vs H Q E q=>q.1,λ A outer s H args us vs Q E hr he hbb hv hs=>by
   obtain ⟨_,_,_,_,_,_,_,_,e,_⟩:=hs
   cases e⟩
 | n+1,i,x,f,fd,ps,h=>by
  obtain ⟨qual,st,N,body,F,S,hb,hi,hB⟩:=h
  refine F.ok (k:=2*n+1) S (λ vs H Q E h=>h.1) (λ cdv A outer s H vs Q E hr h=>?_)
  obtain ⟨hl,β,m,ws,wv,m',r,t,e,k⟩:=h
  have hln:∀{i':Nat} {x':Str} {f':Addr} {fd':FuncData} {ps':List Str},FD K p fns gl fz i' x' f' fd' ps'->∀ws m w m',aA (runN p n i') ws m=.ok w m'->ws.length=ps'.length:=λ hd ws m w m' hc=>by
   obtain ⟨_,_,_,_,_,_,_,hi',_⟩:=hd
   obtain ⟨m1,w1,m2,hc⟩:=uZ hc
   cases n with
   | zero=>cases hc
   | succ n=>
    simp only [runN,hi'] at hc
    split at hc
    ·assumption
    ·cases hc
  have o:Ok (nP CX0 P w K mg base N qual (aO st) f cdv A outer s H E).nox ⟨P,w⟩ ⟨λ f=>aA (runN p n f),p.fuel,p.cs⟩ ⟨N,(aO st).names,fns,gl,p.cs,fz⟩:=by
   refine ⟨rfl,S.nd,λ {x k} hk hv=>?_,λ {x k} hk hv=>?_,λ {x} hk=>hk,λ {x} hk=>hk,rfl,⟨hr.units,rfl,rfl,hr.gd⟩,hr.hd,A0.blt,λ {x i np} hx=>?_,A0.glo,rfl,A0.fld,λ {c x i} hx=>?_,λ {c i} hx=>?_⟩
   ·rcases hv with rfl | rfl | rfl
    ·exact .inl hk
    ·exact .inr (.inl hk)
    ·exact .inr (.inr hk)
   ·rcases hv with rfl | rfl
    ·exact ⟨.inl hk,.inl rfl⟩
    ·exact ⟨.inr hk,.inl rfl⟩
   ·obtain ⟨fa,fd,ps,h1,h2,h3⟩:=A0.fn hx
    have hkp:PySem.W.keepIn K (.ref fa)=true:=let ⟨_,_,_,_,F,_⟩:=h2; F.kp
    have hbd:Binds K fd ps []:=let ⟨_,_,_,_,_,_,_,_,z⟩:=h2; z
    exact ⟨2*n,fa,fd,ps,h1,hr.mono (by omega),h3,hkp,hbd,(sound A0 n h2).imp λ _ _ _ _=>gG⟩
   ·obtain ⟨fa,fd,ps,h2,h3,h4⟩:=A0.mth hx
    have hbd:Binds K fd ps []:=let ⟨_,_,_,_,_,_,_,_,z⟩:=h2; z
    exact ⟨2*n,fa,fd,ps,hr.mono (by omega),h3,h4,hbd,(sound A0 n h2).imp λ _ _ _ _=>gG,hln h2⟩
   ·obtain ⟨fa,fd,ps,h2,h3,h4⟩:=A0.ini hx
    have hbd:Binds K fd ps []:=let ⟨_,_,_,_,_,_,_,_,z⟩:=h2; z
    exact ⟨2*n,fa,fd,ps,hr,h3,h4,hbd,(sound A0 n h2).imp λ _ _ _ _=>gG,hln h2⟩
  refine ⟨_,mV (λ s d h=>zh o rfl S.kind PassesOwn.never 60 s d h) hb,?_⟩
  simp only [runN,hi] at e
  split at e
  ·obtain ⟨ff,m1,e1,e2⟩:=R.aa e
   refine ⟨β,cZ N.length ws,m,ff,m1,r,RL.start t,e1,fun β1 H1 x1 r1=>?_⟩
   cases ff with
   | nx ρ=>
    simp only [outF] at e2
    cases e2
    exact fun σ _=>k _ _ _ x1 r1 .non
   | rt w=>
    simp only [outF] at e2
    cases e2
    exact λ v q=>k _ _ _ x1 r1 q
   | bk ρ=>simp only [outF] at e2; cases e2
   | ct ρ=>simp only [outF] at e2; cases e2
  ·cases e
end
theorem u0 {l:PySem.W.OpenLaw} {q:Program} {loose:List Str} {XP:(Str->Option Value)->Heap->Prop} {YP:World->Heap->Prop} {d:DefRec} {K:Params->PySem.W.Frag} {p:Pg} {i:Nat} {x:Str}
  (hn:l.most=some 63) (hdf:d.params.defaults=[]) (hY:∀(w:World) (h:Heap),YP w h->(K w.params).In h)
  (F:∀(w:World) (mg:Str->Option Value) (fa:Addr) (h:Heap),(K w.params).In h->h.Ns mainGlobals mg->mg d.name=some (.ref fa)->
   ∃fd:FuncData,(∀(s:Shared) (u:Value),BindsTo s fd ⟨[u],[]⟩ [(x,u)])/\
    ∀base:Heap,(K w.params).In base->base.Ns mainGlobals mg->dH l.prog w (K w.params) mg base CX0 80 fa fd [x] (spD (K w.params) ⟨l.prog,w⟩ 1 (runN p 40 i)))
  (EX:∀ns:List Int,ns.length<=63->∃m',runN p 40 i [.fz (ns.map .int)] []=.ok (.bl true) m') :
  PySem.W.WalkO q loose XP YP l.row.toRowW d [] (λ f vs=>PySem.call f vs):=by
 refine L2.wW (n:=63) (k:=80) (x:=x) (CX:=λ _=>CX0) (sp:=λ w=>spD (K w.params) ⟨l.prog,w⟩ 1 (runN p 40 i)) hn (by decide) hdf ⟨rfl,by decide,by decide,rfl⟩ hY F (λ w H a ns hl hO hS=>?_) λ _ _ _ _ _ z=>z
 obtain ⟨m',e⟩:=EX ns hl
 have sf:SqF (K w.params) H a (ns.map V.int):=by
  rcases hS with (h | ⟨o,h⟩) | h
  ·rcases hO a with z | ⟨o,xs,z⟩
   ·rw [h] at z; cases z
   ·rw [h] at z; cases z
  ·exact .inl ⟨o,h⟩
  ·exact .inr h
 have ri:∀ns:List Int,RWs (K w.params) [] H (ns.map W.int) (ns.map V.int):=λ ns=>by
  induction ns with
  | nil=>exact .nil
  | cons n r ih=>exact .cons (.int n) ih
 refine ⟨rfl,[],[],[.fz (ns.map .int)],.bl true,m',⟨rfl,List.nodup_nil,λ {n o a} h=>by simp at h⟩,.cons (.fz sf (ri ns)) .nil,e,fun β' H' v _ _ q=>?_⟩
 cases q
 rfl
end D
end
section
namespace D
open PySem
theorem mW {α β:Type} [BEq α] [LawfulBEq α] {x:α} {b:β} {l:List (α×β)} (h:l.lookup x=some b):(x,b)∈l:=by
 induction l with
 | nil=>simp at h
 | cons p l ih=>
  obtain ⟨y,c⟩:=p
  rw [List.lookup_cons] at h
  split at h
  ·rename_i hb
   cases h
   rw [eq_of_beq hb]
   exact List.mem_cons_self
  ·exact List.mem_cons_of_mem _ (ih h)
abbrev Cn (p:Pg) (n:Nat):D.Cx:=⟨λ f=>aA (D.runN p n f),p.fuel,p.cs⟩
section
variable {get:Mem->Nat->Nx} {t:T} {test:Loc->Mem->R Bool} {body:Loc->Mem->List W->R (List W×Loc)} {bod:Loc->Mem->R F} {k i:Nat} {ρ ρ1 ρ2:Loc} {m m1 m2:Mem} {acc lD:List W} {x w:W}
theorem rX (h:get m i=.fin):bM get t test body k i ρ m acc=.ok (acc,ρ) m:=by unfold bM; rw [h]
theorem u5 (h:get m i=.it x) (hb:au t x ρ=some ρ1) (ht:test ρ1 m=.ok true m1) (he:body ρ1 m1 acc=.ok (lD,ρ2) m2):bM get t test body (k+1) i ρ m acc=bM get t test body k (i+1) ρ2 m2 lD:=by
 rw [bM,h]; simp only [hb,ht,R.bind,if_true,he]
theorem oW (h:get m i=.it x) (hb:au t x ρ=some ρ1) (ht:test ρ1 m=.ok false m1):bM get t test body (k+1) i ρ m acc=bM get t test body k (i+1) ρ1 m1 acc:=by
 rw [bM,h]; simp only [hb,ht,R.bind,Bool.false_eq_true,if_false]
theorem u6 (h:get m i=.fin):fC get t bod k i ρ m=.ok (.nx ρ) m:=by unfold fC; rw [h]
theorem x8 (h:get m i=.it x) (hb:au t x ρ=some ρ1) (he:bod ρ1 m=.ok (.nx ρ2) m2):fC get t bod (k+1) i ρ m=fC get t bod k (i+1) ρ2 m2:=by
 rw [fC,h]; simp only [hb,R.bind,he]
theorem x9 (h:get m i=.it x) (hb:au t x ρ=some ρ1) (he:bod ρ1 m=.ok (.ct ρ2) m2):fC get t bod (k+1) i ρ m=fC get t bod k (i+1) ρ2 m2:=by
 rw [fC,h]; simp only [hb,R.bind,he]
theorem mX {n:Nat} (I:Nat->Loc->Mem->Prop) (hs:∀i ρ m,i < n->I i ρ m->∃x ρ1 ρ2 m2,get m i=.it x/\au t x ρ=some ρ1/\(bod ρ1 m=.ok (.nx ρ2) m2\/bod ρ1 m=.ok (.ct ρ2) m2)/\I (i+1) ρ2 m2) (hf:∀ρ m,I n ρ m->get m n=.fin) :
  ∀(k i:Nat) (ρ:Loc) (m:Mem),i+k=n->I i ρ m->∃ρ' m',fC get t bod k i ρ m=.ok (.nx ρ') m'/\I n ρ' m'
 | 0,i,ρ,m,hi,h=>by
  have e:i=n:=by omega
  subst e
  exact ⟨ρ,m,u6 (hf ρ m h),h⟩
 | k+1,i,ρ,m,hi,h=>by
  obtain ⟨x,ρ1,ρ2,m2,h1,h2,h3,h4⟩:=hs i ρ m (by omega) h
  obtain ⟨ρ',m',e,h5⟩:=mX I hs hf k (i+1) ρ2 m2 (by omega) h4
  refine ⟨ρ',m',?_,h5⟩
  rcases h3 with h3 | h3
  ·rw [x8 h1 h2 h3,e]
  ·rw [x9 h1 h2 h3,e]
theorem bQ {n:Nat} (I:Nat->Loc->Mem->List W->Prop)
  (hs:∀i ρ m acc,i < n->I i ρ m acc->∃x ρ1,get m i=.it x/\au t x ρ=some ρ1/\((∃m1 lD ρ2 m2,test ρ1 m=.ok true m1/\body ρ1 m1 acc=.ok (lD,ρ2) m2/\I (i+1) ρ2 m2 lD)\/∃m1,test ρ1 m=.ok false m1/\I (i+1) ρ1 m1 acc))
  (hf:∀ρ m acc,I n ρ m acc->get m n=.fin) :
  ∀(k i:Nat) (ρ:Loc) (m:Mem) (acc:List W),i+k=n->I i ρ m acc->∃acc' ρ' m',bM get t test body k i ρ m acc=.ok (acc',ρ') m'/\I n ρ' m' acc'
 | 0,i,ρ,m,acc,hi,h=>by
  have e:i=n:=by omega
  subst e
  exact ⟨acc,ρ,m,rX (hf ρ m acc h),h⟩
 | k+1,i,ρ,m,acc,hi,h=>by
  obtain ⟨x,ρ1,h1,h2,⟨m1,lD,ρ2,m2,h3,h4,h5⟩ | ⟨m1,h3,h5⟩⟩:=hs i ρ m acc (by omega) h
  ·obtain ⟨a',ρ',m',e,h6⟩:=bQ I hs hf k (i+1) ρ2 m2 lD (by omega) h5
   exact ⟨a',ρ',m',by rw [u5 h1 h2 h3 h4,e],h6⟩
  ·obtain ⟨a',ρ',m',e,h6⟩:=bQ I hs hf k (i+1) ρ1 m1 acc (by omega) h5
   exact ⟨a',ρ',m',by rw [oW h1 h2 h3,e],h6⟩
end
theorem ai {C:Cx} {s:S} {r:Ss} {ρ ρ1:Loc} {m m1:Mem} (h:evS C s ρ m=.ok (.nx ρ1) m1):aE C (.cons s r) ρ m=aE C r ρ1 m1:=by simp only [aE,h,R.bind]
theorem bf {C:Cx} {s:S} {r:Ss} {ρ:Loc} {m m1:Mem} {w:W} (h:evS C s ρ m=.ok (.rt w) m1):aE C (.cons s r) ρ m=.ok (.rt w) m1:=by simp only [aE,h,R.bind]
theorem bq {p:Pg} {n f:Nat} {ws:List W} {m m1:Mem} {w:W} {d:Fn} (hd:p.fns[f]?=some d) (hl:ws.length=d.np) (h:aE (Cn p n) d.body (cZ d.nl ws) m=.ok (.rt w) m1):D.runN p (n+1) f ws m=.ok w m1:=by
 rw [D.runN,hd]; simp only [hl,if_true,h,R.bind,outF]
theorem gH {p:Pg} {n f:Nat} {ws:List W} {m m1:Mem} {ρ:Loc} {d:Fn} (hd:p.fns[f]?=some d) (hl:ws.length=d.np) (h:aE (Cn p n) d.body (cZ d.nl ws) m=.ok (.nx ρ) m1):D.runN p (n+1) f ws m=.ok .non m1:=by
 rw [D.runN,hd]; simp only [hl,if_true,h,R.bind,outF]
theorem u7 {C:Cx} {i:Nat} {e:E} {ρ:Loc} {m m1:Mem} {w:W} (h:evE C e ρ m=.ok w m1):evS C (.asg (.pt (.var i)) e) ρ m=.ok (.nx (ρ.set i (some w))) m1:=by simp only [evS,h,R.bind,evA,au]
theorem aM {C:Cx} {i:Nat} {e:E} {ρ ρ1:Loc} {m m1:Mem} {w:W} (h:evE C e ρ m=.ok w m1) (hs:ρ.set i (some w)=ρ1):evS C (.asg (.pt (.var i)) e) ρ m=.ok (.nx ρ1) m1:=by rw [u7 h,hs]
theorem oX {α:Type} {xs:List α} {i:Nat} (h:xs.Nodup) (hi:i < xs.length):xs[i]∉xs.take i:=λ hm=>by
 rw [<-List.take_append_drop i xs] at h
 exact (List.nodup_append.mp h).2.2 _ hm _ (List.mem_of_getElem? (i:=0) (by rw [List.getElem?_drop,Nat.add_zero,List.getElem?_eq_getElem hi])) rfl
theorem br {C:Cx} {e:E} {ρ:Loc} {m m1:Mem} {w:W} (h:evE C e ρ m=.ok w m1):evS C (.ret e) ρ m=.ok (.rt w) m1:=by simp only [evS,h,R.bind]
theorem bK {C:Cx} {e:E} {ρ:Loc} {m m1:Mem} {w:W} (h:evE C e ρ m=.ok w m1):evS C (.expr e) ρ m=.ok (.nx ρ) m1:=by simp only [evS,h,R.bind]
theorem jk {C:Cx} {o e:E} {f:Str} {ρ:Loc} {m m1 m2 m3:Mem} {w x:W} (h:evE C e ρ m=.ok w m1) (h2:evE C o ρ m1=.ok x m2) (h3:mz C.cs x f w m2=.ok () m3):evS C (.fas o f e) ρ m=.ok (.nx ρ) m3:=by simp only [evS,h,h2,h3,R.bind]
theorem Bw {C:Cx} {t:E} {a b:Ss} {ρ:Loc} {m m1:Mem} (h:evT C t ρ m=.ok true m1):evS C (.ife t a b) ρ m=aE C a ρ m1:=by simp only [evS,h,R.bind,if_true]
theorem d9 {C:Cx} {t:E} {a b:Ss} {ρ:Loc} {m m1:Mem} (h:evT C t ρ m=.ok false m1):evS C (.ife t a b) ρ m=aE C b ρ m1:=by simp only [evS,h,R.bind,Bool.false_eq_true,if_false]
theorem av {C:Cx} {ρ:Loc} {m:Mem}:aE C .nil ρ m=.ok (.nx ρ) m:=by simp only [aE]
theorem Bx {C:Cx} {t:T} {it:E} {b:Ss} {ρ:Loc} {m m1 m2:Mem} {s:Src} {f:F} (h:evI C it ρ m=.ok s m1) (h2:fC s.get t (fun ρ m=>aE C b ρ m) (s.len m1) 0 ρ m1=.ok f m2):evS C (.for_ t it b) ρ m=.ok f m2:=by simp only [evS,h,R.bind,h2]
theorem cD {C:Cx} {t:T} {it:E} {b:Ss} {ρ:Loc} {m m1:Mem} {s:Src} {n:Nat} (hI:evI C it ρ m=.ok s m1) (hn:s.len m1=n) (I:Nat->Loc->Mem->Prop) (h0:I 0 ρ m1)
  (hs:∀i ρ m,i < n->I i ρ m->∃x ρ1 ρ2 m2,s.get m i=.it x/\au t x ρ=some ρ1/\(aE C b ρ1 m=.ok (.nx ρ2) m2\/aE C b ρ1 m=.ok (.ct ρ2) m2)/\I (i+1) ρ2 m2) (hf:∀ρ m,I n ρ m->s.get m n=.fin) :
  ∃ρ' m',evS C (.for_ t it b) ρ m=.ok (.nx ρ') m'/\I n ρ' m':=by
 obtain ⟨ρ',m',h1,h2⟩:=mX (get:=s.get) (t:=t) (bod:=fun ρ m=>aE C b ρ m) I hs hf n 0 ρ m1 (by omega) h0
 exact ⟨ρ',m',Bx hI (by rw [hn]; exact h1),h2⟩
theorem cR {C:Cx} {t:T} {js:List Nat} {it:E} {ifs:Es} {g:G} {ρ ρ':Loc} {m m1 m2:Mem} {s:Src} {ws:List W} (h:evI C it ρ m=.ok s m1) (h2:bM s.get t (fun ρ m=>aF C ifs ρ m) (fun ρ m acc=>evG C g ρ m acc) (s.len m1) 0 (clr js ρ) m1 []=.ok (ws,ρ') m2):evE C (.comp (.gen t js it ifs g)) ρ m=.ok (.ref m2.length) (m2++[.lst ws]):=by
 simp only [evE,evG,h,R.bind,h2,new]
theorem iB {C:Cx} {e:E} {ρ:Loc} {m m1:Mem} {n:Nat} (he:evE C e ρ m=.ok (.int n) m1) (h:-(2^62)<=(n:Int)/\(n:Int) < 2^62):evI C (.rng e) ρ m=.ok (.rng 0 n) m1:=by
 simp only [evI,he,R.bind]
 rw [if_pos h,Int.toNat_natCast]
theorem bC {lo:Int} {n i:Nat} {m:Mem} (h:i < n):Src.get (.rng lo n) m i=.it (.int (lo+i)):=by simp only [Src.get,h,if_true]
theorem bz {lo:Int} {n i:Nat} {m:Mem} (h:¬i < n):Src.get (.rng lo n) m i=.fin:=by simp only [Src.get,h,if_false]
theorem aJ {xs:List W} {i:Nat} {m:Mem} (h:i < xs.length):Src.get (.tup xs) m i=.it xs[i]:=by simp only [Src.get,List.getElem?_eq_getElem h]
theorem aD {xs:List W} {i:Nat} {m:Mem} (h:¬i < xs.length):Src.get (.tup xs) m i=.fin:=by simp only [Src.get,List.getElem?_eq_none (Nat.le_of_not_lt h)]
theorem fS {s:Src} {i:Nat} {m:Mem} {w:W} (h:s.get m i=.it w):Src.get (.enm s) m i=.it (.tup [.int i,w]):=by simp only [Src.get,h]
theorem eL {s:Src} {i:Nat} {m:Mem} (h:s.get m i=.fin):Src.get (.enm s) m i=.fin:=by simp only [Src.get,h]
theorem ya {n:Nat} {xs:List W} {m:Mem} (h:m[n]?=some (.lst xs)) (i:Nat):Src.get (.lst n) m i=Src.get (.tup xs) m i:=by simp only [Src.get,getL,h]
theorem bO:∀ns:List Int,ah (ns.map W.int)=true
 | []=>rfl
 | n::r=>by simp [ah,ao,bO r]
theorem cL:∀ns:List Str,ah (ns.map W.str)=true
 | []=>rfl
 | n::r=>by simp [ah,ao,cL r]
theorem bg:∀{xs:List W},ah xs=true↔∀x∈xs,ao x=true
 | []=>by simp [ah]
 | x::r=>by simp [ah,bg (xs:=r)]
theorem g8 {α:Type} {f:α->W} (h:∀a,ao (f a)=true) (xs:List α):ah (xs.map f)=true:=bg.mpr λ x hx=>by
 obtain ⟨a,_,rfl⟩:=List.mem_map.mp hx
 exact h a
theorem Dw {xs ys:List W}:ah (xs++ys)=(ah xs&&ah ys):=by
 induction xs with
 | nil=>simp [ah]
 | cons x r ih=>simp [ah,ih,Bool.and_assoc]
mutual
theorem mY (g:Nat->Option W):∀{w:W},ao w=true->frW g w=some w
 | .non,_=>rfl
 | .bl _,_=>rfl
 | .int _,_=>rfl
 | .str _,_=>rfl
 | .tup xs,h=>by simp only [frW,cV g (by simpa only [ao] using h:ah xs=true)]; rfl
 | .fz xs,h=>by simp only [frW,cV g (by simpa only [ao] using h:ah xs=true)]; rfl
 | .obj c ks vs,h=>by simp only [frW,cV g (by simpa only [ao] using h:ah vs=true)]; rfl
 | .ref _,h=>by simp [ao] at h
theorem cV (g:Nat->Option W):∀{w:List W},ah w=true->dZ g w=some w
 | [],_=>rfl
 | x::r,h=>by
  simp only [ah,Bool.and_eq_true] at h
  simp only [dZ,mY g h.1,cV g h.2]
end
theorem u9 (k:Nat) {w:W}:ao w=true->gx k w=true:=
 W.rec (motive_1:=λ w=>ao w=true->gx k w=true) (motive_2:=λ w=>ah w=true->cY k w=true) (λ _=>rfl) (λ _ _=>rfl) (λ _ _=>rfl) (λ _ _=>rfl) (λ _ i e=>i e) (λ _ i e=>i e) (λ _ _ _ i e=>i e) (λ _ e=>nomatch (show false=true from e)) (λ _=>rfl) (λ _ _ a b e=>Bool.and_eq_true_iff.mpr ⟨a (Bool.and_eq_true_iff.mp e).1,b (Bool.and_eq_true_iff.mp e).2⟩) w
theorem bB (k:Nat) {w:List W} (e:ah w=true):cY k w=true:=by
 induction w with
 | nil=>rfl
 | cons x r ih=>exact Bool.and_eq_true_iff.mpr ⟨u9 k (Bool.and_eq_true_iff.mp e).1,ih (Bool.and_eq_true_iff.mp e).2⟩
theorem vc {k l:Nat} (hkl:k<=l) {w:W}:gx k w=true->gx l w=true:=
 W.rec (motive_1:=λ w=>gx k w=true->gx l w=true) (motive_2:=λ w=>cY k w=true->cY l w=true) (λ _=>rfl) (λ _ _=>rfl) (λ _ _=>rfl) (λ _ _=>rfl) (λ _ i e=>i e) (λ _ i e=>i e) (λ _ _ _ i e=>i e) (λ _ e=>decide_eq_true (Nat.lt_of_lt_of_le (of_decide_eq_true e) hkl)) (λ _=>rfl) (λ _ _ a b e=>Bool.and_eq_true_iff.mpr ⟨a (Bool.and_eq_true_iff.mp e).1,b (Bool.and_eq_true_iff.mp e).2⟩) w
theorem j8 {k l:Nat} (hkl:k<=l) {w:List W} (e:cY k w=true):cY l w=true:=by
 induction w with
 | nil=>rfl
 | cons x r ih=>exact Bool.and_eq_true_iff.mpr ⟨vc hkl (Bool.and_eq_true_iff.mp e).1,ih (Bool.and_eq_true_iff.mp e).2⟩
theorem j9 {k l:Nat} (hkl:k<=l) {o:O} (h:gy k o=true):gy l o=true:=by
 cases o with
 | lst xs=>exact j8 hkl h
 | ins c fs=>exact j8 hkl h
 | set ks=>rfl
noncomputable def Cm (m:Mem):Prop:=rB m.length m=true
theorem Cm.nil:Cm []:=rfl
theorem mZ {k:Nat} {m:Mem}:rB k m=true↔∀o∈m,gy k o=true:=by simp [rB,List.all_eq_true]
theorem Cm.set {m:Mem} {p:Nat} {o:O} (h:Cm m) (ho:gy m.length o=true):Cm (m.set p o):=by
 unfold Cm at h ⊢
 rw [List.length_set,mZ] at *
 intro x hx
 rcases List.mem_or_eq_of_mem_set hx with hx | rfl
 ·exact h x hx
 ·exact ho
theorem Cm.app {m l:Mem} (h:Cm m) (hl:∀o∈l,gy (m.length+l.length) o=true):Cm (m++l):=by
 unfold Cm at h ⊢
 rw [mZ] at *
 intro x hx
 rw [List.length_append]
 rcases List.mem_append.mp hx with hx | hx
 ·exact j9 (by omega) (h x hx)
 ·exact hl x hx
theorem Cm.push {m:Mem} {o:O} (h:Cm m) (ho:gy m.length o=true):Cm (m++[o]):=h.app λ x hx=>by
 rw [List.mem_singleton] at hx
 subst hx
 exact j9 (by simp) ho
theorem oY {C:Cx} {e:E} {ρ:Loc} {m m0 l:Mem} {w w1:W} (h:evE C e ρ m=.ok w (m0++l)) (hl:m0.length=m.length) (hm:Cm m0) (hw:frW (frG (m0++l) m0.length 8) w=some w1):evE C (.frz e) ρ m=.ok w1 m0:=by
 have ht:(m0++l).take m.length=m0:=by rw [<-hl,List.take_left']; rfl
 have hc:m.length<=(m0++l).length/\rB m.length ((m0++l).take m.length)=true:=⟨by rw [List.length_append]; omega,by rw [ht,<-hl]; exact hm⟩
 simp only [evE,h,rC]
 rw [if_pos hc,<-hl,hw]
 simp only [hl,ht]
theorem iE {C:Cx} {e:E} {ρ:Loc} {m m0 l:Mem} {xs:List W} {j:Nat} (h:evE C e ρ m=.ok (.ref j) (m0++l)) (hl:m0.length=m.length) (hm:Cm m0) (hj:m0.length<=j) (hx:(m0++l)[j]?=some (.lst xs)) (hp:ah xs=true):evE C (.frz e) ρ m=.ok (.fz xs) m0:=by
 refine oY h hl hm ?_
 simp only [frW,frG,hx,cV _ hp,Option.map_some]
 rw [if_neg (by omega)]
theorem bX {C:Cx} {e:E} {ρ:Loc} {m m0:Mem} {xs:List W} (h:evE C e ρ m=.ok (.ref m0.length) (m0++[.lst xs])) (hl:m0.length=m.length) (hm:Cm m0) (hp:ah xs=true):evE C (.frz e) ρ m=.ok (.fz xs) m0:=
 iE h hl hm (Nat.le_refl _) (by simp) hp
theorem yb {C:Cx} {e:E} {ρ:Loc} {m m0:Mem} {w:W} (h:evE C e ρ m=.ok w m0) (hl:m0.length=m.length) (hm:Cm m0) (hp:ao w=true):evE C (.frz e) ρ m=.ok w m0:=
 oY (l:=[]) (by rw [List.append_nil]; exact h) hl hm (mY _ hp)
theorem aX {f:List W->Mem->R W} {ws:List W} {m:Mem} (h:ah ws=false):aA f ws m=f ws m:=by simp [aA,h]
theorem aL {f:List W->Mem->R W} {ws:List W} {m m1:Mem} {w:W} (h:ah ws=true) (e:f ws []=.ok w m1) (hw:ao w=true):aA f ws m=.ok w m:=by simp [aA,h,e,hw]
theorem fh {f:List W->Mem->R W} {ws:List W} {m m1:Mem} {w:W} (h:ah ws=true) (e:f ws []=.ok w m1) (hw:ao w=false):aA f ws m=.ok (shW m.length w) (m++m1.map (shO m.length)):=by simp [aA,h,e,hw]
theorem set_same {m:Mem} {p:Nat} {o:O} (h:m[p]?=some o):m.set p o=m:=by
 apply List.ext_getElem?
 intro j
 by_cases e:p=j
 ·subst e
  rw [List.getElem?_set_self (List.getElem?_eq_some_iff.mp h).1,h]
 ·rw [List.getElem?_set_ne e]
theorem fj {α:Type} (l:List α):l.filter (λ _=>true)=l:=List.filter_eq_self.mpr λ _ _=>rfl
theorem fk {C:Cx} {get:Mem->Nat->Nx} {t:T} {ifs:Es} {e:E} {ρ:Loc} {m:Mem} {xs:List W} {B:W->Loc} {p:W->Bool} {g:W->W} (hget:∀j (h:j < xs.length),get m j=.it xs[j]) (EY:get m xs.length=.fin)
  (h0:∀x∈xs,au t x ρ=some (B x)) (h1:∀x∈xs,∀y∈xs,au t y (B x)=some (B y)) (ht:∀x∈xs,aF C ifs (B x) m=.ok (p x) m) (he:∀x∈xs,p x=true->evE C e (B x) m=.ok (g x) m) (hl:xs.length<=lim) :
  ∃ρ',bM get t (fun ρ m=>aF C ifs ρ m) (fun ρ m acc=>evG C (.elt e) ρ m acc) xs.length 0 ρ m []=.ok ((xs.filter p).map g,ρ') m:=by
 obtain ⟨acc,ρ',m',e1,h4,h2,h3⟩:=bQ (get:=get) (t:=t) (test:=fun ρ m=>aF C ifs ρ m) (body:=fun ρ m acc=>evG C (.elt e) ρ m acc) (n:=xs.length)
  (λ j ρ1 m1 acc=>(∀x∈xs,au t x ρ1=some (B x))/\m1=m/\acc=((xs.take j).filter p).map g) (λ j ρ1 m1 acc hj=>by
   rintro ⟨hb,rfl,rfl⟩
   have hx:=List.getElem_mem hj
   have htk:xs.take (j+1)=xs.take j++[xs[j]]:=by rw [List.take_add_one,List.getElem?_eq_getElem hj]; rfl
   refine ⟨xs[j],B xs[j],hget j hj,hb _ hx,?_⟩
   have h5:=ht _ hx
   cases hp:p xs[j] with
   | true=>
    rw [hp] at h5
    refine .inl ⟨m1,((xs.take (j+1)).filter p).map g,B xs[j],m1,h5,?_,h1 _ hx,rfl,rfl⟩
    have hlt:(((xs.take j).filter p).map g).length < lim:=by
     rw [List.length_map]
     have:=List.length_filter_le p (xs.take j)
     rw [List.length_take] at this
     omega
    simp only [evG,he _ hx hp,R.bind]
    rw [if_pos hlt,htk,List.filter_append,List.map_append]
    simp [hp]
   | false=>
    rw [hp] at h5
    refine .inr ⟨m1,h5,h1 _ hx,rfl,?_⟩
    rw [htk,List.filter_append]
    simp [hp]) (fun ρ1 m1 acc h=>by rw [h.2.1]; exact EY) xs.length 0 ρ m [] (by omega) ⟨h0,rfl,by simp⟩
 subst h2 h3
 exact ⟨ρ',by rw [e1,List.take_length]⟩
theorem comp_map {C:Cx} {i:Nat} {e:E} {ρ:Loc} {m:Mem} {xs:List W} {g:W->W} (h:∀x∈xs,evE C e (ρ.set i (some x)) m=.ok (g x) m) (hl:xs.length<=lim) :
  ∃ρ',bM (Src.get (.tup xs)) (.var i) (fun ρ m=>aF C .nil ρ m) (fun ρ m acc=>evG C (.elt e) ρ m acc) xs.length 0 ρ m []=.ok (xs.map g,ρ') m:=by
 obtain ⟨ρ',h'⟩:=fk (C:=C) (get:=Src.get (.tup xs)) (t:=.var i) (ifs:=.nil) (e:=e) (ρ:=ρ) (m:=m) (xs:=xs) (B:=λ x=>ρ.set i (some x)) (p:=λ _=>true) (g:=g) (λ j hj=>aJ hj) (aD (by omega)) (λ x _=>by simp only [au]) (λ x _ y _=>by simp only [au,List.set_set]) (λ x _=>by simp only [aF]) (λ x hx _=>h x hx) hl
 rw [fj] at h'
 exact ⟨ρ',h'⟩
theorem Dy {C:Cx} {i n:Nat} {e:E} {ρ:Loc} {m:Mem} {g:Nat->W} (h:∀j,j < n->evE C e (ρ.set i (some (.int j))) m=.ok (g j) m) (hl:n<=lim) :
  ∃ρ',bM (Src.get (.rng 0 n)) (.var i) (fun ρ m=>aF C .nil ρ m) (fun ρ m acc=>evG C (.elt e) ρ m acc) n 0 ρ m []=.ok ((List.range n).map g,ρ') m:=by
 have hlen:((List.range n).map λ j=>W.int (j:Nat)).length=n:=by simp
 obtain ⟨ρ',h'⟩:=fk (C:=C) (get:=Src.get (.rng 0 n)) (t:=.var i) (ifs:=.nil) (e:=e) (ρ:=ρ) (m:=m) (xs:=(List.range n).map λ j=>W.int (j:Nat)) (B:=λ x=>ρ.set i (some x)) (p:=λ _=>true) (g:=λ w=>match w with | .int j=>g j.toNat | _=>.non)
  (λ j hj=>by rw [bC (by simpa using hj)]; simp) (bz (by simp)) (λ x _=>by simp only [au]) (λ x _ y _=>by simp only [au,List.set_set]) (λ x _=>by simp only [aF]) (λ x hx _=>by
   obtain ⟨j,hj,rfl⟩:=List.mem_map.mp hx
   have:=h j (List.mem_range.mp hj)
   simpa using this) (by rw [hlen]; exact hl)
 rw [hlen,fj] at h'
 refine ⟨ρ',h'.trans ?_⟩
 simp [Function.comp_def]
theorem bF {C:Cx} {ρ:Loc} {m:Mem} (i:Nat):evE C (.var i) ρ m=(match ρ[i]? with
   | some (some w)=>.ok w m
   | _=>.no):=by simp only [evE]<;>rfl
theorem gg {C:Cx} {ρ:Loc} {m:Mem} (w:W):evE C (.cst w) ρ m=(.ok w m):=by simp only [evE]<;>rfl
theorem vd {C:Cx} {ρ:Loc} {m:Mem} (op:Operator) (a b:E):evE C (.bin op a b) ρ m=((evE C a ρ m).bind λ x m=>(evE C b ρ m).bind λ y m=>binop op x y m):=by simp only [evE]<;>rfl
theorem zj {C:Cx} {ρ:Loc} {m:Mem} (a:E):evE C (.neg a) ρ m=((evE C a ρ m).bind λ x m=>match x with
   | .int i=>.ok (.int (-i)) m
   | _=>.no):=by simp only [evE]<;>rfl
theorem Dz {C:Cx} {ρ:Loc} {m:Mem} (a:E):evE C (.not a) ρ m=((evE C a ρ m).bind λ x m=>match x with
   | .bl b=>.ok (.bl (!b)) m
   | _=>.no):=by simp only [evE]<;>rfl
theorem zk {C:Cx} {ρ:Loc} {m:Mem} (a b:E):evE C (.and a b) ρ m=((evE C a ρ m).bind λ x m=>match x with
   | .bl c=>if c then evE C b ρ m else .ok (.bl false) m
   | _=>.no):=by simp only [evE]<;>rfl
theorem DA {C:Cx} {ρ:Loc} {m:Mem} (op:CmpOp) (a b:E):evE C (.cmp op a b) ρ m=((evE C a ρ m).bind λ x m=>(evE C b ρ m).bind λ y m=>(aq op x y m).bind λ c m=>.ok (.bl c) m):=by simp only [evE]<;>rfl
theorem yc {C:Cx} {ρ:Loc} {m:Mem} (o1 o2:CmpOp) (a b c:E):evE C (.chain o1 o2 a b c) ρ m=((evE C a ρ m).bind λ x m=>(evE C b ρ m).bind λ y m=>(aq o1 x y m).bind λ k m=>
    if k then (evE C c ρ m).bind λ z m=>(aq o2 y z m).bind λ k m=>.ok (.bl k) m else .ok (.bl false) m):=by simp only [evE]<;>rfl
theorem ve {C:Cx} {ρ:Loc} {m:Mem} (es:Es):evE C (.tup es) ρ m=((aI C es ρ m).bind λ ws m=>if ws.length<=lim then .ok (.tup ws) m else .no):=by simp only [evE]<;>rfl
theorem DB {C:Cx} {ρ:Loc} {m:Mem} (es:Es):evE C (.lst es) ρ m=((aI C es ρ m).bind λ ws m=>if ws.length<=lim then new (.lst ws) m else .no):=by simp only [evE]<;>rfl
theorem g9 {C:Cx} {ρ:Loc} {m:Mem} (a b:E):evE C (.idx a b) ρ m=((evE C a ρ m).bind λ x m=>(evE C b ρ m).bind λ y m=>aQ x y m):=by simp only [evE]<;>rfl
theorem DC {C:Cx} {ρ:Loc} {m:Mem} (a:E) (lo hi:Oe):evE C (.slc a lo hi) ρ m=((evE C a ρ m).bind λ x m=>(evO C lo ρ m).bind λ l m=>(evO C hi ρ m).bind λ u m=>fY x l u m):=by simp only [evE]<;>rfl
theorem jl {C:Cx} {ρ:Loc} {m:Mem} (f:Nat) (es:Es):evT C (.call f es) ρ m=(evE C (.call f es) ρ m).bind λ w m=>D.truthy m w:=by simp only [evT,evE]<;>rfl
theorem dY {C:Cx} {ρ:Loc} {m:Mem} (b:B) (es:Es):evE C (.blt b es) ρ m=((aI C es ρ m).bind λ ws m=>aP b ws m):=by simp only [evE]<;>rfl
theorem m8 {C:Cx} {ρ:Loc} {m:Mem} (b:B) (es:Es):evT C (.blt b es) ρ m=(evE C (.blt b es) ρ m).bind λ w m=>D.truthy m w:=by simp only [evT,evE]<;>rfl
theorem DE {C:Cx} {ρ:Loc} {m:Mem} (a:E) (t:String):evE C (.isI a t) ρ m=((evE C a ρ m).bind λ x m=>match fB m t x with
   | some b=>.ok (.bl b) m
   | none=>.no):=by simp only [evE]<;>rfl
theorem vf {C:Cx} {ρ:Loc} {m:Mem} (a:E) (t:String):evT C (.isI a t) ρ m=(evE C (.isI a t) ρ m).bind λ w m=>D.truthy m w:=by simp only [evT,evE]<;>rfl
theorem By {C:Cx} {ρ:Loc} {m:Mem} (o:E) (name:String) (es:Es):evE C (.meth o name es) ρ m=((evE C o ρ m).bind λ x m=>if kdOf m x=kdM name then (aI C es ρ m).bind λ ws m=>aZ x name ws m else .no):=by simp only [evE]<;>rfl
theorem zl {C:Cx} {ρ:Loc} {m:Mem} (u:U) (a:E):evE C (.fus u a) ρ m=((evE C a ρ m).bind λ x m=>gY u x m):=by simp only [evE]<;>rfl
theorem vg {C:Cx} {ρ:Loc} {m:Mem} (c:Str) (es:Es):evE C (.make c es) ρ m=((aI C es ρ m).bind λ ws m=>gz C c ws m):=by simp only [evE]<;>rfl
theorem Fi {C:Cx} {ρ:Loc} {m:Mem} (o:E) (f:Str) (es:Es):evE C (.mth o f es) ρ m=((evE C o ρ m).bind λ x m=>match f6 C.cs x f m with
   | some i=>(aI C es ρ m).bind λ ws m=>C.call i (x::ws) m
   | none=>.no):=by simp only [evE]<;>rfl
theorem BA {C:Cx} {ρ:Loc} {m:Mem} :evE C (.set0) ρ m=(new (.set []) m):=by simp only [evE]<;>rfl
theorem DF {C:Cx} {ρ:Loc} {m:Mem} (a b:E):evT C (.and a b) ρ m=((evT C a ρ m).bind λ c m=>if c then evT C b ρ m else .ok false m):=by simp only [evT]<;>rfl
theorem gI {C:Cx} {ρ:Loc} {m:Mem} (a b:E):evT C (.or a b) ρ m=((evT C a ρ m).bind λ c m=>if c then .ok true m else evT C b ρ m):=by simp only [evT]<;>rfl
theorem eN {C:Cx} {ρ:Loc} {m:Mem} (a:E):evT C (.not a) ρ m=((evT C a ρ m).bind λ c m=>.ok (!c) m):=by simp only [evT]<;>rfl
theorem dB {C:Cx} {ρ:Loc} {m:Mem} (op:CmpOp) (a b:E):evT C (.cmp op a b) ρ m=((evE C a ρ m).bind λ x m=>(evE C b ρ m).bind λ y m=>aq op x y m):=by simp only [evT]<;>rfl
theorem yd {C:Cx} {ρ:Loc} {m:Mem} (o1 o2:CmpOp) (a b c:E):evT C (.chain o1 o2 a b c) ρ m=((evE C a ρ m).bind λ x m=>(evE C b ρ m).bind λ y m=>(aq o1 x y m).bind λ k m=>
   if k then (evE C c ρ m).bind λ z m=>aq o2 y z m else .ok false m):=by simp only [evT]<;>rfl
theorem bI {C:Cx} {ρ:Loc} {m:Mem}:aI C .nil ρ m=.ok [] m:=by simp only [aI]<;>rfl
theorem bh {C:Cx} {ρ:Loc} {m:Mem} (e:E) (es:Es):aI C (.cons e es) ρ m=((evE C e ρ m).bind λ w m=>(aI C es ρ m).bind λ ws m=>.ok (w::ws) m):=by simp only [aI]<;>rfl
theorem BB {C:Cx} {ρ:Loc} {m:Mem}:evO C .none ρ m=.ok none m:=by simp only [evO]<;>rfl
theorem BC {C:Cx} {ρ:Loc} {m:Mem} (e:E):evO C (.some e) ρ m=((evE C e ρ m).bind λ w m=>match w with
   | .int i=>.ok (some i) m
   | _=>.no):=by simp only [evO]<;>rfl
theorem aN {α β:Type} {a:α} {m:Mem} {f:α->Mem->R β}:(R.ok a m).bind f=f a m:=Eq.trans rfl rfl
theorem fG {C:Cx} {ρ:Loc} {m:Mem} (i:Nat):evI C (.var i) ρ m=(evE C (.var i) ρ m).bind toI:=by simp only [evI,evE]<;>rfl
theorem zm {C:Cx} {ρ:Loc} {m:Mem} (a b:E):evI C (.idx a b) ρ m=(evE C (.idx a b) ρ m).bind toI:=by simp only [evI,evE]<;>rfl
theorem vh {C:Cx} {ρ:Loc} {m:Mem} (f:Nat) (es:Es):evI C (.call f es) ρ m=(evE C (.call f es) ρ m).bind toI:=by simp only [evI,evE]<;>rfl
theorem DG {C:Cx} {ρ:Loc} {m:Mem} (a:E):evI C (.frz a) ρ m=(evE C (.frz a) ρ m).bind toI:=by simp only [evI,evE]<;>rfl
theorem DH {C:Cx} {ρ:Loc} {m:Mem} (w:W):evI C (.cst w) ρ m=(evE C (.cst w) ρ m).bind toI:=by simp only [evI,evE]<;>rfl
theorem dX:∀n:Nat,bools (List.replicate n (W.bl true))=some (List.replicate n true)
 | 0=>rfl
 | n+1=>by simp [List.replicate_succ,bools,dX n]
theorem all_true (n:Nat):(List.replicate n true).all id=true:=by simp
theorem iF {α:Type} (xs:List α) (w:W):(xs.map λ _=>w)=List.replicate xs.length w:=List.map_const' ..
theorem jm {m:Mem} {w:W} {xs:List W} (h:aC m w=some xs):∃s,srcOf m w=some s/\(∀i,s.get m i=Src.get (.tup xs) m i)/\s.len m=xs.length:=by
 cases w with
 | tup ys=>simp only [aC] at h; cases h; exact ⟨.tup xs,rfl,λ _=>rfl,rfl⟩
 | fz ys=>simp only [aC,getL] at h; cases h; exact ⟨.tup xs,rfl,λ _=>rfl,rfl⟩
 | ref n=>
  simp only [aC,getL] at h
  split at h
  ·rename_i ys e
   cases h
   exact ⟨.lst n,by simp [srcOf,getL,e],λ i=>ya e i,by simp [Src.len,getL,e]⟩
  ·cases h
 | _=>simp [aC,getL] at h
theorem bw {m:Mem} {w:W} {xs:List W} (h:getL m w=some xs):aC m w=some xs:=by
 cases w with
 | tup ys=>cases h
 | _=>exact h
theorem bR {f:List W->Mem->R W} {ws:List W} {m:Mem} {r:W} (hm:f ws m=.ok r m) (h0:ah ws=true->f ws []=.ok r []) (hr:ao r=true):aA f ws m=.ok r m:=by
 cases h:ah ws with
 | true=>exact aL h (h0 h) hr
 | false=>rw [aX h,hm]
theorem bS {m:Mem} {w:W} (h:ao w=true):getL [] w=getL m w:=by
 cases w with
 | ref n=>simp [ao] at h
 | _=>rfl
theorem cB {m:Mem} {w:W} (h:ao w=true):aC [] w=aC m w:=by
 cases w with
 | ref n=>simp [ao] at h
 | _=>rfl
theorem bD {m:Mem} {w:W} {xs:List W} (h:aC m w=some xs):aP .len [w] m=.ok (.int xs.length) m:=by
 cases w with
 | str z=>simp [aC,getL] at h
 | _=>simp only [aP,h]
theorem qe {α:Type} {xs:List α} {i:Nat} (h:i < xs.length):L2.atI xs (i:Int)=some xs[i]:=by
 have h1:(0:Int)<=i:=by omega
 have h2:(i:Int) < xs.length:=by omega
 simp only [L2.atI,L2.ixN,h1,h2,if_true,Option.bind_some,Int.toNat_natCast,List.getElem?_eq_getElem h]
theorem dG {m:Mem} {w:W} {xs:List W} {i:Nat} (h:aC m w=some xs) (hi:i < xs.length):aQ w (.int i) m=.ok xs[i] m:=by
 cases w with
 | str z=>simp [aC,getL] at h
 | _=>simp only [aQ,h,qe hi]
theorem lE {m:Mem} {w:W} {xs:List W} (h:aC m w=some xs):∃s,toI w m=.ok s m/\(∀i,s.get m i=Src.get (.tup xs) m i)/\s.len m=xs.length:=by
 obtain ⟨s,h1,h2,h3⟩:=jm h
 refine ⟨s,?_,h2,h3⟩
 have:ue m w=some s:=by
  cases w with
  | str z=>simp [aC,getL] at h
  | _=>exact h1
 simp only [toI,this]
theorem jn {m:Mem} {w:W} {xs:List W} {l:Mem} (h:aC m w=some xs):aC (m++l) w=some xs:=by
 cases w with
 | ref n=>
  simp only [aC,getL] at h ⊢
  split at h
  ·rename_i ys e
   rw [List.getElem?_append_left (List.getElem?_eq_some_iff.mp e).1,e]
   exact h
  ·cases h
 | _=>exact h
theorem gh {C:Cx} {i:Nat} {e it:E} {ρ:Loc} {m:Mem} {xs:List W} {s:Src} (hm:Cm m) (hI:evI C it ρ m=.ok s m) (hg:∀j,s.get m j=Src.get (.tup xs) m j) (hn:s.len m=xs.length) (hl:xs.length<=lim) {js:List Nat} (h:∀x∈xs,evE C e ((clr js ρ).set i (some x)) m=.ok (.bl true) m) :
  evE C (.blt .all (.cons (.frz (.comp (.gen (.var i) js it .nil (.elt e)))) .nil)) ρ m=.ok (.bl true) m:=by
 obtain ⟨ρ',hc⟩:=fk (C:=C) (get:=s.get) (t:=.var i) (ifs:=.nil) (e:=e) (ρ:=clr js ρ) (m:=m) (xs:=xs) (B:=λ x=>(clr js ρ).set i (some x)) (p:=λ _=>true) (g:=λ _=>.bl true) (λ j hj=>by rw [hg,aJ hj]) (by rw [hg]; exact aD (by omega)) (λ x _=>by simp only [au]) (λ x _ y _=>by simp only [au,List.set_set]) (λ x _=>by simp only [aF]) (λ x hx _=>h x hx) hl
 rw [fj,iF,<-hn] at hc
 have hf:=bX (cR (js:=js) (ifs:=.nil) (g:=.elt e) hI (by rw [hn]; rw [hn] at hc; exact hc)) rfl hm (bg.mpr λ x hx=>by rw [(List.mem_replicate.mp hx).2]; rfl)
 rw [dY,bh,hf]
 simp only [aN,bI,aP,getL,dX,all_true]
theorem vj {C:Cx} {t:T} {e it:E} {ρ:Loc} {m:Mem} {xs:List W} {s:Src} {B:W->Loc} {js:List Nat} (hm:Cm m) (hI:evI C it ρ m=.ok s m) (hg:∀j (h:j < xs.length),s.get m j=.it xs[j]) (hf:s.get m xs.length=.fin) (hn:s.len m=xs.length) (hl:xs.length<=lim)
  (h0:∀x∈xs,au t x (clr js ρ)=some (B x)) (h1:∀x∈xs,∀y∈xs,au t y (B x)=some (B y)) (h:∀x∈xs,evE C e (B x) m=.ok (.bl false) m) :
  evE C (.blt .any (.cons (.frz (.comp (.gen t js it .nil (.elt e)))) .nil)) ρ m=.ok (.bl false) m:=by
 obtain ⟨ρ',hc⟩:=fk (C:=C) (get:=s.get) (t:=t) (ifs:=.nil) (e:=e) (ρ:=clr js ρ) (m:=m) (xs:=xs) (B:=B) (p:=λ _=>true) (g:=λ _=>.bl false) hg hf h0 h1 (λ x _=>by simp only [aF]) (λ x hx _=>h x hx) hl
 rw [fj,iF,<-hn] at hc
 have hf:=bX (cR (js:=js) (ifs:=.nil) (g:=.elt e) hI (by rw [hn]; rw [hn] at hc; exact hc)) rfl hm (bg.mpr λ x hx=>by rw [(List.mem_replicate.mp hx).2]; rfl)
 have hb:∀n:Nat,bools (List.replicate n (W.bl false))=some (List.replicate n false):=λ n=>by
  induction n with
  | zero=>rfl
  | succ n ih=>simp [List.replicate_succ,bools,ih]
 rw [dY,bh,hf]
 simp only [aN,bI,aP,getL,hb]
 simp
theorem cU {C:Cx} {e:E} {ρ:Loc} {m m1:Mem} {b:Bool} (he:evT C e ρ m=(evE C e ρ m).bind λ w m=>D.truthy m w) (h:evE C e ρ m=.ok (.bl b) m1):evT C e ρ m=.ok b m1:=by rw [he,h]; rfl
theorem gi {p:Pg} {n:Nat} {ρ:Loc} {m:Mem} (f:Nat) (es:Es):evE (Cn p n) (.call f es) ρ m=(aI (Cn p n) es ρ m).bind λ ws m=>aA (D.runN p n f) ws m:=by simp only [evE]
theorem jq {p:Pg} {n:Nat} {ρ:Loc} {m:Mem} (o:E) (f:Str) (es:Es):evE (Cn p n) (.mth o f es) ρ m=(evE (Cn p n) o ρ m).bind λ x m=>match f6 p.cs x f m with
  | some i=>(aI (Cn p n) es ρ m).bind λ ws m=>aA (D.runN p n i) (x::ws) m
  | none=>.no:=by simp only [evE]<;>rfl
theorem BD {p:Pg} {n:Nat} {ρ:Loc} {m:Mem} (a:E) (f:Str):evE (Cn p n) (.fld a f) ρ m=(evE (Cn p n) a ρ m).bind λ x m=>gZ p.cs x f m:=by simp only [evE]
end D
end
section
namespace D
open PySem
abbrev pot (A B:Int):O:=.lst [.int A,.int B]
noncomputable def Pot (m:Mem) (p:Nat):Prop:=∃A B,m[p]?=some (pot A B)
noncomputable def PS (p:Nat) (m m':Mem):Prop:=∃A B,m'=m.set p (pot A B)
section
variable {m m' m'':Mem} {p q:Nat}
theorem Pot.refl (h:Pot m p):PS p m m:=let ⟨A,B,e⟩:=h; ⟨A,B,(set_same e).symm⟩
theorem PS.trans (h:PS p m m') (h':PS p m' m''):PS p m m'':=by
 obtain ⟨A,B,rfl⟩:=h
 obtain ⟨A',B',rfl⟩:=h'
 exact ⟨A',B',by rw [List.set_set]⟩
theorem PS.len (h:PS p m m'):m'.length=m.length:=by obtain ⟨A,B,rfl⟩:=h; simp
theorem PS.pot (h:PS p m m') (hp:Pot m p):Pot m' p:=by
 obtain ⟨A,B,rfl⟩:=h
 obtain ⟨A',B',e⟩:=hp
 exact ⟨A,B,List.getElem?_set_self (List.getElem?_eq_some_iff.mp e).1⟩
theorem PS.cm (h:PS p m m') (hm:Cm m):Cm m':=by obtain ⟨A,B,rfl⟩:=h; exact hm.set rfl
theorem PS.ne (h:PS p m m') (hq:p≠q):m'[q]?=m[q]?:=by obtain ⟨A,B,rfl⟩:=h; exact List.getElem?_set_ne hq
theorem Pot.lt (h:Pot m p):p < m.length:=let ⟨_,_,e⟩:=h; (List.getElem?_eq_some_iff.mp e).1
theorem Pot.app {l:Mem} (h:Pot m p):Pot (m++l) p:=let ⟨A,B,e⟩:=h; ⟨A,B,by rw [List.getElem?_append_left (List.getElem?_eq_some_iff.mp e).1]; exact e⟩
end
noncomputable def Draws (f:List W->Mem->R W):Prop:=∀{m:Mem} {p:Nat} {many:Int},Pot m p->0 < many->many < 1073741824->∃d m',f [.ref p,.int many] m=.ok (.int d) m'/\PS p m m'/\0<=d/\d < many
theorem kc {α:Type} [DecidableEq α]:∀{l k:List α},l.Nodup->(∀x∈l,x∈k)->l.length<=k.length
 | [],_,_,_=>Nat.zero_le _
 | x::l,k,hn,h=>by
  have hx:=h x List.mem_cons_self
  have hn':=List.nodup_cons.mp hn
  have:=kc (l:=l) (k:=k.erase x) hn'.2 λ y hy=>(List.mem_erase_of_ne (λ z=>by subst z; exact hn'.1 hy)).mpr (h y (List.mem_cons_of_mem _ hy))
  rw [List.length_erase_of_mem hx] at this
  have:0 < k.length:=List.length_pos_of_mem hx
  simp
  omega
theorem qf {m:Mem} {z:Str} {n:Nat} (h:z.cps.all (· < 0x110000)=true):toD (n+1) m (.str z)=some (.str z):=by simp only [toD,h,if_true]
theorem kg {m:Mem} {n:Nat}:∀{ws:List Str},(∀z∈ws,z.cps.all (· < 0x110000)=true)->cg (toD (n+1) m) (ws.map .str)=some (ws.map PyData.str)
 | [],_=>rfl
 | z::r,h=>by
  simp only [List.map_cons,cg,qf (h z List.mem_cons_self),kg λ y hy=>h y (List.mem_cons_of_mem _ hy)]
theorem qg (a b:Str):PyData.eqv (.str a) (.str b)=decide (a=b):=by
 simp only [PyData.eqv]
 by_cases h:a=b<;>simp [h]
theorem nc {m:Mem} {z:Str} {ws:List Str} (hz:z.cps.all (· < 0x110000)=true) (hw:∀z∈ws,z.cps.all (· < 0x110000)=true):fX m (.str z) (ws.map .str)=.ok (decide (z∈ws)) m:=by
 simp only [fX,qf hz,kg hw]
 congr 1
 rw [List.any_map]
 induction ws with
 | nil=>simp
 | cons y r ih=>
  have:=ih λ z hz=>hw z (List.mem_cons_of_mem _ hz)
  simp only [List.any_cons,Function.comp,qg,List.mem_cons] at this ⊢
  rw [this]
  by_cases h:z=y
  ·subst h; simp
  ·have h':¬y=z:=λ e=>h e.symm
   simp [h,h']
theorem BE {n:Nat} {m:Mem} {xs:List W}:toD (n+1) m (.fz xs)=(cg (toD n m) xs).map .list:=Eq.trans rfl rfl
theorem lF {n:Nat} {m:Mem} {xs:List W}:toD (n+1) m (.tup xs)=(cg (toD n m) xs).map .tuple:=Eq.trans rfl rfl
theorem ye {n a:Nat} {m:Mem} {xs:List W} (h:m[a]?=some (.lst xs)):toD (n+1) m (.ref a)=(cg (toD n m) xs).map .list:=by
 simp only [toD,getL,h]
theorem ng {n:Nat} {m:Mem} {w:W} {xs:List W} (h:getL m w=some xs):toD (n+1) m w=(cg (toD n m) xs).map .list:=by
 cases w with
 | ref a=>
  simp only [getL] at h
  split at h
  ·rename_i ys e
   cases h
   exact ye e
  ·cases h
 | fz ys=>cases h; exact BE
 | _=>cases h
theorem gJ {m:Mem} {k:Nat}:∀ns:List Int,cg (toD (k+1) m) (ns.map .int)=some (ns.map PyData.int)
 | []=>rfl
 | a::r=>by simp only [List.map_cons,cg,gJ r]; rfl
theorem c9 {α β:Type} {f:W->Option β} {g:α->W} {h:α->β}:∀{xs:List α},(∀a∈xs,f (g a)=some (h a))->cg f (xs.map g)=some (xs.map h)
 | [],_=>rfl
 | a::r,hh=>by simp only [List.map_cons,cg,hh a List.mem_cons_self,c9 λ x hx=>hh x (List.mem_cons_of_mem _ hx)]
end D
end
section
namespace D
open PySem PySem.Spec PyProof.Rows L2
abbrev Tb:Type:=Str×Stmt
noncomputable def Tb.x (t:Tb):Str:=match t.2 with
 | .FunctionDef n _ _ _ _ _ _ _ _ _=>n
 | _=>""
noncomputable def Tb.ps (t:Tb):List Str:=(eX t.2).args.map (·.arg)
noncomputable def Tb.nm (t:Tb):List (Str×NameKind):=(aO t.2).names
noncomputable def Tb.N (t:Tb):List Str:=
 let a:=t.ps++(t.nm.filter λ p=>(p.2==.local||p.2==.cell)&&!t.ps.contains p.1).map (·.1)
 a++((aO t.2).more.filterMap λ p=>if p.1=("fast":Str) then (match p.2 with
  | .str x=>some x
  | _=>none) else none).filter λ x=>!a.contains x
noncomputable def DI:ScopeKind->Bool
 | .function=>true
 | _=>false
noncomputable def Tb.sc (t:Tb):Bool:=DI (aO t.2).kind&&!(aO t.2).isCoroutine&&!(aO t.2).isGenerator&&decide t.N.Nodup&&t.N.take t.ps.length==t.ps&&t.ps.all (λ x=>t.nm.lookup x==some .local||t.nm.lookup x==some .cell)&&t.nm.all λ y=>y.2 != .free
section
variable (K:PySem.W.Frag) (p:Pg) (fns:List (Str×(Nat×Nat))) (gl:List (Str×W)) (fz:List Pos) (T:List Tb)
noncomputable def Tb.a (t:Tb):Addr:=match (if t.1=("":Str) then PySem.W.nsIn K mainGlobals t.x else PySem.W.findIn K (.ref (aW K t.1)) t.x) with
 | some (some (.ref f))=>f
 | _=>0
noncomputable def Tb.get {α:Type} (t:Tb) (f:FuncData->α) (d:α):α:=match K.lookup (t.a K) with
 | some o=>match o.data with
  | .func g=>f g
  | _=>d
 | none=>d
noncomputable def Tb.fd (t:Tb):FuncData:=PySem.W.fnOf t.x (t.get K (·.qualname) "") (eX t.2) (cN t.2) (aO t.2) .none .none .none (t.get K (·.pyModule) .none) none (t.get K (·.code) .none) .none
noncomputable def isR (o:Option (Option Value)) (f:Addr):Bool:=match o with
 | some (some (.ref g))=>g==f
 | _=>false
noncomputable def isN (o:Option (Option Value)):Bool:=match o with
 | some none=>true
 | _=>false
noncomputable def isA (o:Option (Option Value)):Bool:=match o with
 | some (some (.builtin b))=>b=="object.__setattr__"
 | _=>false
noncomputable def isG (o:Option (Option Value)) (w:W):Bool:=match o with
 | some (some (.int i _))=>(match w with
  | .int j=>i==j
  | _=>false)
 | some (some (.str i _))=>(match w with
  | .str j=>i==j
  | _=>false)
 | _=>false
noncomputable def clB (C:Addr):Bool:=PySem.W.plainGet K C Str.empty&&PySem.W.hasDictIn K C&&PySem.W.plainOver K C&&isA (PySem.W.findIn K (.ref C) "__setattr__")
noncomputable def tAt (i:Nat) (x:Str) (q:Tb->Bool):Bool:=match T[i]? with
 | some t=>t.x==x&&q t
 | none=>false
noncomputable def chk:Bool:=
 (jf.all λ x=>isN (PySem.W.nsIn K mainGlobals x))&&(gl.all λ y=>isG (PySem.W.nsIn K mainGlobals y.1) y.2) &&
 (fns.all λ y=>tAt T y.2.1 y.1 λ t=>t.ps.length==y.2.2&&isR (PySem.W.nsIn K mainGlobals y.1) (t.a K)) &&
 (p.cs.mths.all λ y=>clB K (aW K y.1.1)&&tAt T y.2 y.1.2 λ t=>isR (PySem.W.findIn K (.ref (aW K y.1.1)) y.1.2) (t.a K)&&PySem.W.isFn K (.ref (t.a K))) &&
 (p.cs.ini.all λ y=>PySem.W.makesIn K (aW K y.1)&&PySem.W.keepIn K (.ref (aW K y.1))&&isR (PySem.W.nsIn K mainGlobals y.1) (aW K y.1)&&tAt T y.2 "__init__" λ t=>isR (PySem.W.findIn K (.ref (aW K y.1)) "__init__") (t.a K)&&PySem.W.isFn K (.ref (t.a K))) &&
 (p.cs.flds.all λ y=>clB K (aW K y.1)&&isN (PySem.W.findIn K (.ref (aW K y.1)) y.2)) &&
 T.all λ t=>PySem.W.keepIn K (.ref (t.a K))&&PySem.W.codeIn K (t.fd K).code (t.fd K).qualname
structure Stat:Prop where
 c:T.map (λ t=>(cSs (cS 60 ⟨t.N,t.nm,fns,gl,p.cs,fz⟩) (cN t.2)).map (Fn.mk t.ps.length t.N.length))=p.fns.map some
 s:T.all Tb.sc=true
 b:T.map (λ t q pm cd (f:Nat->Value)=>bindArgs (PySem.W.fnOf t.x q (eX t.2) (cN t.2) (aO t.2) .none .none .none pm none cd .none) ⟨(List.range t.ps.length).map f,[]⟩)=T.map λ t q pm cd f=>pure (t.ps.zip ((List.range t.ps.length).map f))
end
variable {K:PySem.W.Frag} {p:Pg} {fns:List (Str×(Nat×Nat))} {gl:List (Str×W)} {fz:List Pos} {T:List Tb}
theorem vm {α β:Type} {f g:α->β} {l:List α} (h:l.map f=l.map g) {i:Nat} {x:α} (hx:l[i]?=some x):f x=g x:=by
 have e:=congrArg (λ l=>l[i]?) h
 simpa [hx] using e
theorem jr {o:Option (Option Value)} {f:Addr} (h:isR o f=true):o=some (some (.ref f)):=by
 unfold isR at h
 split at h
 ·rw [eq_of_beq h]
 ·cases h
theorem vn {o:Option (Option Value)} (h:isN o=true):o=some none:=by
 unfold isN at h
 split at h
 ·rfl
 ·cases h
theorem BF {o:Option (Option Value)} (h:isA o=true):o=some (some (.builtin "object.__setattr__")):=by
 unfold isA at h
 split at h
 ·rw [eq_of_beq h]
 ·cases h
theorem vo {C:Addr} (h:clB K C=true):Cls K C:=by
 simp only [clB,Bool.and_eq_true] at h
 exact ⟨h.1.1.1,h.1.1.2,h.1.2,BF h.2⟩
theorem lG {i:Nat} {x:Str} {q:Tb->Bool} (h:tAt T i x q=true):∃t,T[i]?=some t/\t.x=x/\q t=true:=by
 unfold tAt at h
 split at h
 ·rename_i t e
  rw [Bool.and_eq_true] at h
  exact ⟨t,e,eq_of_beq h.1,h.2⟩
 ·cases h
theorem vp (us:List Value):(List.range us.length).map (λ i=>us.getD i .none)=us:=by
 apply List.ext_getElem
 ·simp
 ·intro i h1 h2
  simp [List.getD,h2]
theorem zo (S:Stat p fns gl fz T) {i:Nat} {t:Tb} (ht:T[i]?=some t) {us:List Value} (hl:us.length=t.ps.length):bindArgs (t.fd K) ⟨us,[]⟩=pure (t.ps.zip us):=by
 have z:=congrFun (congrFun (congrFun (congrFun (vm S.b ht) (t.get K (·.qualname) "")) (t.get K (·.pyModule) .none)) (t.get K (·.code) .none)) (λ i=>us.getD i .none)
 rw [<-hl,vp] at z
 exact z
theorem qh (S:Stat p fns gl fz T) (hf:T.map (λ t=>(K.lookup (t.a K)).map Obj.data)=T.map λ t=>some (.func (t.fd K))) (hk:T.all (λ t=>PySem.W.keepIn K (.ref (t.a K))&&PySem.W.codeIn K (t.fd K).code (t.fd K).qualname)=true)
  {i:Nat} {t:Tb} (ht:T[i]?=some t):FD K p fns gl fz i t.x (t.a K) (t.fd K) t.ps:=by
 have hm:=List.mem_of_getElem? ht
 have k:=List.all_eq_true.mp hk t hm
 rw [Bool.and_eq_true] at k
 have e:=vm hf ht
 rw [Option.map_eq_some_iff] at e
 obtain ⟨o,e1,e2⟩:=e
 obtain ⟨oc,od,da,osl⟩:=o
 cases e2
 have F:=Ay (st:=t.2) e1 k.2 k.1
 have s:=List.all_eq_true.mp S.s t hm
 simp only [Tb.sc,Bool.and_eq_true,Bool.not_eq_true',decide_eq_true_eq,List.all_eq_true,Bool.or_eq_true,beq_iff_eq,bne_iff_ne] at s
 have c:(cSs (cS 60 ⟨t.N,t.nm,fns,gl,p.cs,fz⟩) (cN t.2)).map (Fn.mk t.ps.length t.N.length)=p.fns[i]?:=by
  have z:=congrArg (λ l=>l[i]?) S.c
  simp only [List.getElem?_map,ht,Option.map_some] at z
  cases hp:p.fns[i]? with
  | none=>rw [hp] at z; cases z
  | some d=>rw [hp] at z; exact Option.some.inj z
 have hi:i < p.fns.length:=by
  have z:=congrArg List.length S.c
  simp only [List.length_map] at z
  have:=(List.getElem?_eq_some_iff.mp ht).1
  omega
 rw [List.getElem?_eq_getElem hi,Option.map_eq_some_iff] at c
 obtain ⟨b,c1,c2⟩:=c
 refine ⟨_,t.2,t.N,b,F,⟨?_,s.1.1.1.1.1.2,s.1.1.1.1.2,s.1.1.1.2,s.1.1.2,s.1.2,s.2⟩,c1,by rw [List.getElem?_eq_getElem hi,<-c2],Binds.all λ us hl=>?_⟩
 ·have z:=s.1.1.1.1.1.1
  unfold DI at z
  split at z
  ·assumption
  ·cases z
 ·exact zo S ht hl
theorem DJ {h:Heap} {mg:Str->Option Value} (X:K.In h) (G:h.Ns mainGlobals mg) (S:Stat p fns gl fz T) (hf:T.map (λ t=>(K.lookup (t.a K)).map Obj.data)=T.map λ t=>some (.func (t.fd K))) (hc:chk K p fns gl T=true):FA K mg p fns gl fz:=by
 simp only [chk,Bool.and_eq_true] at hc
 obtain ⟨⟨⟨⟨⟨⟨c1,c2⟩,c3⟩,c4⟩,c5⟩,c6⟩,c7⟩:=hc
 have c7:T.all (λ t=>PySem.W.keepIn K (.ref (t.a K))&&PySem.W.codeIn K (t.fd K).code (t.fd K).qualname)=true:=c7
 rw [List.all_eq_true] at c1 c2 c3 c4 c5 c6
 have kp:∀{i:Nat} {t:Tb},T[i]?=some t->PySem.W.keepIn K (.ref (t.a K))=true:=λ ht=>(Bool.and_eq_true_iff.mp (List.all_eq_true.mp c7 _ (List.mem_of_getElem? ht))).1
 refine ⟨λ x hx=>PySem.W.mg_none_of X G (vn (c1 x hx)),λ {x w} hx=>?_,λ {x i np} hx=>?_,λ {c x i} hx=>?_,λ {c i} hx=>?_,λ {c x} hx=>?_⟩
 ·have z:=c2 _ (lookup_mem hx)
  unfold isG at z
  split at z
  ·rename_i i t e
   split at z
   ·rename_i j ej
    cases ej
    cases eq_of_beq z; exact ⟨_,.int _,PySem.W.mg_of X G e,⟨_,rfl⟩,λ _ _=>.int _⟩
   ·cases z
  ·rename_i i t e
   split at z
   ·rename_i j ej
    cases ej
    cases eq_of_beq z; exact ⟨_,.str _,PySem.W.mg_of X G e,⟨_,rfl⟩,λ _ _=>.str _⟩
   ·cases z
  ·cases z
 ·obtain ⟨t,e1,rfl,e3⟩:=lG (c3 _ (lookup_mem hx))
  rw [Bool.and_eq_true] at e3
  exact ⟨t.a K,_,t.ps,eq_of_beq e3.1,qh S hf c7 e1,PySem.W.mg_of X G (jr e3.2)⟩
 ·have z:=c4 _ (mW hx)
  rw [Bool.and_eq_true] at z
  obtain ⟨t,e1,rfl,e3⟩:=lG z.2
  rw [Bool.and_eq_true] at e3
  exact ⟨t.a K,_,t.ps,qh S hf c7 e1,vo z.1,jr e3.1,e3.2,kp e1⟩
 ·have z:=c5 _ (lookup_mem hx)
  simp only [Bool.and_eq_true] at z
  obtain ⟨t,e1,e2,e3⟩:=lG z.2
  rw [Bool.and_eq_true] at e3
  exact ⟨t.a K,_,t.ps,e2▸qh S hf c7 e1,⟨z.1.1.1,jr e3.1,e3.2,z.1.1.2⟩,PySem.W.mg_of X G (jr z.1.2)⟩
 ·have z:=c6 _ (List.contains_iff_mem.mp hx)
  rw [Bool.and_eq_true] at z
  exact ⟨vo z.1,vn z.2⟩
theorem DK {l:PySem.W.OpenLaw} {w:World} {h:Heap} {mg:Str->Option Value} {fa:Addr} {i:Nat} {x:Str} {t:Tb} (X:K.In h) (G:h.Ns mainGlobals mg) (hfa:mg "law"=some (.ref fa)) (S:Stat p fns gl fz T) (hi:fns.lookup ("law":Str)=some (i,1)) (ht:T[i]?=some t) (hx:t.ps=[x])
  (hf:T.map (λ t=>(K.lookup (t.a K)).map Obj.data)=T.map λ t=>some (.func (t.fd K))) (hc:chk K p fns gl T=true) :
  ∃fd:FuncData,(∀(s:Shared) (v:Value),BindsTo s fd ⟨[v],[]⟩ [(x,v)])/\∀base:Heap,K.In base->base.Ns mainGlobals mg->dH l.prog w K mg base CX0 80 fa fd [x] (spD K ⟨l.prog,w⟩ 1 (runN p 40 i)):=by
 have hc':=hc
 simp only [chk,Bool.and_eq_true] at hc'
 obtain ⟨⟨⟨⟨⟨⟨c1,c2⟩,c3⟩,c4⟩,c5⟩,c6⟩,c7⟩:=hc'
 obtain ⟨t',e1,e2,e3⟩:=lG (List.all_eq_true.mp c3 _ (lookup_mem hi))
 cases ht.symm.trans e1
 rw [Bool.and_eq_true] at e3
 cases hfa.symm.trans (PySem.W.mg_of X G (jr e3.2))
 have z:=qh S hf c7 ht
 rw [hx] at z
 refine ⟨t.fd K,λ s v=>.of_eq ?_,λ base _ _=>sound (DJ X G S hf hc) 40 z⟩
 have z:=zo (K:=K) S ht (us:=[v]) (by rw [hx]; rfl)
 rw [hx] at z
 exact z
end D
end
section
namespace My
open PySem L2 D
noncomputable def EZ:Ss:=(.cons (.asg (.pt (.var 1)) (.frz (.comp (.gen (.var 3) [3,4] (.var 1) .nil (.gen (.var 4) [] (.var 2) .nil (.elt (.bin .Add (.var 3) (.tup (.cons (.var 4) .nil))))))))) .nil)
noncomputable def b0:Ss:=(.cons (.asg (.pt (.var 1)) (.lst (.cons (.tup .nil) .nil))) (.cons (.for_ (.var 2) (.var 0) EZ) (.cons (.ret (.var 1)) .nil)))
noncomputable def b1:Ss:=(.cons (.ret (.call 0 (.cons (.frz (.comp (.gen (.tup (.cons (.var 2) (.cons (.var 3) .nil))) [2,3] (.zip (.cons (.var 0) (.cons (.var 1) .nil))) .nil (.elt (.ife (.cmp .Eq (.var 2) (.var 3)) (.lst (.cons (.var 2) .nil)) (.lst (.cons (.cst (.int 0)) (.cons (.cst (.int 1)) .nil)))))))) .nil))) .nil)
noncomputable def b2:Ss:=(.cons (.ife (.or (.cmp .NotEq (.blt .len (.cons (.var 1) .nil)) (.blt .len (.cons (.mth (.var 0) "states" .nil) .nil))) (.not (.call 3 (.cons (.var 1) .nil)))) (.cons .never .nil) .nil) .nil)
noncomputable def b3:Ss:=(.cons (.asg (.pt (.var 1)) (.blt .len (.cons (.idx (.var 0) (.cst (.int 0))) .nil))) (.cons (.ife (.or (.not (.chain .LtE .LtE (.cst (.int 1)) (.var 1) (.cst (.int 4)))) (.not (.blt .all (.cons (.frz (.comp (.gen (.var 2) [2] (.var 0) .nil (.elt (.cmp .Eq (.blt .len (.cons (.var 2) .nil)) (.var 1)))))) .nil)))) (.cons (.ret (.cst (.bl false))) .nil) .nil) (.cons (.ret (.and (.blt .all (.cons (.frz (.comp (.gen (.var 2) [2,3] (.var 0) .nil (.gen (.var 3) [] (.var 2) .nil (.elt (.cmp .In (.var 3) (.tup (.cons (.cst (.int 0)) (.cons (.cst (.int 1)) .nil))))))))) .nil)) (.cmp .Eq (.fus .iT (.var 0)) (.blt .len (.cons (.var 0) .nil))))) .nil)))
noncomputable def BG:Ss:=(.cons (.ife (.or (.not (.call 5 (.cons (.var 3) .nil))) (.cmp .In (.var 3) (.var 1))) (.cons (.ret (.var 2)) .nil) .nil) (.cons (.expr (.meth (.var 1) "add" (.cons (.var 3) .nil))) .nil))
noncomputable def b4:Ss:=(.cons (.asg (.pt (.var 1)) .set0) (.cons (.for_ (.tup (.cons (.var 2) (.cons (.var 3) .nil))) (.enm (.var 0)) BG) (.cons (.ret (.cst .non)) .nil)))
noncomputable def b5:Ss:=(.cons (.ret (.and (.chain .LtE .LtE (.cst (.int 1)) (.blt .len (.cons (.var 0) .nil)) (.cst (.int 8))) (.blt .all (.cons (.frz (.comp (.gen (.var 1) [1] (.var 0) .nil (.elt (.chain .LtE .LtE (.cst (.str "a")) (.var 1) (.cst (.str "z"))))))) .nil)))) .nil)
noncomputable def b6:Ss:=(.cons (.expr (.call 15 (.cons (.var 1) (.cons (.var 2) (.cons (.var 3) (.cons (.var 4) (.cons (.var 5) .nil))))))) (.cons (.fas (.var 0) "key_list" (.frz (.blt .list (.cons (.var 1) .nil)))) (.cons (.fas (.var 0) "state_list" (.frz (.blt .list (.cons (.var 2) .nil)))) (.cons (.fas (.var 0) "lamp_list" (.frz (.blt .list (.cons (.var 3) .nil)))) (.cons (.fas (.var 0) "row_list" (.frz (.comp (.gen (.var 6) [6] (.var 4) .nil (.elt (.blt .tuple (.cons (.var 6) .nil))))))) (.cons (.fas (.var 0) "light_list" (.frz (.blt .list (.cons (.var 5) .nil)))) .nil))))))
noncomputable def b7:Ss:=(.cons (.ret (.frz (.blt .list (.cons (.fld (.var 0) "state_list") .nil)))) .nil)
noncomputable def b8:Ss:=(.cons (.ret (.frz (.blt .list (.cons (.fld (.var 0) "lamp_list") .nil)))) .nil)
noncomputable def b9:Ss:=(.cons (.ret (.call 12 (.cons (.fld (.var 0) "key_list") .nil))) .nil)
noncomputable def b10:Ss:=(.cons (.ret (.idx (.idx (.fld (.var 0) "row_list") (.var 1)) (.var 2))) .nil)
noncomputable def b11:Ss:=(.cons (.ret (.idx (.fld (.var 0) "light_list") (.var 1))) .nil)
noncomputable def b12:Ss:=(.cons (.ret (.bin .LShift (.cst (.int 1)) (.blt .len (.cons (.var 0) .nil)))) .nil)
noncomputable def b13:Ss:=(.cons (.ret (.frz (.comp (.gen (.var 2) [2] (.rng (.blt .len (.cons (.mth (.var 0) "states" .nil) .nil))) .nil (.elt (.tup (.cons (.var 2) (.cons (.mth (.var 0) "goes" (.cons (.var 2) (.cons (.var 1) .nil))) .nil)))))))) .nil)
noncomputable def b14:Ss:=(.cons (.asg (.pt (.var 2)) (.call 13 (.cons (.var 0) (.cons (.var 1) .nil)))) (.cons (.ret (.frz (.comp (.gen (.var 3) [3,4] (.var 2) .nil (.gen (.var 4) [] (.var 2) (.cons (.and (.cmp .Lt (.idx (.var 3) (.cst (.int 0))) (.idx (.var 4) (.cst (.int 0)))) (.cmp .NotEq (.idx (.var 3) (.cst (.int 1))) (.idx (.var 4) (.cst (.int 1))))) .nil) (.elt (.tup (.cons (.var 3) (.cons (.var 4) .nil))))))))) .nil))
noncomputable def b15:Ss:=(.cons (.asg (.pt (.var 5)) (.call 4 (.cons (.frz (.bin .Add (.bin .Add (.var 0) (.var 1)) (.var 2))) .nil))) (.cons (.ife (.cmp .IsNot (.var 5) (.cst .non)) (.cons .never .nil) .nil) (.cons (.expr (.call 16 (.cons (.var 0) (.cons (.var 1) (.cons (.var 2) .nil))))) (.cons (.expr (.call 17 (.cons (.cst (.str "row")) (.cons (.var 3) (.cons (.blt .len (.cons (.var 1) .nil)) (.cons (.call 12 (.cons (.var 0) .nil)) (.cons (.blt .len (.cons (.var 1) .nil)) .nil))))))) (.cons (.expr (.call 17 (.cons (.cst (.str "lights")) (.cons (.var 4) (.cons (.blt .len (.cons (.var 1) .nil)) (.cons (.blt .len (.cons (.var 2) .nil)) (.cons (.cst (.int 2)) .nil))))))) (.cons (.expr (.call 18 (.cons (.var 3) .nil))) .nil))))))
noncomputable def b16:Ss:=(.cons (.ife (.cmp .Gt (.blt .len (.cons (.var 0) .nil)) (.cst (.int 2))) (.cons .never .nil) .nil) (.cons (.ife (.not (.chain .LtE .LtE (.cst (.int 2)) (.blt .len (.cons (.var 1) .nil)) (.cst (.int 4)))) (.cons .never .nil) .nil) (.cons (.ife (.cmp .Gt (.blt .len (.cons (.var 2) .nil)) (.cst (.int 2))) (.cons .never .nil) .nil) .nil)))
noncomputable def vq:Ss:=(.cons (.ife (.or (.cmp .GtE (.var 5) (.blt .len (.cons (.var 1) .nil))) (.or (.cmp .NotEq (.blt .len (.cons (.idx (.var 1) (.var 5)) .nil)) (.var 3)) (.not (.blt .all (.cons (.frz (.comp (.gen (.var 6) [6] (.idx (.var 1) (.var 5)) .nil (.elt (.chain .LtE .Lt (.cst (.int 0)) (.var 6) (.var 4)))))) .nil))))) (.cons .never .nil) .nil) .nil)
noncomputable def b17:Ss:=(.cons (.for_ (.var 5) (.rng (.var 2)) vq) (.cons (.ife (.cmp .Gt (.blt .len (.cons (.var 1) .nil)) (.var 2)) (.cons .never .nil) .nil) .nil))
noncomputable def vt:Ss:=(.cons (.ife (.blt .any (.cons (.frz (.comp (.gen (.tup (.cons (.var 3) (.cons (.var 4) .nil))) [3,4] (.enm (.var 2)) .nil (.elt (.cmp .NotEq (.idx (.idx (.var 0) (.var 4)) (.var 3)) (.var 4)))))) .nil)) (.cons .never .nil) .nil) .nil)
noncomputable def b18:Ss:=(.cons (.for_ (.tup (.cons (.var 1) (.cons (.var 2) .nil))) (.enm (.var 0)) vt) .nil)
noncomputable def qj:Ss:=(.cons (.asg (.pt (.var 6)) (.call 20 (.cons (.var 1) (.cons (.var 4) (.cons (.var 5) .nil))))) (.cons (.ife (.cmp .IsNot (.var 6) (.cst .non)) (.cons (.expr (.meth (.var 2) "append" (.cons (.tup (.cons (.var 3) (.cons (.idx (.var 4) (.cst (.int 0))) (.cons (.idx (.var 5) (.cst (.int 0))) (.cons (.var 6) .nil))))) .nil))) .nil) .nil) .nil))
noncomputable def qk:Ss:=(.cons (.for_ (.tup (.cons (.var 4) (.cons (.var 5) .nil))) (.call 14 (.cons (.var 0) (.cons (.var 3) .nil))) qj) .nil)
noncomputable def b19:Ss:=(.cons (.expr (.call 2 (.cons (.var 0) (.cons (.var 1) .nil)))) (.cons (.asg (.pt (.var 2)) (.lst .nil)) (.cons (.for_ (.var 3) (.rng (.mth (.var 0) "letters" .nil)) qk) (.cons (.ret (.var 2)) .nil))))
noncomputable def b20:Ss:=(.cons (.asg (.tup (.cons (.pt (.var 3)) (.cons (.pt (.var 4)) .nil))) (.var 1)) (.cons (.asg (.tup (.cons (.pt (.var 5)) (.cons (.pt (.var 6)) .nil))) (.var 2)) (.cons (.asg (.pt (.var 7)) (.call 1 (.cons (.idx (.var 0) (.var 5)) (.cons (.idx (.var 0) (.var 6)) .nil)))) (.cons (.ret (.fus .mind (.frz (.comp (.gen (.var 8) [8] (.call 1 (.cons (.idx (.var 0) (.var 3)) (.cons (.idx (.var 0) (.var 4)) .nil))) (.cons (.cmp .In (.var 8) (.var 7)) .nil) (.elt (.var 8))))))) .nil))))
noncomputable def b21:Ss:=(.cons (.expr (.call 2 (.cons (.var 0) (.cons (.var 1) .nil)))) (.cons (.asg (.tup (.cons (.pt (.var 3)) (.cons (.pt (.var 4)) (.cons (.pt (.var 5)) (.cons (.pt (.var 6)) .nil))))) (.var 2)) (.cons (.ret (.tup (.cons (.call 22 (.cons (.idx (.var 1) (.var 4)) (.cons (.var 6) .nil))) (.cons (.call 22 (.cons (.idx (.var 1) (.var 5)) (.cons (.var 6) .nil))) .nil)))) .nil)))
noncomputable def DL:Ss:=(.cons (.ife (.cmp .NotEq (.idx (.var 0) (.var 3)) (.var 4)) (.cons (.expr (.meth (.var 2) "append" (.cons (.bin .Add (.slc (.var 1) .none (.some (.bin .Add (.var 3) (.cst (.int 1))))) (.slc (.var 0) (.some (.bin .Add (.var 3) (.cst (.int 1)))) .none)) .nil))) .nil) .nil) .nil)
noncomputable def b22:Ss:=(.cons (.asg (.pt (.var 2)) (.lst (.cons (.var 0) .nil))) (.cons (.for_ (.tup (.cons (.var 3) (.cons (.var 4) .nil))) (.enm (.var 1)) DL) (.cons (.ret (.var 2)) .nil)))
noncomputable def b23:Ss:=(.cons (.ife (.cmp .Lt (.var 1) (.blt .len (.cons (.var 0) .nil))) (.cons (.ret (.idx (.var 0) (.var 1))) .nil) .nil) (.cons (.ret (.cst (.int 0))) .nil))
noncomputable def b24:Ss:=(.cons (.asg (.pt (.var 2)) (.call 23 (.cons (.var 0) (.cons (.var 1) .nil)))) (.cons (.ret (.lst (.cons (.blt .max (.cons (.cst (.int 0)) (.cons (.bin .Sub (.blt .abs (.cons (.var 2) .nil)) (.bin .Pow (.cst (.int 10)) (.cst (.int 18)))) .nil))) (.cons (.bin .Add (.bin .Add (.bin .Mod (.blt .abs (.cons (.var 2) .nil)) (.cst (.int 2147483629))) (.bin .Mult (.cst (.int 977)) (.var 1))) (.cst (.int 1))) .nil)))) .nil))
noncomputable def b25:Ss:=(.cons (.ife (.cmp .Gt (.idx (.var 0) (.cst (.int 0))) (.cst (.int 0))) (.cons (.asg (.tup (.cons (.sub (.var 0) (.cst (.int 0))) (.cons (.pt (.var 2)) .nil))) (.blt .divmod (.cons (.idx (.var 0) (.cst (.int 0))) (.cons (.var 1) .nil)))) (.cons (.ret (.var 2)) .nil)) .nil) (.cons (.asg (.sub (.var 0) (.cst (.int 1))) (.bin .Mod (.bin .Add (.bin .Mult (.idx (.var 0) (.cst (.int 1))) (.cst (.int 48271))) (.cst (.int 12345))) (.cst (.int 2147483647)))) (.cons (.ret (.bin .Mod (.bin .FloorDiv (.bin .Mod (.bin .Mult (.idx (.var 0) (.cst (.int 1))) (.idx (.var 0) (.cst (.int 1)))) (.cst (.int 2147483629))) (.cst (.int 7))) (.var 1))) .nil)))
noncomputable def ql:Ss:=(.cons (.asg (.pt (.var 2)) (.bin .Add (.var 2) (.idx (.cst (.str "abcdefghijklmnopqrstuvwxyz")) (.call 25 (.cons (.var 0) (.cons (.cst (.int 26)) .nil)))))) .nil)
noncomputable def b26:Ss:=(.cons (.asg (.pt (.var 2)) (.cst (.str ""))) (.cons (.for_ (.var 3) (.rng (.bin .Add (.cst (.int 1)) (.call 25 (.cons (.var 0) (.cons (.cst (.int 8)) .nil))))) ql) (.cons (.ife (.cmp .In (.var 2) (.var 1)) (.cons (.asg (.pt (.var 4)) (.frz (.comp (.gen (.var 5) [5] (.cst (.str "abcdefghijklmnopqrstuvwxyz")) .nil (.elt (.bin .Add (.slc (.var 2) .none (.some (.cst (.int 7)))) (.var 5))))))) (.cons (.asg (.pt (.var 2)) (.idx (.frz (.comp (.gen (.var 6) [6] (.var 4) (.cons (.cmp .NotIn (.var 6) (.var 1)) .nil) (.elt (.var 6))))) (.cst (.int 0)))) .nil)) .nil) (.cons (.expr (.meth (.var 1) "append" (.cons (.var 2) .nil))) (.cons (.ret (.var 2)) .nil)))))
noncomputable def b27:Ss:=(.cons (.asg (.pt (.var 4)) (.frz (.comp (.gen (.var 5) [5] (.rng (.var 3)) (.cons (.cmp .Eq (.bin .Mod (.bin .FloorDiv (.var 1) (.bin .LShift (.cst (.int 1)) (.var 5))) (.cst (.int 2))) (.cst (.int 1))) .nil) (.elt (.var 5)))))) (.cons (.ife (.cmp .In (.var 2) (.var 4)) (.cons (.ret (.var 2)) .nil) .nil) (.cons (.ret (.idx (.var 4) (.call 25 (.cons (.var 0) (.cons (.blt .len (.cons (.var 4) .nil)) .nil))))) .nil)))
noncomputable def b28:Ss:=(.cons (.asg (.pt (.var 3)) (.frz (.comp (.gen (.var 4) [4] (.rng (.var 2)) .nil (.elt (.bin .Add (.cst (.int 1)) (.call 25 (.cons (.var 0) (.cons (.bin .Sub (.bin .LShift (.cst (.int 1)) (.var 1)) (.cst (.int 1))) .nil))))))))) (.cons (.ret (.frz (.comp (.gen (.var 5) [5] (.rng (.var 1)) .nil (.elt (.frz (.comp (.gen (.var 6) [6] (.var 3) .nil (.elt (.call 27 (.cons (.var 0) (.cons (.var 6) (.cons (.var 5) (.cons (.var 1) .nil)))))))))))))) .nil))
noncomputable def b29:Ss:=(.cons (.asg (.pt (.var 1)) (.lst .nil)) (.cons (.asg (.pt (.var 2)) (.bin .Add (.cst (.int 2)) (.call 25 (.cons (.var 0) (.cons (.cst (.int 3)) .nil))))) (.cons (.asg (.pt (.var 3)) (.frz (.lst (.cons (.call 25 (.cons (.var 0) (.cons (.cst (.int 3)) .nil))) (.cons (.var 2) (.cons (.call 25 (.cons (.var 0) (.cons (.cst (.int 3)) .nil))) .nil)))))) (.cons (.asg (.pt (.var 4)) (.frz (.call 28 (.cons (.var 0) (.cons (.var 2) (.cons (.bin .LShift (.cst (.int 1)) (.idx (.var 3) (.cst (.int 0)))) .nil)))))) (.cons (.asg (.pt (.var 5)) (.frz (.comp (.gen (.var 7) [7] (.var 3) .nil (.elt (.frz (.comp (.gen (.var 8) [8] (.rng (.var 7)) .nil (.elt (.call 26 (.cons (.var 0) (.cons (.var 1) .nil)))))))))))) (.cons (.asg (.pt (.var 6)) (.frz (.comp (.gen (.var 9) [9] (.rng (.var 2)) .nil (.elt (.blt .tuple (.cons (.frz (.comp (.gen (.var 10) [10] (.idx (.var 5) (.cst (.int 2))) .nil (.elt (.call 25 (.cons (.var 0) (.cons (.cst (.int 2)) .nil))))))) .nil))))))) (.cons (.ret (.tup (.cons (.frz (.make "Table" (.cons (.idx (.var 5) (.cst (.int 0))) (.cons (.idx (.var 5) (.cst (.int 1))) (.cons (.idx (.var 5) (.cst (.int 2))) (.cons (.var 4) (.cons (.var 6) .nil))))))) (.cons (.var 4) .nil)))) .nil)))))))
noncomputable def DM:Ss:=(.cons (.asg (.pt (.var 1)) (.bin .Add (.frz (.comp (.gen (.var 3) [3] (.var 1) .nil (.elt (.bin .Add (.var 3) (.tup (.cons (.cst (.int 0)) .nil))))))) (.frz (.comp (.gen (.var 3) [3] (.var 1) .nil (.elt (.bin .Add (.var 3) (.tup (.cons (.cst (.int 1)) .nil))))))))) .nil)
noncomputable def b30:Ss:=(.cons (.asg (.pt (.var 1)) (.lst (.cons (.tup .nil) .nil))) (.cons (.for_ (.var 2) (.rng (.var 0)) DM) (.cons (.ret (.blt .sorted (.cons (.var 1) .nil))) .nil)))
noncomputable def b31:Ss:=(.cons (.asg (.pt (.var 2)) (.bin .Add (.cst (.int 1)) (.blt .int (.cons (.cmp .Gt (.var 1) (.cst (.int 2))) .nil)))) (.cons (.asg (.pt (.var 3)) (.call 30 (.cons (.bin .Add (.var 2) (.call 25 (.cons (.var 0) (.cons (.bin .Sub (.cst (.int 5)) (.var 2)) .nil)))) .nil))) (.cons (.ret (.comp (.gen (.var 4) [4] (.rng (.var 1)) .nil (.elt (.meth (.var 3) "pop" (.cons (.call 25 (.cons (.var 0) (.cons (.blt .len (.cons (.var 3) .nil)) .nil))) .nil)))))) .nil)))
noncomputable def DN:Ss:=(.cons (.ife (.and (.cmp .Eq (.idx (.var 1) (.var 3)) (.idx (.var 2) (.var 3))) (.cmp .NotEq (.idx (.var 0) (.var 3)) (.idx (.var 1) (.var 3)))) (.cons (.ret (.cst (.bl false))) .nil) .nil) .nil)
noncomputable def b32:Ss:=(.cons (.for_ (.var 3) (.rng (.blt .len (.cons (.var 1) .nil))) DN) (.cons (.ret (.cst (.bl true))) .nil))
noncomputable def b33:Ss:=(.cons (.ret (.blt .len (.cons (.frz (.comp (.gen (.var 2) [2] (.rng (.blt .len (.cons (.var 0) .nil))) (.cons (.cmp .NotEq (.idx (.var 0) (.var 2)) (.idx (.var 1) (.var 2))) .nil) (.elt (.var 2))))) .nil))) .nil)
noncomputable def b34:Ss:=(.cons (.ret (.and (.isI (.var 0) "tuple") (.not (.blt .any (.cons (.frz (.comp (.gen (.var 1) [1] (.var 0) .nil (.elt (.isI (.var 1) "bool"))))) .nil))))) .nil)
noncomputable def qm:Ss:=(.cons (.ife (.or (.cmp .NotEq (.blt .len (.cons (.idx (.var 0) (.var 4)) .nil)) (.blt .len (.cons (.var 1) .nil))) (.cmp .NotEq (.call 33 (.cons (.idx (.var 0) (.bin .Sub (.var 4) (.cst (.int 1)))) (.cons (.idx (.var 0) (.var 4)) .nil))) (.cst (.int 1)))) (.cons (.ret (.cst (.bl false))) .nil) .nil) .nil)
noncomputable def b35:Ss:=(.cons (.ife (.or (.not (.isI (.var 0) "list")) (.or (.cmp .Eq (.var 0) (.frz (.lst .nil))) (.or (.cmp .NotEq (.idx (.var 0) (.cst (.int 0))) (.var 1)) (.cmp .NotEq (.idx (.var 0) (.neg (.cst (.int 1)))) (.var 2))))) (.cons (.ret (.cst (.bl false))) .nil) .nil) (.cons (.ife (.or (.cmp .NotEq (.blt .len (.cons (.var 0) .nil)) (.bin .Add (.cst (.int 1)) (.call 33 (.cons (.var 1) (.cons (.var 2) .nil))))) (.not (.blt .all (.cons (.frz (.comp (.gen (.var 5) [5] (.var 0) .nil (.elt (.call 34 (.cons (.var 5) .nil)))))) .nil)))) (.cons (.ret (.cst (.bl false))) .nil) .nil) (.cons (.for_ (.var 4) (.rng2 (.cst (.int 1)) (.blt .len (.cons (.var 0) .nil))) qm) (.cons (.ret (.blt .all (.cons (.frz (.comp (.gen (.var 5) [5] (.var 0) .nil (.elt (.call 32 (.cons (.var 5) (.cons (.var 1) (.cons (.var 3) .nil)))))))) .nil))) .nil))))
noncomputable def b36:Ss:=(.cons (.asg (.tup (.cons (.pt (.var 4)) (.cons (.pt (.var 5)) (.cons (.pt (.var 6)) (.cons (.pt (.var 7)) .nil))))) (.var 3)) (.cons (.asg (.pt (.var 8)) (.frz (.blt .list (.cons (.var 2) .nil)))) (.cons (.asg (.pt (.var 9)) (.call 21 (.cons (.var 0) (.cons (.var 2) (.cons (.var 3) .nil))))) (.cons (.ife (.or (.not (.isI (.var 9) "tuple")) (.or (.cmp .NotEq (.blt .len (.cons (.var 9) .nil)) (.cst (.int 2))) (.or (.cmp .NotEq (.var 2) (.var 8)) (.cmp .NotEq (.var 3) (.tup (.cons (.var 4) (.cons (.var 5) (.cons (.var 6) (.cons (.var 7) .nil))))))))) (.cons (.ret (.cst (.bl false))) .nil) .nil) (.cons (.ife (.not (.call 35 (.cons (.idx (.var 9) (.cst (.int 0))) (.cons (.idx (.var 2) (.var 5)) (.cons (.var 7) (.cons (.idx (.var 2) (.idx (.idx (.var 1) (.var 5)) (.var 4))) .nil)))))) (.cons (.ret (.cst (.bl false))) .nil) .nil) (.cons (.ife (.not (.call 35 (.cons (.idx (.var 9) (.cst (.int 1))) (.cons (.idx (.var 2) (.var 6)) (.cons (.var 7) (.cons (.idx (.var 2) (.idx (.idx (.var 1) (.var 6)) (.var 4))) .nil)))))) (.cons (.ret (.cst (.bl false))) .nil) .nil) (.cons (.asg (.pt (.var 10)) (.blt .repr (.cons (.var 9) .nil))) (.cons (.expr (.meth (.idx (.var 9) (.cst (.int 0))) "clear" .nil)) (.cons (.ife (.or (.cmp .Eq (.idx (.var 9) (.cst (.int 1))) (.frz (.lst .nil))) (.cmp .NotEq (.idx (.idx (.var 9) (.cst (.int 1))) (.cst (.int 0))) (.idx (.var 2) (.var 6)))) (.cons (.ret (.cst (.bl false))) .nil) .nil) (.cons (.expr (.meth (.idx (.var 9) (.cst (.int 1))) "clear" .nil)) (.cons (.ret (.cmp .Eq (.blt .repr (.cons (.call 21 (.cons (.var 0) (.cons (.var 2) (.cons (.var 3) .nil)))) .nil)) (.var 10))) .nil)))))))))))
noncomputable def qp:Ss:=(.cons (.ife (.not (.call 36 (.cons (.var 3) (.cons (.var 4) (.cons (.var 5) (.cons (.var 8) .nil)))))) (.cons (.ret (.cst (.bl false))) .nil) .nil) .nil)
noncomputable def qq:Ss:=(.cons (.asg (.pt (.var 7)) (.frz (.blt .list (.cons (.call 19 (.cons (.var 3) (.cons (.var 5) .nil))) .nil)))) (.cons (.for_ (.var 8) (.frz (.bin .Add (.var 7) (.slc (.var 7) .none (.some (.cst (.int 2)))))) qp) (.cons (.expr (.meth (.var 5) "reverse" .nil)) .nil)))
noncomputable def qt:Ss:=(.cons (.asg (.pt (.var 2)) (.call 24 (.cons (.var 0) (.cons (.var 1) .nil)))) (.cons (.asg (.tup (.cons (.pt (.var 3)) (.cons (.pt (.var 4)) .nil))) (.call 29 (.cons (.var 2) .nil))) (.cons (.asg (.pt (.var 5)) (.call 31 (.cons (.var 2) (.cons (.blt .len (.cons (.var 4) .nil)) .nil)))) (.cons (.for_ (.var 6) (.rng (.cst (.int 2))) qq) .nil))))
noncomputable def b37:Ss:=(.cons (.for_ (.var 1) (.rng (.blt .max (.cons (.cst (.int 1)) (.cons (.blt .min (.cons (.blt .len (.cons (.var 0) .nil)) (.cons (.cst (.int 4)) .nil))) .nil)))) qt) (.cons (.ret (.cst (.bl true))) .nil))
noncomputable def fe (x:Str) (i n:Nat):Str×(Nat×Nat):=(x,(i,n))
noncomputable def fns:List (Str×(Nat×Nat)):=[fe "picks" 0 1,fe "span" 1 2,fe "check_names" 2 2,fe "are_names" 3 1,fe "first_wrong_word" 4 1,fe "is_word" 5 1,fe "count_letters" 12 1,fe "goings_on" 13 2,fe "unlike_goings" 14 2,fe "check_table" 15 5,fe "check_many" 16 3,fe "check_each" 17 5,fe "check_settled" 18 1,fe "races" 19 2,fe "least_between" 20 3,fe "steps" 21 3,fe "steps_between" 22 2,fe "_law_cell_at" 23 2,fe "_law_pot" 24 2,fe "_law_digit" 25 2,fe "_law_word" 26 2,fe "_law_goal" 27 4,fe "_law_rows" 28 3,fe "_law_table" 29 1,fe "_law_all" 30 1,fe "_law_tags" 31 2,fe "_law_is_between" 32 3,fe "_law_unlike" 33 2,fe "_law_is_tag" 34 1,fe "_law_is_road" 35 4,fe "_law_right" 36 4,fe "law" 37 1]
noncomputable def gl:List (Str×W):=[("MOST_PLACES",(.int 4)),("MOST_SIGNS",(.int 8)),("MOST_KEYS",(.int 2)),("MOST_LAMPS",(.int 2)),("LEAST_STATES",(.int 2)),("MOST_STATES",(.int 4))]
noncomputable def fz:List Pos:=[⟨17,16,17,75⟩,⟨22,17,22,90⟩,⟨28,49,28,88⟩,⟨30,15,30,64⟩,⟨43,48,43,85⟩,⟨51,24,51,34⟩,⟨52,26,52,38⟩,⟨53,25,53,36⟩,⟨54,24,54,52⟩,⟨55,26,55,38⟩,⟨61,15,61,36⟩,⟨64,15,64,35⟩,⟨77,11,77,70⟩,⟨80,11,80,107⟩,⟨82,29,82,50⟩,⟨98,63,98,106⟩,⟨104,15,104,59⟩,⟨120,15,120,76⟩,⟨150,20,150,102⟩,⟨151,25,151,91⟩,⟨155,19,155,97⟩,⟨160,17,160,104⟩,⟨161,11,161,128⟩,⟨161,12,161,96⟩,⟨165,17,165,88⟩,⟨166,21,166,76⟩,⟨167,17,167,116⟩,⟨167,18,167,87⟩,⟨168,18,168,119⟩,⟨168,25,168,86⟩,⟨169,12,169,91⟩,⟨173,21,173,65⟩,⟨173,68,173,112⟩,⟨185,15,185,116⟩,⟨187,53,187,113⟩,⟨189,55,189,57⟩,⟨191,74,191,123⟩,⟨196,15,196,96⟩,⟨199,16,199,36⟩,⟨209,23,209,25⟩,⟨219,24,219,68⟩,⟨220,29,220,54⟩]
noncomputable def cs:Cs:=⟨[("Table","key_list"),("Table","state_list"),("Table","lamp_list"),("Table","row_list"),("Table","light_list")],[(("Table","states"),7),(("Table","lamps"),8),(("Table","letters"),9),(("Table","goes"),10),(("Table","lights"),11)],[("Table",6)]⟩
noncomputable def fuel:Nat:=1000
noncomputable def pg:Pg:=⟨[⟨1,5,b0⟩,⟨2,4,b1⟩,⟨2,2,b2⟩,⟨1,4,b3⟩,⟨1,4,b4⟩,⟨1,2,b5⟩,⟨6,7,b6⟩,⟨1,1,b7⟩,⟨1,1,b8⟩,⟨1,1,b9⟩,⟨3,3,b10⟩,⟨2,2,b11⟩,⟨1,1,b12⟩,⟨2,3,b13⟩,⟨2,5,b14⟩,⟨5,6,b15⟩,⟨3,3,b16⟩,⟨5,7,b17⟩,⟨1,5,b18⟩,⟨2,7,b19⟩,⟨3,9,b20⟩,⟨3,7,b21⟩,⟨2,5,b22⟩,⟨2,2,b23⟩,⟨2,3,b24⟩,⟨2,3,b25⟩,⟨2,7,b26⟩,⟨4,6,b27⟩,⟨3,7,b28⟩,⟨1,11,b29⟩,⟨1,4,b30⟩,⟨2,5,b31⟩,⟨3,4,b32⟩,⟨2,3,b33⟩,⟨1,2,b34⟩,⟨4,6,b35⟩,⟨4,11,b36⟩,⟨1,9,b37⟩],cs,fuel⟩
noncomputable def tf (i:Nat):Tb:=("",top i)
noncomputable def tm (c:Str) (i j:Nat):Tb:=(c,inClass (top i) j)
noncomputable def E1:List Tb:=[tf 6,tf 9,tf 10,tf 11,tf 16,tf 17,tm "Table" 21 0,tm "Table" 21 2,tm "Table" 21 3,tm "Table" 21 4,tm "Table" 21 5,tm "Table" 21 6,tf 22,tf 23,tf 24,tf 25,tf 26,tf 27,tf 28,tf 30,tf 31,tf 32,tf 33,tf 35,tf 36,tf 37,tf 38,tf 39,tf 40,tf 41,tf 42,tf 43,tf 44,tf 45,tf 46,tf 47,tf 48,tf 49]
theorem stat:Stat pg fns gl fz E1:=⟨by kernel_rfl,by kernel_rfl,by kernel_rfl⟩
end My
end
section
namespace My
open PySem D
def EVs:=And.intro (@bF) (And.intro (@gg) (And.intro (@vd) (And.intro (@zj) (And.intro (@Dz) (And.intro (@zk) (And.intro (@DA) (And.intro (@yc) (And.intro (@ve) (And.intro (@DB) (And.intro (@g9) (And.intro (@DC) (And.intro (@gi) (And.intro (@dY) (And.intro (@DE) (And.intro (@By) (And.intro (@zl) (And.intro (@BD) (And.intro (@vg) (And.intro (@jq) (And.intro (@BA) (And.intro (@bI) (And.intro (@bh) (And.intro (@BB) (And.intro (@BC) (@aN)))))))))))))))))))))))))
def ETs:=And.intro (@jl) (And.intro (@m8) (And.intro (@vf) (And.intro (@DF) (And.intro (@gI) (And.intro (@eN) (And.intro (@dB) (@yd)))))))
theorem gq0 {α:Type} {a:α} {l:List α}:(a::l)[0]?=some a:=rfl
theorem gq1 {α:Type} {a:α} {l:List α} {i:Nat}:(a::l)[i+1]?=l[i]?:=rfl
theorem gq2 {α:Type} {x a:α} {l:List α}:(x::l).set 0 a=a::l:=rfl
theorem gq3 {α:Type} {x a:α} {l:List α} {n:Nat}:(x::l).set (n+1) a=x::l.set n a:=rfl
structure Wd (z:Str):Prop where
 lo:1<=z.cps.size
 hi:z.cps.size<=8
 az:∀c∈z.cps.toList,97<=c/\c<=122
theorem vv (z:Str):z.length=z.cps.size:=rfl
theorem Wd.asc {z:Str} (h:Wd z):L2.asc z=true:=by
 unfold L2.asc
 rw [Array.all_eq_true]
 intro i hi
 have:=h.az z.cps[i] (by simp)
 simp
 omega
theorem leA {c:Nat} (h:97<=c/\c<=122):aq .LtE (.str "a") (.str ⟨#[c]⟩)=λ m=>.ok true m:=by
 funext m
 have:¬[c] < [97]:=by simp [List.cons_lt_cons_iff]; omega
 simp [aq]
 exact this
theorem leZ {c:Nat} (h:97<=c/\c<=122):aq .LtE (.str ⟨#[c]⟩) (.str "z")=λ m=>.ok true m:=by
 funext m
 have:¬[122] < [c]:=by simp [List.cons_lt_cons_iff]; omega
 simp [aq]
 exact this
theorem yf {n:Nat} {z:Str} (h:Wd z):D.runN pg (n+1) 5 [.str z] []=.ok (.bl true) []:=by
 refine bq (d:=⟨1,2,b5⟩) rfl rfl ?_
 show aE _ b5 [some (.str z),none] []=_
 have hI:evI (Cn pg n) (.var 0) [some (.str z),none] []=.ok (.tup (signs z)) []:=by simp [evI,R.bind,toI,ue,h.asc]
 obtain ⟨ρ',hc⟩:=comp_map (C:=Cn pg n) (i:=1) (e:=.chain .LtE .LtE (.cst (.str "a")) (.var 1) (.cst (.str "z"))) (ρ:=[some (.str z),none]) (m:=[]) (xs:=signs z) (g:=λ _=>.bl true) (λ x hx=>by
  obtain ⟨c,hc,rfl⟩:=List.mem_map.mp hx
  have:=h.az c hc
  simp [evE,R.bind,leA this,leZ this]) (by have:=h.hi; simp [signs,lim]; omega)
 have hf:=bX (C:=Cn pg n) (m:=[]) (m0:=[]) (cR (js:=[1]) (ifs:=.nil) hI hc) rfl Cm.nil (by rw [iF]; exact bg.mpr λ x hx=>by rw [(List.mem_replicate.mp hx).2]; rfl)
 rw [b5,bf (br (w:=.bl true) (m1:=[]) ?_)]
 have h1:(1:Int)<=z.length:=by have:=h.lo; rw [vv]; omega
 have h2:(z.length:Int)<=8:=by have:=h.hi; rw [vv]; omega
 have h3:z.length<=lim:=by have:=h.hi; rw [vv]; simp [lim]; omega
 have hb:bools ((signs z).map λ _=>W.bl true)=some (List.replicate (signs z).length true):=by rw [iF]; exact dX _
 simp [EVs,aP,h3,aq,h1,h2,hf,getL,hb]
theorem rY {z:Str} {ws:List Str} (h:z∉ws):iZ (.inr z) (ws.map Sum.inr)=false:=by
 simp only [iZ,List.any_map,Function.comp_def]
 rw [List.any_eq_false]
 intro x hx
 simp only [decide_eq_true_eq,Sum.inr.injEq]
 rintro rfl
 exact h hx
theorem gK {n:Nat} {ws:List Str} (hw:∀z∈ws,Wd z) (hn:ws.Nodup) (hl:ws.length<=100) {M:Mem}:aA (D.runN pg (n+1+1) 4) [.fz (ws.map .str)] M=.ok .non M:=by
 have hI:evI (Cn pg (n+1)) (.enm (.var 0)) [some (.fz (ws.map .str)),some (.ref 0),none,none] [.set []]=.ok (.enm (.tup (ws.map .str))) [.set []]:=by simp [evI,EVs,srcOf]
 obtain ⟨ρ',m',hf,_⟩:=cD (t:=.tup (.cons (.var 2) (.cons (.var 3) .nil))) (b:=BG) (n:=ws.length) hI (by simp [Src.len])
  (λ i ρ m=>m=[.set ((ws.take i).map Sum.inr)]/\∃o2 o3,ρ=[some (.fz (ws.map .str)),some (.ref 0),o2,o3]) ⟨rfl,_,_,rfl⟩ (λ i ρ m hi=>by
   rintro ⟨rfl,o2,o3,rfl⟩
   have hz:=hw ws[i] (List.getElem_mem hi)
   refine ⟨.tup [.int i,.str ws[i]],[some (.fz (ws.map .str)),some (.ref 0),some (.int i),some (.str ws[i])],[some (.fz (ws.map .str)),some (.ref 0),some (.int i),some (.str ws[i])],[.set ((ws.take (i+1)).map Sum.inr)],?_,by simp [au,bG],.inl ?_,rfl,_,_,rfl⟩
   ·rw [fS (w:=.str ws[i])]
    rw [aJ (by simpa using hi)]
    simp
   ·have hc:∀m,aA (D.runN pg (n+1) 5) [.str ws[i]] m=.ok (.bl true) m:=λ m=>aL rfl (yf hz) rfl
    have hk:iZ (.inr ws[i]) ((ws.take i).map Sum.inr)=false:=rY (oX hn hi)
    have ht:ws.take (i+1)=ws.take i++[ws[i]]:=by rw [List.take_add_one,List.getElem?_eq_getElem hi]; rfl
    have hlt:min i ws.length < 4000:=by omega
    have h1:evT (Cn pg (n+1)) (.or (.not (.call 5 (.cons (.var 3) .nil))) (.cmp .In (.var 3) (.var 1))) [some (.fz (ws.map .str)),some (.ref 0),some (.int i),some (.str ws[i])] [.set ((ws.take i).map Sum.inr)]=.ok false [.set ((ws.take i).map Sum.inr)]:=by
     simp only [EVs,ETs,gq0,gq1,gq2,gq3,hc,D.truthy,aq,kM,t8,hk,Bool.not_true,Bool.false_eq_true,if_false]
    have h2:evE (Cn pg (n+1)) (.meth (.var 1) "add" (.cons (.var 3) .nil)) [some (.fz (ws.map .str)),some (.ref 0),some (.int i),some (.str ws[i])] [.set ((ws.take i).map Sum.inr)]=.ok .non [.set ((ws.take (i+1)).map Sum.inr)]:=by
     have e1:kdM "add"=.set:=by decide
     have e2:((ws.take i).map Sum.inr:List L2.Key).length < 4000:=by rw [List.length_map,List.length_take]; exact hlt
     simp only [EVs,gq0,gq1,gq2,gq3,kdOf,e1,if_true,aZ,eY,ud,t8,hk,e2,Bool.false_eq_true,if_false]
     rw [ht,List.map_append]
     rfl
    rw [BG,ai (ρ1:=[some (.fz (ws.map .str)),some (.ref 0),some (.int i),some (.str ws[i])]) (by rw [d9 h1,av]),ai (bK h2),av])
  (fun ρ m _=>by rw [eL]; exact aD (by simp))
 refine aL (m1:=m') (by simp [ah,ao,cL]) (bq (d:=⟨1,4,b4⟩) rfl rfl ?_) rfl
 show aE _ b4 [some (.fz (ws.map .str)),none,none,none] []=_
 rw [b4,ai (ρ1:=[some (.fz (ws.map .str)),some (.ref 0),none,none]) (aM (w:=.ref 0) (m1:=[.set []]) (by simp [EVs,new]) rfl),ai hf,bf (br (w:=.non) (m1:=m') (by simp [EVs]))]
theorem fH {n:Nat} {m:Mem} {w:W} {xs:List W} (h:aC m w=some xs) (hl:xs.length<=1000):aA (D.runN pg (n+1) 12) [w] m=.ok (.int (2^xs.length:Nat)) m:=by
 have go:∀M,aC M w=some xs->D.runN pg (n+1) 12 [w] M=.ok (.int (2^xs.length:Nat)) M:=λ M h=>by
  refine bq (d:=⟨1,1,b12⟩) rfl rfl ?_
  show aE _ b12 [some w] M=_
  have hc:(0:Int)<=xs.length/\(xs.length:Int)<=1000000/\(1:Int).natAbs < 2^64:=⟨by omega,by omega,by decide⟩
  rw [b12,bf (br (w:=.int (2^xs.length:Nat)) (m1:=M) ?_)]
  simp only [EVs,gq0,gq1,gq2,gq3,bD h,binop]
  rw [if_pos hc]
  simp
 exact bR (go m h) (λ hp=>go [] (by rw [cB (m:=m) (by simpa [ah] using hp)]; exact h)) rfl
theorem oZ {n:Nat} {m:Mem} {k s l:W} {ks ss ls:List W} (hk:aC m k=some ks) (hs:aC m s=some ss) (hl:aC m l=some ls) (h1:ks.length<=2) (h2:2<=ss.length) (h3:ss.length<=4) (h4:ls.length<=2):aA (D.runN pg (n+1) 16) [k,s,l] m=.ok .non m:=by
 have go:∀M,aC M k=some ks->aC M s=some ss->aC M l=some ls->D.runN pg (n+1) 16 [k,s,l] M=.ok .non M:=λ M hk hs hl=>by
  refine gH (d:=⟨3,3,b16⟩) (ρ:=[some k,some s,some l]) rfl rfl ?_
  show aE _ b16 [some k,some s,some l] M=_
  have e1:¬(2:Int) < ks.length:=by omega
  have e2:(2:Int)<=ss.length:=by omega
  have e3:(ss.length:Int)<=4:=by omega
  have e4:¬(2:Int) < ls.length:=by omega
  simp only [b16,aE,evS,EVs,ETs,gq0,gq1,gq2,gq3,bD hk,bD hs,bD hl,aq,e1,e2,e3,e4,decide_true,decide_false,if_true,if_false,Bool.false_eq_true,Bool.not_true]
 refine bR (go m hk hs hl) (λ hp=>?_) rfl
 simp only [ah,Bool.and_eq_true,Bool.and_true] at hp
 exact go [] (by rw [cB (m:=m) hp.1]; exact hk) (by rw [cB (m:=m) hp.2.1]; exact hs) (by rw [cB (m:=m) hp.2.2]; exact hl)
end My
end
section
namespace My
open PySem D
noncomputable def vz (m:Mem) (width:Nat) (bound:Int) (r:W):Prop:=∃ns:List Int,aC m r=some (ns.map .int)/\ns.length=width/\∀x∈ns,0<=x/\x < bound
theorem ju {n:Nat} {m:Mem} {word:Str} {bY:W} {rws:List W} {many width:Nat} {bound:Int} (hm:Cm m) (hr:aC m bY=some rws) (hl:rws.length=many) (hb:many<=100) (hwd:width<=100) (h:∀r∈rws,vz m width bound r) (hp0:ao bY=true->∀r∈rws,ao r=true) :
  aA (D.runN pg (n+1) 17) [.str word,bY,.int many,.int width,.int bound] m=.ok .non m:=by
 have go:∀M,Cm M->aC M bY=some rws->(∀r∈rws,vz M width bound r)->D.runN pg (n+1) 17 [.str word,bY,.int many,.int width,.int bound] M=.ok .non M:=λ M hm hr h=>by
  obtain ⟨ρ',m',hf,rfl,o5,o6,rfl⟩:=cD (C:=Cn pg n) (t:=.var 5) (it:=.rng (.var 2)) (b:=vq) (ρ:=[some (.str word),some bY,some (.int many),some (.int width),some (.int bound),none,none]) (m:=M) (m1:=M) (s:=.rng 0 many) (n:=many) (iB (by simp only [EVs,gq0,gq1,gq2,gq3]) (by omega)) rfl
   (λ i ρ m=>m=M/\∃o5 o6,ρ=[some (.str word),some bY,some (.int many),some (.int width),some (.int bound),o5,o6]) ⟨rfl,_,_,rfl⟩ (λ i ρ m hi=>by
    rintro ⟨rfl,o5,o6,rfl⟩
    have hi':i < rws.length:=by omega
    obtain ⟨ns,g1,g2,g3⟩:=h rws[i] (List.getElem_mem hi')
    obtain ⟨s,s1,s2,s3⟩:=lE g1
    refine ⟨.int i,[some (.str word),some bY,some (.int many),some (.int width),some (.int bound),some (.int i),o6],[some (.str word),some bY,some (.int many),some (.int width),some (.int bound),some (.int i),o6],m,?_,by simp [au],.inl ?_,rfl,_,_,rfl⟩
    ·rw [bC hi]; simp
    ·have e1:evE (Cn pg n) (.idx (.var 1) (.var 5)) [some (.str word),some bY,some (.int many),some (.int width),some (.int bound),some (.int i),o6] m=.ok rws[i] m:=by simp only [EVs,gq0,gq1,gq2,gq3,dG hr hi']
     have e2:=gh (C:=Cn pg n) (m:=m) (i:=6) (e:=.chain .LtE .Lt (.cst (.int 0)) (.var 6) (.var 4)) (it:=.idx (.var 1) (.var 5)) (js:=[6]) (ρ:=[some (.str word),some bY,some (.int many),some (.int width),some (.int bound),some (.int i),o6]) hm (by rw [zm,e1]; exact s1) s2 s3 (by rw [List.length_map,g2]; simp [lim]; omega) (λ x hx=>by
      obtain ⟨z,hz,rfl⟩:=List.mem_map.mp hx
      obtain ⟨z1,z2⟩:=g3 z hz
      simp only [clr,EVs,gq0,gq1,gq2,gq3,aq,z1,z2,decide_true,if_true])
     have f1:¬(rws.length:Int)<=i:=by omega
     have f2:eqW m (.int ns.length) (.int width)=.ok true m:=by simp [eqW,toD,g2,PyData.eqv]
     have t1:evE (Cn pg n) (.blt .len (.cons (.var 1) .nil)) [some (.str word),some bY,some (.int many),some (.int width),some (.int bound),some (.int i),o6] m=.ok (.int rws.length) m:=by simp only [EVs,gq0,gq1,gq2,gq3,bD hr]
     have t2:evE (Cn pg n) (.blt .len (.cons (.idx (.var 1) (.var 5)) .nil)) [some (.str word),some bY,some (.int many),some (.int width),some (.int bound),some (.int i),o6] m=.ok (.int ns.length) m:=by rw [dY,bh,e1]; simp only [aN,bI,bD g1,List.length_map]
     have ht:evT (Cn pg n) (.or (.cmp .GtE (.var 5) (.blt .len (.cons (.var 1) .nil))) (.or (.cmp .NotEq (.blt .len (.cons (.idx (.var 1) (.var 5)) .nil)) (.var 3)) (.not (.blt .all (.cons (.frz (.comp (.gen (.var 6) [6] (.idx (.var 1) (.var 5)) .nil (.elt (.chain .LtE .Lt (.cst (.int 0)) (.var 6) (.var 4)))))) .nil))))) [some (.str word),some bY,some (.int many),some (.int width),some (.int bound),some (.int i),o6] m=.ok false m:=by
      simp only [gI,dB,eN,m8,bF,gq0,gq1,gq2,gq3,aN,t1,t2,e2,aq,f1,f2,decide_false,Bool.false_eq_true,if_false,Bool.not_true,D.truthy]
     rw [vq,ai (ρ1:=[some (.str word),some bY,some (.int many),some (.int width),some (.int bound),some (.int i),o6]) (by rw [d9 ht,av]),av])
   (fun ρ m _=>bz (by omega))
  refine gH (d:=⟨5,7,b17⟩) (ρ:=[some (.str word),some bY,some (.int many),some (.int width),some (.int bound),o5,o6]) rfl rfl ?_
  show aE _ b17 [some (.str word),some bY,some (.int many),some (.int width),some (.int bound),none,none] m'=_
  have ht:evT (Cn pg n) (.cmp .Gt (.blt .len (.cons (.var 1) .nil)) (.var 2)) [some (.str word),some bY,some (.int many),some (.int width),some (.int bound),o5,o6] m'=.ok false m':=by
   have f1:¬(many:Int) < rws.length:=by omega
   simp only [EVs,ETs,gq0,gq1,gq2,gq3,bD hr,aq,f1,decide_false]
  rw [b17,ai hf,ai (ρ1:=[some (.str word),some bY,some (.int many),some (.int width),some (.int bound),o5,o6]) (by rw [d9 ht,av]),av]
 refine bR (go m hm hr h) (λ hp=>?_) rfl
 simp only [ah,Bool.and_eq_true] at hp
 refine go [] Cm.nil (by rw [cB (m:=m) hp.2.1]; exact hr) λ r hr'=>?_
 obtain ⟨ns,g1,g2⟩:=h r hr'
 exact ⟨ns,by rw [cB (m:=m) (hp0 hp.2.1 r hr')]; exact g1,g2⟩
end My
end
section
namespace My
open PySem D
structure Rows (m:Mem) (w:W) (rws:List W) (R:List (List Int)):Prop where
 at_:getL m w=some rws
 len:rws.length=R.length
 row:∀(i:Nat) (h:i < rws.length) (h':i < R.length),aC m rws[i]=some (R[i].map .int)
 pur:ao w=true->∀r∈rws,ao r=true
theorem Rows.pure {m:Mem} {w:W} {rws:List W} {R:List (List Int)} (h:Rows m w rws R) (hp:ao w=true):Rows [] w rws R:=
 ⟨by rw [bS (m:=m) hp]; exact h.at_,h.len,λ i h1 h2=>by rw [cB (m:=m) (h.pur hp _ (List.getElem_mem h1))]; exact h.row i h1 h2,h.pur⟩
theorem Rows.app {m l:Mem} {w:W} {rws:List W} {R:List (List Int)} (h:Rows m w rws R):Rows (m++l) w rws R:=by
 refine ⟨?_,h.len,λ i h1 h2=>jn (h.row i h1 h2),h.pur⟩
 have:=jn (l:=l) (bw h.at_)
 cases w with
 | tup ys=>have:=h.at_; cases this
 | _=>exact this
theorem Rows.each {m:Mem} {w:W} {rws:List W} {R:List (List Int)} {width:Nat} {bound:Int} (h:Rows m w rws R) (hR:∀ns∈R,ns.length=width/\∀x∈ns,0<=x/\x < bound):∀r∈rws,vz m width bound r:=λ r hr=>by
 obtain ⟨i,hi,rfl⟩:=List.mem_iff_getElem.mp hr
 have hi':i < R.length:=by rw [<-h.len]; exact hi
 obtain ⟨h1,h2⟩:=hR R[i] (List.getElem_mem hi')
 exact ⟨R[i],h.row i hi hi',h1,h2⟩
noncomputable def lH (R:List (List Int)):Prop:=∀(i:Nat) (hi:i < R.length) (x:Nat) (hx:x < R[i].length),∃(k:Nat) (hk:k < R.length) (hx':x < R[k].length),R[i][x]=k/\R[k][x]=k
theorem eqI {m:Mem} {a b:Int}:eqW m (.int a) (.int b)=.ok (decide (a=b)) m:=by
 simp [eqW,toD,PyData.eqv]
 by_cases h:a=b<;>simp [h]
theorem jP {n:Nat} {m:Mem} {w:W} {rws:List W} {R:List (List Int)} (hm:Cm m) (h:Rows m w rws R) (hs:lH R) (hl:∀ns∈R,ns.length<=1000):aA (D.runN pg (n+1) 18) [w] m=.ok .non m:=by
 have go:∀M,Cm M->Rows M w rws R->D.runN pg (n+1) 18 [w] M=.ok .non M:=λ M hm h=>by
  obtain ⟨s,s1,s2,s3⟩:=jm (bw h.at_)
  obtain ⟨ρ',m',hf,rfl,o1,o2,o3,o4,rfl⟩:=cD (C:=Cn pg n) (t:=.tup (.cons (.var 1) (.cons (.var 2) .nil))) (it:=.enm (.var 0)) (b:=vt) (ρ:=[some w,none,none,none,none]) (m:=M) (m1:=M) (s:=.enm s) (n:=rws.length) (by simp only [evI,EVs,gq0,gq1,gq2,gq3,s1]) (by simp only [Src.len,s3])
   (λ i ρ m=>m=M/\∃o1 o2 o3 o4,ρ=[some w,o1,o2,o3,o4]) ⟨rfl,_,_,_,_,rfl⟩ (λ i ρ m hi=>by
    rintro ⟨rfl,o1,o2,o3,o4,rfl⟩
    have hi':i < R.length:=by rw [<-h.len]; exact hi
    have g1:=h.row i hi hi'
    obtain ⟨u,u1,u2,u3⟩:=jm g1
    refine ⟨.tup [.int i,rws[i]],[some w,some (.int i),some rws[i],o3,o4],[some w,some (.int i),some rws[i],o3,o4],m,?_,by simp [au,bG],.inl ?_,rfl,_,_,_,_,rfl⟩
    ·rw [fS (w:=rws[i])]
     rw [s2,aJ hi]
    ·have e2:=vj (C:=Cn pg n) (t:=.tup (.cons (.var 3) (.cons (.var 4) .nil))) (e:=.cmp .NotEq (.idx (.idx (.var 0) (.var 4)) (.var 3)) (.var 4)) (it:=.enm (.var 2)) (js:=[3,4]) (ρ:=[some w,some (.int i),some rws[i],o3,o4]) (m:=m) (s:=.enm u)
      (xs:=(List.range R[i].length).map λ (x:Nat)=>W.tup [.int (x:Int),.int (R[i].getD x 0)]) (B:=λ x=>match x with | .tup [a,b]=>[some w,some (.int i),some rws[i],some a,some b] | _=>[]) hm (by simp only [evI,EVs,gq0,gq1,gq2,gq3,u1])
      (λ j hj=>by
       have hj':j < R[i].length:=by simpa using hj
       rw [fS (w:=.int R[i][j]) (by rw [u2,aJ (by simpa using hj')]; simp)]
       simp [List.getD,hj'])
      (by rw [eL (by rw [u2]; exact aD (by simp))]) (by simp only [Src.len,u3]; simp) (by have:=hl R[i] (List.getElem_mem hi'); simp [lim]; omega)
      (λ x hx=>by obtain ⟨j,_,rfl⟩:=List.mem_map.mp hx; simp [clr,au,bG])
      (λ x hx y hy=>by obtain ⟨j,_,rfl⟩:=List.mem_map.mp hx; obtain ⟨j',_,rfl⟩:=List.mem_map.mp hy; simp [au,bG])
      (λ x hx=>by
       obtain ⟨j,hj,rfl⟩:=List.mem_map.mp hx
       have hj:=List.mem_range.mp hj
       obtain ⟨k,hk,hx',z1,z2⟩:=hs i hi' j hj
       have hk':k < rws.length:=by rw [h.len]; exact hk
       have e0:R[i].getD j 0=(k:Int):=by simp [List.getD,hj,z1]
       have g2:=h.row k hk' hk
       have e3:=dG (bw h.at_) hk'
       have e4:=dG (i:=j) g2 (by simpa using hx')
       simp only [EVs,gq0,gq1,gq2,gq3,e0,e3,e4,aq]
       simp [z2,eqI,aN])
     rw [vt,ai (ρ1:=[some w,some (.int i),some rws[i],o3,o4]) (by rw [d9 (cU (m8 _ _) e2),av]),av])
   (fun ρ m h=>by obtain ⟨rfl,_⟩:=h; rw [eL (by rw [s2]; exact aD (by omega))])
  refine gH (d:=⟨1,5,b18⟩) (ρ:=[some w,o1,o2,o3,o4]) rfl rfl ?_
  show aE _ b18 [some w,none,none,none,none] m'=_
  rw [b18,ai hf,av]
 refine bR (go m hm h) (λ hp=>?_) rfl
 simp only [ah,Bool.and_eq_true,Bool.and_true] at hp
 exact go [] Cm.nil (h.pure hp)
structure Parts (m:Mem) (k s l r t:W) (ks ss ls:List Str) (rws lws:List W) (R L:List (List Int)):Prop where
 k:getL m k=some (ks.map .str)
 s:getL m s=some (ss.map .str)
 l:getL m l=some (ls.map .str)
 r:Rows m r rws R
 t:Rows m t lws L
structure TabOk (ks ss ls:List Str) (R L:List (List Int)):Prop where
 wd:∀z∈ks++ss++ls,Wd z
 nd:(ks++ss++ls).Nodup
 k2:ks.length<=2
 s2:2<=ss.length
 s4:ss.length<=4
 l2:ls.length<=2
 rl:R.length=ss.length
 tl:L.length=ss.length
 re:∀ns∈R,ns.length=2^ks.length/\∀x∈ns,0<=x/\x < (ss.length:Int)
 te:∀ns∈L,ns.length=ls.length/\∀x∈ns,0<=x/\x < (2:Int)
 st:lH R
theorem dg {m l:Mem} {w:W} {xs:List W} (h:getL m w=some xs):getL (m++l) w=some xs:=by
 have:=jn (l:=l) (bw h)
 cases w with
 | tup ys=>cases h
 | _=>exact this
theorem gM {n:Nat} (h:n<=2):2^n<=4:=by
 rcases (by omega:n=0\/n=1\/n=2) with rfl | rfl | rfl<;>decide
theorem zp {M:Mem} {x y:W} {xs ys:List W} (h1:getL M x=some xs) (h2:getL M y=some ys) (h3:xs.length+ys.length<=lim):binop .Add x y M=.ok (.ref M.length) (M++[.lst (xs++ys)]):=by
 have:t7 M x y=.ok (.ref M.length) (M++[.lst (xs++ys)]):=by simp only [t7,h1,h2]; rw [if_pos h3]; rfl
 cases x<;>cases y<;>first | exact this | cases h1 | cases h2
theorem E2 {n:Nat} {M:Mem} {k s l r t:W} {ks ss ls:List Str} {rws lws:List W} {R L:List (List Int)} (hm:Cm M) (p:Parts M k s l r t ks ss ls rws lws R L) (o:TabOk ks ss ls R L) :
  evE (Cn pg (n+1+1)) (.frz (.bin .Add (.bin .Add (.var 0) (.var 1)) (.var 2))) [some k,some s,some l,some r,some t,none] M=.ok (.fz ((ks++ss++ls).map .str)) M:=by
 have c1:(ks.map W.str).length+(ss.map W.str).length<=lim:=by have:=o.k2; have:=o.s4; simp [lim]; omega
 have c2:(ks.map W.str++ss.map W.str).length+(ls.map W.str).length<=lim:=by have:=o.k2; have:=o.s4; have:=o.l2; simp [lim]; omega
 have h1:evE (Cn pg (n+1+1)) (.bin .Add (.bin .Add (.var 0) (.var 1)) (.var 2)) [some k,some s,some l,some r,some t,none] M=.ok (.ref (M.length+1)) (M++[.lst (ks.map .str++ss.map .str),.lst (ks.map .str++ss.map .str++ls.map .str)]):=by
  simp only [EVs,gq0,gq1,gq2,gq3,zp p.k p.s c1]
  rw [zp (M:=M++[O.lst (ks.map W.str++ss.map W.str)]) (x:=.ref M.length) (xs:=ks.map W.str++ss.map W.str) (by simp [getL]) (dg p.l) c2]
  simp
 have:=iE (C:=Cn pg (n+1+1)) h1 rfl hm (by omega) (xs:=ks.map .str++ss.map .str++ls.map .str) (by simp) (by rw [<-List.map_append,<-List.map_append]; exact cL _)
 rw [this,List.map_append,List.map_append]
theorem nh {n:Nat} {m:Mem} {k s l r t:W} {ks ss ls:List Str} {rws lws:List W} {R L:List (List Int)} (hm:Cm m) (p:Parts m k s l r t ks ss ls rws lws R L) (o:TabOk ks ss ls R L):aA (D.runN pg (n+1+1+1) 15) [k,s,l,r,t] m=.ok .non m:=by
 have go:∀M,Cm M->Parts M k s l r t ks ss ls rws lws R L->D.runN pg (n+1+1+1) 15 [k,s,l,r,t] M=.ok .non M:=λ M hm p=>by
  have hlen:(ks++ss++ls).length<=8:=by have:=o.k2; have:=o.s4; have:=o.l2; simp; omega
  have c1:(ks.map W.str).length+(ss.map W.str).length<=lim:=by have:=o.k2; have:=o.s4; simp [lim]; omega
  have c2:(ks.map W.str++ss.map W.str).length+(ls.map W.str).length<=lim:=by have:=o.k2; have:=o.s4; have:=o.l2; simp [lim]; omega
  have e1:=E2 (n:=n) hm p o
  have e2:evE (Cn pg (n+1+1)) (.call 4 (.cons (.frz (.bin .Add (.bin .Add (.var 0) (.var 1)) (.var 2))) .nil)) [some k,some s,some l,some r,some t,none] M=.ok .non M:=by
   rw [gi,bh,e1]
   simp only [aN,bI,gK o.wd o.nd (by omega)]
  have d1:=fH (n:=n+1) (bw p.k) (by have:=o.k2; simp; omega)
  have d2:=oZ (n:=n+1) (bw p.k) (bw p.s) (bw p.l) (by simpa using o.k2) (by simpa using o.s2) (by simpa using o.s4) (by simpa using o.l2)
  have d3:=ju (n:=n+1) (word:="row") (many:=ss.length) (width:=2^ks.length) (bound:=ss.length) hm (bw p.r.at_) (by rw [p.r.len,o.rl]) (by have:=o.s4; omega) (by have:=gM o.k2; omega) (p.r.each o.re) p.r.pur
  have d4:=ju (n:=n+1) (word:="lights") (many:=ss.length) (width:=ls.length) (bound:=2) hm (bw p.t.at_) (by rw [p.t.len,o.tl]) (by have:=o.s4; omega) (by have:=o.l2; omega) (p.t.each o.te) p.t.pur
  have d5:=jP (n:=n+1) hm p.r o.st (λ ns hns=>by rw [(o.re ns hns).1]; have:=gM o.k2; omega)
  simp only [List.length_map] at d1
  refine gH (d:=⟨5,6,b15⟩) (ρ:=[some k,some s,some l,some r,some t,some .non]) rfl rfl ?_
  show aE _ b15 [some k,some s,some l,some r,some t,none] M=_
  have ht:evT (Cn pg (n+1+1)) (.cmp .IsNot (.var 5) (.cst .non)) [some k,some s,some l,some r,some t,some .non] M=.ok false M:=by simp only [EVs,ETs,gq0,gq1,gq2,gq3,aq,pO,Bool.not_true]
  rw [b15,ai (ρ1:=[some k,some s,some l,some r,some t,some .non]) (aM e2 rfl),ai (ρ1:=[some k,some s,some l,some r,some t,some .non]) (by rw [d9 ht,av])]
  rw [ai (bK (w:=.non) (m1:=M) (by simp only [EVs,gq0,gq1,gq2,gq3,d2]))]
  rw [ai (bK (w:=.non) (m1:=M) (by simp only [EVs,gq0,gq1,gq2,gq3,bD (bw p.s),List.length_map,d1,d3]))]
  rw [ai (bK (w:=.non) (m1:=M) (by simp only [EVs,gq0,gq1,gq2,gq3,bD (bw p.s),bD (bw p.l),List.length_map,d4]))]
  rw [ai (bK (w:=.non) (m1:=M) (by simp only [EVs,gq0,gq1,gq2,gq3,d5])),av]
 refine bR (go m hm p) (λ hp=>?_) rfl
 simp only [ah,Bool.and_eq_true,Bool.and_true] at hp
 exact go [] Cm.nil ⟨by rw [bS (m:=m) hp.1]; exact p.k,by rw [bS (m:=m) hp.2.1]; exact p.s,by rw [bS (m:=m) hp.2.2.1]; exact p.l,p.r.pure hp.2.2.2.1,p.t.pure hp.2.2.2.2⟩
end My
end
section
namespace My
open PySem D
theorem eO {m:Mem} {p:Nat} {c:Str} {fs:List (Str×W)} {o:O} {w:W} {xs:List W} (hp:m[p]?=some (.ins c fs)) (h:getL m w=some xs):getL (m.set p o) w=some xs:=by
 cases w with
 | ref q=>
  simp only [getL] at h ⊢
  split at h
  ·rename_i ys e
   have hq:p≠q:=by rintro rfl; rw [hp] at e; cases e
   rw [List.getElem?_set_ne hq,e]
   exact h
  ·cases h
 | _=>exact h
theorem vA {m:Mem} {p:Nat} {c:Str} {fs:List (Str×W)} {o:O} {w:W} {xs:List W} (hp:m[p]?=some (.ins c fs)) (h:aC m w=some xs):aC (m.set p o) w=some xs:=by
 cases w with
 | tup ys=>exact h
 | _=>simp only [aC] at h ⊢; exact eO hp h
theorem Rows.ins {m:Mem} {p:Nat} {c:Str} {fs:List (Str×W)} {o:O} {w:W} {rws:List W} {R:List (List Int)} (hp:m[p]?=some (.ins c fs)) (h:Rows m w rws R):Rows (m.set p o) w rws R:=
 ⟨eO hp h.at_,h.len,λ i h1 h2=>vA hp (h.row i h1 h2),h.pur⟩
theorem Parts.ins {m:Mem} {p:Nat} {c:Str} {fs:List (Str×W)} {o:O} {k s l r t:W} {ks ss ls:List Str} {rws lws:List W} {R L:List (List Int)} (hp:m[p]?=some (.ins c fs)) (h:Parts m k s l r t ks ss ls rws lws R L):Parts (m.set p o) k s l r t ks ss ls rws lws R L:=
 ⟨eO hp h.k,eO hp h.s,eO hp h.l,h.r.ins hp,h.t.ins hp⟩
theorem Parts.app {m l0:Mem} {k s l r t:W} {ks ss ls:List Str} {rws lws:List W} {R L:List (List Int)} (h:Parts m k s l r t ks ss ls rws lws R L):Parts (m++l0) k s l r t ks ss ls rws lws R L:=
 ⟨dg h.k,dg h.s,dg h.l,h.r.app,h.t.app⟩
abbrev tupI (r:List Int):W:=.tup (r.map .int)
abbrev fzS (z:List Str):W:=.fz (z.map .str)
abbrev F1 (ks:List Str):List (Str×W):=[("key_list",fzS ks)]
abbrev F2 (ks ss:List Str):List (Str×W):=[("key_list",fzS ks),("state_list",fzS ss)]
abbrev F3 (ks ss ls:List Str):List (Str×W):=[("key_list",fzS ks),("state_list",fzS ss),("lamp_list",fzS ls)]
abbrev F4 (ks ss ls:List Str) (R:List (List Int)):List (Str×W):=[("key_list",fzS ks),("state_list",fzS ss),("lamp_list",fzS ls),("row_list",.fz (R.map tupI))]
abbrev F5 (ks ss ls:List Str) (R L:List (List Int)):List (Str×W):=[("key_list",fzS ks),("state_list",fzS ss),("lamp_list",fzS ls),("row_list",.fz (R.map tupI)),("light_list",.fz (L.map tupI))]
noncomputable def tab (ks ss ls:List Str) (R L:List (List Int)):W:=.obj "Table" ["key_list","state_list","lamp_list","row_list","light_list"] [fzS ks,fzS ss,fzS ls,.fz (R.map tupI),.fz (L.map tupI)]
theorem dj (R:List (List Int)):ah (R.map tupI)=true:=g8 (λ r=>by simp [ao,bO]) R
theorem cH {ks ss ls:List Str} {R L:List (List Int)}:ao (tab ks ss ls R L)=true:=by simp [tab,ao,ah,cL,dj]
theorem lI {m:Mem} {p:Nat} {c:Str} {fs:List (Str×W)} (hm:Cm m) (h:ah (fs.map (·.2))=true):Cm (m.set p (.ins c fs)):=hm.set (bB _ h)
theorem dP {C:Cx} {e:E} {ρ:D.Loc} {m:Mem} {w:W} {xs:List W} (he:evE C e ρ m=.ok w m) (h:getL m w=some xs) (hm:Cm m) (hp:ah xs=true):evE C (.frz (.blt .list (.cons e .nil))) ρ m=.ok (.fz xs) m:=by
 refine bX (m0:=m) ?_ rfl hm hp
 rw [dY,bh,he]
 simp only [aN,bI,aP,bw h,new]
theorem jv {m:Mem} {p:Nat} {f:Str} {fs fs':List (Str×W)} {v:W} (hp:m[p]?=some (.ins "Table" fs)) (hc:cs.flds.contains (("Table":Str),f)=true) (hl:fs.length < 1000) (hf:D.cM f v fs=fs'):mz cs (.ref p) f v m=.ok () (m.set p (.ins "Table" fs')):=by
 simp only [mz,hp]
 rw [if_pos ⟨hc,hl⟩,hf]
theorem o7 {n:Nat} {m:Mem} {p:Nat} {k s l r t:W} {ks ss ls:List Str} {rws:List W} {R L:List (List Int)} (hm:Cm m) (hp:m[p]?=some (.ins "Table" [])) (q:Parts m k s l r t ks ss ls rws (L.map tupI) R L) (o:TabOk ks ss ls R L) :
  D.runN pg (n+1+1+1+1) 6 [.ref p,k,s,l,r,t] m=.ok .non (m.set p (.ins "Table" (F5 ks ss ls R L))):=by
 have hlt:p < m.length:=(List.getElem?_eq_some_iff.mp hp).1
 have g:∀o:O,(m.set p o)[p]?=some o:=λ o=>by rw [List.getElem?_set_self hlt]
 have d0:=nh (n:=n) hm q o
 have q1:Parts (m.set p (.ins "Table" (F1 ks))) k s l r t ks ss ls rws (L.map tupI) R L:=q.ins hp
 have q2:Parts (m.set p (.ins "Table" (F2 ks ss))) k s l r t ks ss ls rws (L.map tupI) R L:=q.ins hp
 have q3:Parts (m.set p (.ins "Table" (F3 ks ss ls))) k s l r t ks ss ls rws (L.map tupI) R L:=q.ins hp
 have q4:Parts (m.set p (.ins "Table" (F4 ks ss ls R))) k s l r t ks ss ls rws (L.map tupI) R L:=q.ins hp
 have m1:Cm (m.set p (.ins "Table" (F1 ks))):=lI hm (by simp [ah,ao,cL])
 have m2:Cm (m.set p (.ins "Table" (F2 ks ss))):=lI hm (by simp [ah,ao,cL])
 have m3:Cm (m.set p (.ins "Table" (F3 ks ss ls))):=lI hm (by simp [ah,ao,cL])
 have m4:Cm (m.set p (.ins "Table" (F4 ks ss ls R))):=lI hm (by simp [ah,ao,cL,dj])
 have hrl:rws.length<=lim:=by have:=q.r.len; have:=o.rl; have:=o.s4; simp [lim]; omega
 have e4:evE (Cn pg (n+1+1+1)) (.frz (.comp (.gen (.var 6) [6] (.var 4) .nil (.elt (.blt .tuple (.cons (.var 6) .nil)))))) [some (.ref p),some k,some s,some l,some r,some t,none] (m.set p (.ins "Table" (F3 ks ss ls)))=.ok (.fz (R.map tupI)) (m.set p (.ins "Table" (F3 ks ss ls))):=by
  obtain ⟨sr,s1,s2,s3⟩:=lE (bw q3.r.at_)
  have hI:evI (Cn pg (n+1+1+1)) (.var 4) [some (.ref p),some k,some s,some l,some r,some t,none] (m.set p (.ins "Table" (F3 ks ss ls)))=.ok sr (m.set p (.ins "Table" (F3 ks ss ls))):=by rw [fG,bF]; exact s1
  obtain ⟨ρ',hc⟩:=fk (C:=Cn pg (n+1+1+1)) (get:=sr.get) (t:=.var 6) (ifs:=.nil) (e:=.blt .tuple (.cons (.var 6) .nil)) (ρ:=clr [6] [some (.ref p),some k,some s,some l,some r,some t,none]) (m:=m.set p (.ins "Table" (F3 ks ss ls))) (xs:=rws) (B:=λ x=>[some (.ref p),some k,some s,some l,some r,some t,some x]) (p:=λ _=>true) (g:=λ w=>match aC (m.set p (.ins "Table" (F3 ks ss ls))) w with | some xs=>.tup xs | none=>.non)
   (λ j hj=>by rw [s2,aJ hj]) (by rw [s2]; exact aD (by omega)) (λ x _=>by simp [clr,au]) (λ x _ y _=>by simp [au]) (λ x _=>by simp only [aF]) (λ x hx _=>by
    obtain ⟨j,hj,rfl⟩:=List.mem_iff_getElem.mp hx
    have hj':j < R.length:=by rw [<-q.r.len]; exact hj
    simp only [EVs,gq0,gq1,gq2,gq3,aP,q3.r.row j hj hj']) hrl
  have he:rws.map (λ w=>match aC (m.set p (.ins "Table" (F3 ks ss ls))) w with | some xs=>W.tup xs | none=>.non)=R.map tupI:=by
   apply List.ext_getElem
   ·simp [q.r.len]
   ·intro j h1 h2
    have hj:j < rws.length:=by simpa using h1
    have hj':j < R.length:=by simpa using h2
    simp [q3.r.row j hj hj']
  rw [fj,he,<-s3] at hc
  exact bX (cR (js:=[6]) (ifs:=.nil) (g:=.elt (.blt .tuple (.cons (.var 6) .nil))) hI hc) rfl m3 (dj R)
 refine gH (d:=⟨6,7,b6⟩) (ρ:=[some (.ref p),some k,some s,some l,some r,some t,none]) rfl rfl ?_
 show aE _ b6 [some (.ref p),some k,some s,some l,some r,some t,none] m=_
 have v0:∀M,evE (Cn pg (n+1+1+1)) (.var 0) [some (.ref p),some k,some s,some l,some r,some t,none] M=.ok (.ref p) M:=λ M=>by simp only [EVs,gq0,gq1,gq2,gq3]
 rw [b6,ai (bK (w:=.non) (m1:=m) (by simp only [EVs,gq0,gq1,gq2,gq3,d0]))]
 rw [ai (jk (dP (w:=k) (by simp only [EVs,gq0,gq1,gq2,gq3]) q.k hm (cL _)) (v0 _) (jv (fs':=F1 ks) hp rfl (by decide) rfl))]
 rw [ai (jk (dP (w:=s) (by simp only [EVs,gq0,gq1,gq2,gq3]) q1.s m1 (cL _)) (v0 _) (jv (fs':=F2 ks ss) (g _) rfl (by simp) rfl)),List.set_set]
 rw [ai (jk (dP (w:=l) (by simp only [EVs,gq0,gq1,gq2,gq3]) q2.l m2 (cL _)) (v0 _) (jv (fs':=F3 ks ss ls) (g _) rfl (by simp) rfl)),List.set_set]
 rw [ai (jk e4 (v0 _) (jv (fs':=F4 ks ss ls R) (g _) rfl (by simp) rfl)),List.set_set]
 rw [ai (jk (dP (w:=t) (by simp only [EVs,gq0,gq1,gq2,gq3]) q4.t.at_ m4 (dj L)) (v0 _) (jv (fs':=F5 ks ss ls R L) (g _) rfl (by simp) rfl)),List.set_set,av]
theorem o8 {n:Nat} {M:Mem} {ρ:D.Loc} {es:Es} {k s l r t:W} {ks ss ls:List Str} {rws:List W} {R L:List (List Int)} (he:aI (Cn pg (n+1+1+1+1)) es ρ M=.ok [k,s,l,r,t] M) (hm:Cm M) (q:Parts M k s l r t ks ss ls rws (L.map tupI) R L) (o:TabOk ks ss ls R L) :
  evE (Cn pg (n+1+1+1+1)) (.frz (.make "Table" es)) ρ M=.ok (tab ks ss ls R L) M:=by
 have hp:(M++[O.ins "Table" []])[M.length]?=some (.ins "Table" []):=by simp
 have h1:=o7 (n:=n) (hm.push (o:=.ins "Table" []) rfl) hp q.app o
 have h2:(M++[O.ins "Table" []]).set M.length (.ins "Table" (F5 ks ss ls R L))=M++[.ins "Table" (F5 ks ss ls R L)]:=by simp
 rw [h2] at h1
 have hi:cs.ini.lookup ("Table":Str)=some 6:=rfl
 refine oY (l:=[.ins "Table" (F5 ks ss ls R L)]) (w:=.ref M.length) ?_ rfl hm ?_
 ·rw [vg,he]
  simp only [aN,gz,Cn,pg,hi]
  have:aA (D.runN pg (n+1+1+1+1) 6) [.ref M.length,k,s,l,r,t] (M++[O.ins "Table" []])=.ok .non (M++[.ins "Table" (F5 ks ss ls R L)]):=by rw [aX rfl,h1]
  simp only [pg] at this
  rw [this]
  rfl
 ·have hx:(M++[O.ins "Table" (F5 ks ss ls R L)])[M.length]?=some (.ins "Table" (F5 ks ss ls R L)):=by simp
  simp only [frW,frG,hx]
  rw [if_neg (by omega)]
  simp only [List.map_cons,List.map_nil]
  rw [cV _ (by simp [ah,ao,cL,dj])]
  rfl
section
variable {n:Nat} {m:Mem} {ks ss ls:List Str} {R L:List (List Int)}
theorem yg:gZ pg.cs (tab ks ss ls R L) "row_list" m=.ok (.fz (R.map tupI)) m:=rfl
theorem yh:gZ pg.cs (tab ks ss ls R L) "key_list" m=.ok (fzS ks) m:=rfl
theorem rZ:gZ pg.cs (tab ks ss ls R L) "state_list" m=.ok (fzS ss) m:=rfl
theorem goes {s x:Nat} (h1:s < R.length) (h2:x < R[s].length):aA (D.runN pg (n+1) 10) [tab ks ss ls R L,.int s,.int x] m=.ok (.int R[s][x]) m:=by
 refine aL (m1:=[]) (by simp [ah,ao,cH]) (bq (d:=⟨3,3,b10⟩) rfl rfl ?_) rfl
 show aE _ b10 [some (tab ks ss ls R L),some (.int s),some (.int x)] []=_
 have e1:=dG (m:=[]) (w:=.fz (R.map tupI)) (xs:=R.map tupI) (i:=s) rfl (by simpa using h1)
 have e2:=dG (m:=[]) (w:=tupI R[s]) (xs:=R[s].map .int) (i:=x) rfl (by simpa using h2)
 rw [b10,bf (br (w:=.int R[s][x]) (m1:=[]) ?_)]
 simp only [List.getElem_map] at e1 e2
 simp only [EVs,gq0,gq1,gq2,gq3,yg,e1,e2]
theorem aT (h:ks.length<=2):aA (D.runN pg (n+1+1) 9) [tab ks ss ls R L] m=.ok (.int (2^ks.length:Nat)) m:=by
 refine aL (m1:=[]) (by simp [ah,ao,cH]) (bq (d:=⟨1,1,b9⟩) rfl rfl ?_) rfl
 show aE _ b9 [some (tab ks ss ls R L)] []=_
 have d1:=fH (n:=n) (m:=[]) (w:=fzS ks) (xs:=ks.map .str) rfl (by simp; omega)
 rw [b9,bf (br (w:=.int (2^ks.length:Nat)) (m1:=[]) ?_)]
 simp only [List.length_map] at d1
 simp only [EVs,gq0,gq1,gq2,gq3,yh,d1]
end
end My
end
section
namespace My
open PySem D
theorem toNat_eq {d:Int} (h:0<=d):((d.toNat:Nat):Int)=d:=by omega
theorem E3 {n:Nat}:Draws (D.runN pg (n+1) 25):=by
 intro m p many hp h0 h1
 obtain ⟨A,B,hm⟩:=hp
 have hp:p < m.length:=(List.getElem?_eq_some_iff.mp hm).1
 have hs:∀o:O,(m.set p o)[p]?=some o:=λ o=>by simp [hp]
 by_cases hA:0 < A
 ·refine ⟨A%many,m.set p (pot (A / many) B),?_,⟨_,_,rfl⟩,Int.emod_nonneg _ (by omega),Int.emod_lt_of_pos _ h0⟩
  simp [D.runN,pg,b25,cZ,aE,evS,evT,evE,aI,evA,cz,au,R.bind,aq,aQ,aC,getL,hm,L2.atI,L2.ixN,aP,mw,outF,hA,h0,h1]
 ·refine ⟨_,m.set p (pot A ((B*48271+12345)%2147483647)),?_,⟨_,_,rfl⟩,Int.emod_nonneg (((B*48271+12345)%2147483647)*((B*48271+12345)%2147483647)%2147483629 / 7) (by omega:many≠0),Int.emod_lt_of_pos _ h0⟩
  have g0:0<=(B*48271+12345)%2147483647:=Int.emod_nonneg _ (by decide)
  have g1:(B*48271+12345)%2147483647 < 2147483647:=Int.emod_lt_of_pos _ (by decide)
  have g2:gX B 48271=true:=by simp [gX]
  have g3:gX ((B*48271+12345)%2147483647) ((B*48271+12345)%2147483647)=true:=by simp [gX]; omega
  simp [D.runN,pg,b25,cZ,aE,evS,evT,evE,aI,evA,cz,au,R.bind,aq,aQ,aC,getL,hm,hs,L2.atI,L2.ixN,aP,mw,outF,hA,h0,h1,binop,g2,g3]
theorem draw {n:Nat} {m:Mem} {p:Nat} {many:Int} (hp:Pot m p) (h0:0 < many) (h1:many < 1073741824):∃d:Nat,∃m',aA (D.runN pg (n+1) 25) [.ref p,.int many] m=.ok (.int d) m'/\PS p m m'/\(d:Int) < many:=by
 rw [aX rfl]
 obtain ⟨d,m',h,s,z0,z1⟩:=E3 hp h0 h1
 exact ⟨d.toNat,m',by rw [toNat_eq z0]; exact h,s,by omega⟩
theorem cell {n:Nat} {m:Mem} {ns:List Int} {k:Nat}:∃c:Int,aA (D.runN pg (n+1) 23) [.fz (ns.map .int),.int k] m=.ok (.int c) m:=by
 by_cases h:k < ns.length
 ·refine ⟨ns[k],aL (m1:=[]) (by simp [ah,ao,bO]) ?_ rfl⟩
  have h':(k:Int) < ns.length:=by omega
  simp [D.runN,pg,b23,cZ,aE,evS,evT,evE,aI,R.bind,aq,aQ,aC,getL,L2.atI,L2.ixN,aP,outF,h,h']
 ·refine ⟨0,aL (m1:=[]) (by simp [ah,ao,bO]) ?_ rfl⟩
  have h':¬(k:Int) < ns.length:=by omega
  simp [D.runN,pg,b23,cZ,aE,evS,evT,evE,aI,R.bind,aq,aQ,aC,getL,L2.atI,L2.ixN,aP,outF,h,h']
theorem E4 {n:Nat} {m:Mem} {ns:List Int} {k:Nat} (hk:k < 100):∃A B,aA (D.runN pg (n+1+1) 24) [.fz (ns.map .int),.int k] m=.ok (.ref m.length) (m++[pot A B]):=by
 obtain ⟨c,hc⟩:=cell (n:=n) (m:=[]) (ns:=ns) (k:=k)
 have g:gX 977 k=true:=by simp [gX]
 have hr:D.runN pg (n+1+1) 24 [.fz (ns.map .int),.int k] []=.ok (.ref 0) [pot (if (if c < 0 then -c else c) - 10^18>0 then (if c < 0 then -c else c) - 10^18 else 0) ((if c < 0 then -c else c)%2147483629+977*k+1)]:=by
  refine bq (d:=⟨2,3,b24⟩) rfl rfl ?_
  show aE _ b24 [some (.fz (ns.map .int)),some (.int k),none] []=_
  rw [b24,ai (u7 (w:=.int c) (m1:=[]) (by simp only [EVs,gq0,gq1,gq2,gq3,hc])),bf (br (w:=.ref 0) (m1:=_) ?_)]
  simp [evE,aI,R.bind,aP,binop,g,new,lim]
 exact ⟨_,_,(fh (m:=m) (by simp [ah,ao,bO]) hr rfl).trans rfl⟩
theorem zq:("abcdefghijklmnopqrstuvwxyz":Str).cps.toList=(List.range 26).map (97+·):=by decide +kernel
abbrev ab:W:=.str "abcdefghijklmnopqrstuvwxyz"
theorem E5 {d:Nat} (h:d < 26) (m:Mem):aQ ab (.int d) m=.ok (.str ⟨#[97+d]⟩) m:=by
 have hl:("abcdefghijklmnopqrstuvwxyz":Str).length<=lim:=by decide +kernel
 simp only [aQ]
 rw [if_pos hl,zq,qe (i:=d) (by simpa using h)]
 simp
theorem Wd.small {z:Str} (h:Wd z):z.cps.all (· < 0x110000)=true:=by
 rw [Array.all_eq_true]
 intro i hi
 have:=h.az z.cps[i] (by simp)
 simp
 omega
noncomputable def ws (cs:List Nat):Str:=⟨cs.toArray⟩
theorem zu {cs:List Nat} (h1:1<=cs.length) (h8:cs.length<=8) (ha:∀c∈cs,97<=c/\c<=122):Wd (ws cs):=⟨by simpa [ws] using h1,by simpa [ws] using h8,λ c hc=>ha c (by simpa [ws] using hc)⟩
theorem vB {cs:List Nat} {c:Nat} {m:Mem} (h:cs.length<=100):binop .Add (.str (ws cs)) (.str ⟨#[c]⟩) m=.ok (.str (ws (cs++[c]))) m:=by
 have e:(ws cs).length+(⟨#[c]⟩:Str).length<=lim:=by simp [vv,ws,lim]; omega
 simp only [binop]
 rw [if_pos e]
 congr 2
 show Str.mk (cs.toArray++#[c])=_
 simp [ws]
theorem r8 {n p:Nat} {m m1:Mem} {k:Nat} {ρ1:Option W} {o3 o4 o5 o6:Option W} {e:E} (hp:Pot m1 p) (hk:k<=8) (hI:evI (Cn pg (n+1)) e [some (.ref p),ρ1,some (.str ""),o3,o4,o5,o6] m=.ok (.rng 0 k) m1) :
  ∃cs m' o3',evS (Cn pg (n+1)) (.for_ (.var 3) e ql) [some (.ref p),ρ1,some (.str ""),o3,o4,o5,o6] m=.ok (.nx [some (.ref p),ρ1,some (.str (ws cs)),o3',o4,o5,o6]) m'/\cs.length=k/\(∀c∈cs,97<=c/\c<=122)/\PS p m1 m':=by
 obtain ⟨ρ',m',hf,cs,o3',rfl,hl,ha,hs⟩:=cD (C:=Cn pg (n+1)) (t:=.var 3) (b:=ql) hI (n:=k) rfl
  (λ i ρ m2=>∃cs o3',ρ=[some (.ref p),ρ1,some (.str (ws cs)),o3',o4,o5,o6]/\cs.length=i/\(∀c∈cs,97<=c/\c<=122)/\PS p m1 m2)
  ⟨[],o3,rfl,rfl,by simp,hp.refl⟩ (λ i ρ m2 hi=>by
   rintro ⟨cs,o3',rfl,hl,ha,hs⟩
   obtain ⟨d,m3,h3,s3,d1⟩:=draw (n:=n) (many:=26) (hs.pot hp) (by decide) (by decide)
   refine ⟨.int (0+i),[some (.ref p),ρ1,some (.str (ws cs)),some (.int (0+i)),o4,o5,o6],[some (.ref p),ρ1,some (.str (ws (cs++[97+d]))),some (.int (0+i)),o4,o5,o6],m3,bC hi,by simp [au],.inl ?_,cs++[97+d],_,rfl,by simp [hl],λ c hc=>?_,hs.trans s3⟩
   ·have e2:=E5 (d:=d) (by omega) m3
    have e3:=vB (cs:=cs) (c:=97+d) (m:=m3) (by omega)
    rw [ql,ai (ρ1:=[some (.ref p),ρ1,some (.str (ws (cs++[97+d]))),some (.int (0+i)),o4,o5,o6]) (m1:=m3) (aM (w:=.str (ws (cs++[97+d]))) (by simp only [EVs,gq0,gq1,gq2,gq3,h3,e2,e3]) rfl),av]
   ·rcases List.mem_append.mp hc with hc | hc
    ·exact ha c hc
    ·rw [List.mem_singleton] at hc; omega)
  (fun ρ m _=>bz (by omega))
 exact ⟨cs,m',o3',hf,hl,ha,hs⟩
end My
end
section
namespace My
open PySem D
section
variable {C:D.Cx} {i:Nat} {js:List Nat} {it e:E} {ifs:Es} {ρ:D.Loc} {m:Mem} {xs:List W} {s:Src} {p:W->Bool} {g:W->W} {t:T} {B:W->D.Loc}
theorem BH (hm:Cm m) (hI:evI C it ρ m=.ok s m) (hg:∀j,s.get m j=Src.get (.tup xs) m j) (hn:s.len m=xs.length) (h0:∀x∈xs,au t x (clr js ρ)=some (B x)) (h1:∀x∈xs,∀y∈xs,au t y (B x)=some (B y)) (ht:∀x∈xs,aF C ifs (B x) m=.ok (p x) m)
  (he:∀x∈xs,p x=true->evE C e (B x) m=.ok (g x) m) (hp:∀x∈xs,p x=true->ao (g x)=true) (hl:xs.length<=lim):evE C (.frz (.comp (.gen t js it ifs (.elt e)))) ρ m=.ok (.fz ((xs.filter p).map g)) m:=by
 obtain ⟨ρ',hc⟩:=fk (C:=C) (get:=s.get) (t:=t) (ifs:=ifs) (e:=e) (ρ:=clr js ρ) (m:=m) (xs:=xs) (B:=B) (p:=p) (g:=g) (λ j hj=>by rw [hg,aJ hj]) (by rw [hg]; exact aD (by omega)) h0 h1 ht he hl
 refine bX (cR (js:=js) (ifs:=ifs) (g:=.elt e) hI (by rw [hn]; exact hc)) rfl hm (bg.mpr λ x hx=>?_)
 obtain ⟨y,hy,rfl⟩:=List.mem_map.mp hx
 obtain ⟨hy,hpy⟩:=List.mem_filter.mp hy
 exact hp y hy hpy
theorem qu (hm:Cm m) (hI:evI C it ρ m=.ok s m) (hg:∀j,s.get m j=Src.get (.tup xs) m j) (hn:s.len m=xs.length) (ht:∀x∈xs,aF C ifs ((clr js ρ).set i (some x)) m=.ok (p x) m)
  (he:∀x∈xs,p x=true->evE C e ((clr js ρ).set i (some x)) m=.ok (g x) m) (hp:∀x∈xs,p x=true->ao (g x)=true) (hl:xs.length<=lim):evE C (.frz (.comp (.gen (.var i) js it ifs (.elt e)))) ρ m=.ok (.fz ((xs.filter p).map g)) m:=
 BH hm hI hg hn (λ x _=>by simp only [au]) (λ x _ y _=>by simp only [au,List.set_set]) ht he hp hl
theorem vC (hm:Cm m) (hI:evI C it ρ m=.ok s m) (hg:∀j,s.get m j=Src.get (.tup xs) m j) (hn:s.len m=xs.length)
  (he:∀x∈xs,evE C e ((clr js ρ).set i (some x)) m=.ok (g x) m) (hp:∀x∈xs,ao (g x)=true) (hl:xs.length<=lim):evE C (.frz (.comp (.gen (.var i) js it .nil (.elt e)))) ρ m=.ok (.fz (xs.map g)) m:=by
 have:=qu (C:=C) (i:=i) (js:=js) (it:=it) (ifs:=.nil) (e:=e) (ρ:=ρ) (p:=λ _=>true) (g:=g) hm hI hg hn (λ x _=>by simp only [aF]) (λ x hx _=>he x hx) (λ x hx _=>hp x hx) hl
 rw [fj] at this
 exact this
end
theorem BI:L2.asc ("abcdefghijklmnopqrstuvwxyz":Str)=true:=by decide +kernel
theorem gj:signs ("abcdefghijklmnopqrstuvwxyz":Str)=(List.range 26).map λ d=>W.str ⟨#[97+d]⟩:=by
 unfold signs
 rw [zq,List.map_map]
 rfl
theorem abI {C:D.Cx} {ρ:D.Loc} {m:Mem}:evI C (.cst ab) ρ m=.ok (.tup (signs ("abcdefghijklmnopqrstuvwxyz":Str))) m:=by rw [DH,gg]; simp [R.bind,toI,ue,BI]
theorem BJ (cs:List Nat):Txt.slice (ws cs) none (some 7)=ws (cs.take 7):=by
 have:=L2.tS (ws cs) 7
 rw [show ((7:Nat):Int)=7 from rfl] at this
 rw [this]
 simp [ws]
theorem r9 {n p q:Nat} {m:Mem} {tk:List Str} {cs:List Nat} {o3 o4 o5 o6:Option W} (hm:Cm m) (hq:m[q]?=some (.lst (tk.map .str))) (hw:∀z∈tk,Wd z) (hl:tk.length<=20) (h1:1<=cs.length) (h8:cs.length<=8) (ha:∀c∈cs,97<=c/\c<=122) :
  ∃z o4',aE (Cn pg n) (.cons (.asg (.pt (.var 4)) (.frz (.comp (.gen (.var 5) [5] (.cst (.str "abcdefghijklmnopqrstuvwxyz")) .nil (.elt (.bin .Add (.slc (.var 2) .none (.some (.cst (.int 7)))) (.var 5))))))) (.cons (.asg (.pt (.var 2)) (.idx (.frz (.comp (.gen (.var 6) [6] (.var 4) (.cons (.cmp .NotIn (.var 6) (.var 1)) .nil) (.elt (.var 6))))) (.cst (.int 0)))) .nil))
    [some (.ref p),some (.ref q),some (.str (ws cs)),o3,o4,o5,o6] m=.ok (.nx [some (.ref p),some (.ref q),some (.str z),o3,o4',o5,o6]) m/\Wd z/\z∉tk:=by
 let cand:List Str:=(List.range 26).map λ d=>ws (cs.take 7++[97+d])
 have hcd:∀z∈cand,Wd z:=λ z hz=>by
  obtain ⟨d,hd,rfl⟩:=List.mem_map.mp hz
  have hd:=List.mem_range.mp hd
  refine zu (by simp) (by simp; omega) λ c hc=>?_
  rcases List.mem_append.mp hc with hc | hc
  ·exact ha c (List.mem_of_mem_take hc)
  ·rw [List.mem_singleton] at hc; omega
 have hnd:cand.Nodup:=by
  show ((List.range 26).map λ d=>ws (cs.take 7++[97+d])).Nodup
  rw [List.nodup_iff_pairwise_ne,List.pairwise_map]
  refine List.Pairwise.imp (λ {a b} hab e=>hab ?_) (List.nodup_iff_pairwise_ne.mp List.nodup_range)
  have:=congrArg (λ z:Str=>z.cps.toList) e
  simp [ws] at this
  exact this
 have e1:evE (Cn pg n) (.frz (.comp (.gen (.var 5) [5] (.cst (.str "abcdefghijklmnopqrstuvwxyz")) .nil (.elt (.bin .Add (.slc (.var 2) .none (.some (.cst (.int 7)))) (.var 5)))))) [some (.ref p),some (.ref q),some (.str (ws cs)),o3,o4,o5,o6] m=.ok (.fz (cand.map .str)) m:=by
  have:=vC (C:=Cn pg n) (i:=5) (js:=[5]) (it:=.cst ab) (e:=.bin .Add (.slc (.var 2) .none (.some (.cst (.int 7)))) (.var 5)) (ρ:=[some (.ref p),some (.ref q),some (.str (ws cs)),o3,o4,o5,o6]) (m:=m) (xs:=signs ("abcdefghijklmnopqrstuvwxyz":Str))
   (g:=λ x=>match x with | .str z=>.str ⟨(cs.take 7).toArray++z.cps⟩ | _=>.non) hm abI (λ j=>rfl) rfl (λ x hx=>by
    rw [gj] at hx
    obtain ⟨d,hd,rfl⟩:=List.mem_map.mp hx
    have hlim:(ws cs).length<=lim:=by simp [vv,ws,lim]; omega
    have e3:=vB (cs:=cs.take 7) (c:=97+d) (m:=m) (by simp; omega)
    simp only [clr,EVs,gq0,gq1,gq2,gq3,fY]
    rw [if_pos hlim]
    simp only [aN,BJ,e3]
    simp [ws]) (λ x hx=>by
    rw [gj] at hx
    obtain ⟨d,hd,rfl⟩:=List.mem_map.mp hx
    rfl) (by rw [gj]; simp [lim])
  rw [show (signs ("abcdefghijklmnopqrstuvwxyz":Str)).map (λ x=>match x with | .str z=>.str ⟨(cs.take 7).toArray++z.cps⟩ | _=>.non)=cand.map W.str by
   rw [gj,List.map_map,List.map_map]
   refine List.map_congr_left λ d _=>?_
   simp [ws]] at this
  exact this
 have e2:evE (Cn pg n) (.frz (.comp (.gen (.var 6) [6] (.var 4) (.cons (.cmp .NotIn (.var 6) (.var 1)) .nil) (.elt (.var 6))))) [some (.ref p),some (.ref q),some (.str (ws cs)),o3,some (.fz (cand.map .str)),o5,o6] m=.ok (.fz ((cand.filter λ z=>!decide (z∈tk)).map .str)) m:=by
  have:=qu (C:=Cn pg n) (i:=6) (js:=[6]) (it:=.var 4) (ifs:=.cons (.cmp .NotIn (.var 6) (.var 1)) .nil) (e:=.var 6) (ρ:=[some (.ref p),some (.ref q),some (.str (ws cs)),o3,some (.fz (cand.map .str)),o5,o6]) (m:=m) (xs:=cand.map .str) (s:=.tup (cand.map .str))
   (p:=λ x=>match x with | .str z=>!decide (z∈tk) | _=>false) (g:=λ x=>x) hm (by rw [fG]; simp only [EVs,gq0,gq1,gq2,gq3]; rfl) (λ j=>rfl) rfl (λ x hx=>by
    obtain ⟨z,hz,rfl⟩:=List.mem_map.mp hx
    have:=nc (m:=m) (hcd z hz).small λ z hz=>(hw z hz).small
    simp only [clr,aF,EVs,ETs,gq0,gq1,gq2,gq3,aq,kM,hq,this]
    cases decide (z∈tk)<;>rfl) (λ x hx _=>by simp only [clr,EVs,gq0,gq1,gq2,gq3]) (λ x hx _=>by
    obtain ⟨z,hz,rfl⟩:=List.mem_map.mp hx
    rfl) (by simp [cand,lim])
  rw [this]
  congr 2
  rw [List.filter_map]
  simp
  rfl
 have hne:cand.filter (λ z=>!decide (z∈tk))≠[]:=λ he=>by
  rw [List.filter_eq_nil_iff] at he
  have:=kc (k:=tk) hnd λ x hx=>by simpa using he x hx
  simp [cand] at this
  omega
 obtain ⟨z,r,hz⟩:=List.exists_cons_of_ne_nil hne
 have hzm:z∈cand.filter λ z=>!decide (z∈tk):=by rw [hz]; exact List.mem_cons_self
 obtain ⟨hz1,hz2⟩:=List.mem_filter.mp hzm
 refine ⟨z,some (.fz (cand.map .str)),?_,hcd z hz1,by simpa using hz2⟩
 rw [hz] at e2
 rw [ai (aM e1 rfl),ai (ρ1:=[some (.ref p),some (.ref q),some (.str z),o3,some (.fz (cand.map .str)),o5,o6]) (m1:=m) (aM (w:=.str z) ?_ rfl),av]
 rw [g9]
 simp only [gq0,gq1,gq2,gq3] at e2 ⊢
 rw [e2]
 simp only [EVs,aQ,aC,getL]
 simp [L2.atI,L2.ixN]
theorem word {n p q:Nat} {m:Mem} {tk:List Str} (hp:Pot m p) (hm:Cm m) (hpq:p≠q) (hq:m[q]?=some (.lst (tk.map .str))) (hw:∀z∈tk,Wd z) (hl:tk.length<=20) :
  ∃z m1,aA (D.runN pg (n+1+1) 26) [.ref p,.ref q] m=.ok (.str z) (m1.set q (.lst ((tk++[z]).map .str)))/\PS p m m1/\Wd z/\z∉tk:=by
 obtain ⟨d,m1,hd,s1,d1⟩:=draw (n:=n) (many:=8) hp (by decide) (by decide)
 have hI:evI (Cn pg (n+1)) (.rng (.bin .Add (.cst (.int 1)) (.call 25 (.cons (.var 0) (.cons (.cst (.int 8)) .nil))))) [some (.ref p),some (.ref q),some (.str ""),none,none,none,none] m=.ok (.rng 0 (1+d)) m1:=
  iB (by simp only [EVs,gq0,gq1,gq2,gq3,hd,binop]; rfl) (by omega)
 obtain ⟨cs,m2,o3,hf,hlen,haz,s2⟩:=r8 (n:=n) (s1.pot hp) (by omega) hI
 have s12:=s1.trans s2
 have hq2:m2[q]?=some (.lst (tk.map .str)):=(s12.ne hpq).trans hq
 have hwc:=zu (cs:=cs) (by omega) (by omega) haz
 have hT:evT (Cn pg (n+1)) (.cmp .In (.var 2) (.var 1)) [some (.ref p),some (.ref q),some (.str (ws cs)),o3,none,none,none] m2=.ok (decide (ws cs∈tk)) m2:=by
  have:=nc (m:=m2) hwc.small λ z hz=>(hw z hz).small
  simp only [EVs,ETs,gq0,gq1,gq2,gq3,aq,kM,hq2,this]
 have fin:∀(z:Str) (o4:Option W),Wd z->z∉tk->evS (Cn pg (n+1)) (.ife (.cmp .In (.var 2) (.var 1)) (.cons (.asg (.pt (.var 4)) (.frz (.comp (.gen (.var 5) [5] (.cst (.str "abcdefghijklmnopqrstuvwxyz")) .nil (.elt (.bin .Add (.slc (.var 2) .none (.some (.cst (.int 7)))) (.var 5))))))) (.cons (.asg (.pt (.var 2)) (.idx (.frz (.comp (.gen (.var 6) [6] (.var 4) (.cons (.cmp .NotIn (.var 6) (.var 1)) .nil) (.elt (.var 6))))) (.cst (.int 0)))) .nil)) .nil) [some (.ref p),some (.ref q),some (.str (ws cs)),o3,none,none,none] m2=.ok (.nx [some (.ref p),some (.ref q),some (.str z),o3,o4,none,none]) m2->
   ∃z m1,aA (D.runN pg (n+1+1) 26) [.ref p,.ref q] m=.ok (.str z) (m1.set q (.lst ((tk++[z]).map .str)))/\PS p m m1/\Wd z/\z∉tk:=λ z o4 hz hnz hS=>by
  refine ⟨z,m2,?_,s12,hz,hnz⟩
  rw [aX rfl]
  refine bq (d:=⟨2,7,b26⟩) rfl rfl ?_
  show aE _ b26 [some (.ref p),some (.ref q),none,none,none,none,none] m=_
  have hap:aZ (.ref q) "append" [.str z] m2=.ok .non (m2.set q (.lst ((tk++[z]).map .str))):=by
   have hlt:(tk.map W.str).length < lim:=by simp [lim]; omega
   simp only [aZ,hq2,dJ,fZ]
   simp only [hlt,if_true,List.map_append,List.map_cons,List.map_nil]
  have hk:kdOf m2 (.ref q)=kdM "append":=by simp only [kdOf,hq2]; rfl
  rw [b26,ai (ρ1:=[some (.ref p),some (.ref q),some (.str ""),none,none,none,none]) (aM (w:=.str "") (m1:=m) (by simp only [EVs]) rfl),ai hf,ai hS,
   ai (bK (w:=.non) (m1:=m2.set q (.lst ((tk++[z]).map .str))) (by simp only [EVs,gq0,gq1,gq2,gq3,hk,if_true,hap])),bf (br (w:=.str z) (m1:=m2.set q (.lst ((tk++[z]).map .str))) (by simp only [EVs,gq0,gq1,gq2,gq3]))]
 by_cases hin:ws cs∈tk
 ·rw [decide_eq_true hin] at hT
  obtain ⟨z,o4,he,hz,hnz⟩:=r9 (n:=n+1) (p:=p) (o3:=o3) (o4:=none) (o5:=none) (o6:=none) (s12.cm hm) hq2 hw hl (by omega) (by omega) haz
  exact fin z o4 hz hnz (by rw [Bw hT,he])
 ·rw [decide_eq_false hin] at hT
  exact fin (ws cs) none hwc hin (by rw [d9 hT,av])
end My
end
section
namespace My
open PySem D
theorem lJ (a b:Int):PyData.eqv (.int a) (.int b)=decide (a=b):=by
 have:=eqI (m:=[]) (a:=a) (b:=b)
 simp only [eqW,toD] at this
 simpa using this
theorem ni {m:Mem} {a:Int} {ns:List Int}:fX m (.int a) (ns.map .int)=.ok (decide (a∈ns)) m:=by
 simp only [fX,gJ ns]
 rw [show toD 60 m (.int a)=some (.int a) from rfl]
 simp only
 congr 1
 rw [List.any_map]
 induction ns with
 | nil=>simp
 | cons y r ih=>
  simp only [List.any_cons,Function.comp,lJ,List.mem_cons] at ih ⊢
  rw [ih]
  by_cases h:a=y
  ·subst h; simp
  ·have h':¬y=a:=λ e=>h e.symm
   simp [h,h']
theorem mem_cast {s:Nat} {l:List Nat}:(s:Int)∈l.map (λ t:Nat=>(t:Int))↔s∈l:=by
 constructor
 ·intro h
  obtain ⟨a,ha,e⟩:=List.mem_map.mp h
  have:a=s:=by omega
  exact this▸ha
 ·exact λ h=>List.mem_map.mpr ⟨s,h,rfl⟩
noncomputable def stay (mask many:Nat):List Nat:=(List.range many).filter λ t=>decide (mask / 2^t%2=1)
theorem yi {mask many:Nat} (h0:0 < mask) (h1:mask < 2^many) (h2:many<=4):stay mask many≠[]:=by
 have:∀many < 5,∀mask < 16,0 < mask->mask < 2^many->stay mask many≠[]:=by decide +kernel
 exact this many (by omega) mask (Nat.lt_of_lt_of_le h1 (Nat.pow_le_pow_right (by decide) h2)) h0 h1
theorem DO (l:List Nat):(l.map λ t=>W.int (t:Nat))=(l.map λ t:Nat=>(t:Int)).map W.int:=by rw [List.map_map]; rfl
theorem DP {n:Nat} {m:Mem} {ρ0:Option W} {mask s many:Nat} {o4 o5:Option W} (hm:Cm m) (h4:many<=4) :
  evE (Cn pg n) (.frz (.comp (.gen (.var 5) [5] (.rng (.var 3)) (.cons (.cmp .Eq (.bin .Mod (.bin .FloorDiv (.var 1) (.bin .LShift (.cst (.int 1)) (.var 5))) (.cst (.int 2))) (.cst (.int 1))) .nil) (.elt (.var 5))))) [ρ0,some (.int mask),some (.int s),some (.int many),o4,o5] m=.ok (.fz ((stay mask many).map λ t=>W.int (t:Nat))) m:=by
 have hI:evI (Cn pg n) (.rng (.var 3)) [ρ0,some (.int mask),some (.int s),some (.int many),o4,o5] m=.ok (.rng 0 many) m:=iB (by simp only [EVs,gq0,gq1,gq2,gq3]) (by omega)
 have:=qu (C:=Cn pg n) (i:=5) (js:=[5]) (it:=.rng (.var 3)) (ifs:=.cons (.cmp .Eq (.bin .Mod (.bin .FloorDiv (.var 1) (.bin .LShift (.cst (.int 1)) (.var 5))) (.cst (.int 2))) (.cst (.int 1))) .nil) (e:=.var 5) (ρ:=[ρ0,some (.int mask),some (.int s),some (.int many),o4,o5]) (m:=m) (xs:=(List.range many).map λ t=>W.int (t:Nat)) (s:=.rng 0 many)
  (p:=λ x=>match x with | .int t=>decide (mask / 2^t.toNat%2=1) | _=>false) (g:=λ x=>x) hm hI (λ j=>by
   by_cases h:j < many
   ·rw [bC h,aJ (by simpa using h)]; simp
   ·rw [bz h,aD (by simpa using h)]) (by simp [Src.len]) (λ x hx=>by
   obtain ⟨t,ht,rfl⟩:=List.mem_map.mp hx
   have ht:=List.mem_range.mp ht
   have h1:(0:Int)<=t/\(t:Int)<=1000000/\(1:Int).natAbs < 2^64:=⟨by omega,by omega,by decide⟩
   have h2:(0:Int) < 1*2^t/\(1*2^t:Int) < 1073741824:=by
    rcases (by omega:t=0\/t=1\/t=2\/t=3) with rfl | rfl | rfl | rfl<;>decide
   have h3:((mask:Int) / (1*2^t)%2=1)↔(mask / 2^t%2=1):=by
    rw [Int.one_mul]
    have:((mask:Int) / 2^t%2)=((mask / 2^t%2:Nat):Int):=by simp
    rw [this]; omega
   simp only [clr,aF,EVs,ETs,gq0,gq1,gq2,gq3,binop,Int.toNat_natCast]
   rw [if_pos h1]
   simp only [aN,Int.toNat_natCast]
   rw [if_pos h2]
   simp only [aN,show (0:Int) < 2 from by decide,if_true,aq,eqI,aN]
   by_cases h:mask / 2^t%2=1
   ·rw [decide_eq_true (h3.mpr h),decide_eq_true h]; rfl
   ·rw [decide_eq_false λ z=>h (h3.mp z),decide_eq_false h]; rfl) (λ x hx _=>by simp only [clr,EVs,gq0,gq1,gq2,gq3]) (λ x hx _=>by
   obtain ⟨t,ht,rfl⟩:=List.mem_map.mp hx
   rfl) (by simp [lim]; omega)
 have e:(((List.range many).map λ t=>W.int (t:Nat)).filter λ x=>match x with | .int t=>decide (mask / 2^t.toNat%2=1) | _=>false).map (λ x=>x)=(stay mask many).map λ t=>W.int (t:Nat):=by
  rw [List.map_id'',List.filter_map]
  ·rfl
  ·intro x; rfl
 rw [e] at this
 exact this
theorem goal {n p:Nat} {m:Mem} {mask s many:Nat} (hp:Pot m p) (hm:Cm m) (h0:0 < mask) (h1:mask < 2^many) (h4:many<=4) :
  ∃g:Nat,∃m',aA (D.runN pg (n+1+1) 27) [.ref p,.int mask,.int s,.int many] m=.ok (.int g) m'/\PS p m m'/\g∈stay mask many/\(s∈stay mask many->g=s):=by
 have eS:=DP (n:=n+1) (ρ0:=some (.ref p)) (mask:=mask) (s:=s) (many:=many) (o4:=none) (o5:=none) hm h4
 have hT:evT (Cn pg (n+1)) (.cmp .In (.var 2) (.var 4)) [some (.ref p),some (.int mask),some (.int s),some (.int many),some (.fz ((stay mask many).map λ t=>W.int (t:Nat))),none] m=.ok (decide (s∈stay mask many)) m:=by
  simp only [EVs,ETs,gq0,gq1,gq2,gq3,aq,kM,aC,getL]
  rw [DO,ni,show decide ((s:Int)∈(stay mask many).map λ t:Nat=>(t:Int))=decide (s∈stay mask many) from decide_eq_decide.mpr mem_cast]
 by_cases hin:s∈stay mask many
 ·refine ⟨s,m,?_,hp.refl,hin,λ _=>rfl⟩
  rw [decide_eq_true hin] at hT
  rw [aX rfl]
  refine bq (d:=⟨4,6,b27⟩) rfl rfl ?_
  show aE _ b27 [some (.ref p),some (.int mask),some (.int s),some (.int many),none,none] m=_
  rw [b27,ai (aM eS rfl)]
  simp only [gq0,gq1,gq2,gq3]
  rw [bf (w:=.int s) (m1:=m) (by rw [Bw hT,bf (br (w:=.int s) (m1:=m) (by simp only [EVs,gq0,gq1,gq2,gq3]))])]
 ·have hpos:0 < (stay mask many).length:=List.length_pos_iff.mpr (yi h0 h1 h4)
  have hle:(stay mask many).length<=4:=by
   have:=List.length_filter_le (λ t=>decide (mask / 2^t%2=1)) (List.range many)
   rw [List.length_range] at this
   exact Nat.le_trans this h4
  obtain ⟨d,m',hd,s1,d1⟩:=draw (n:=n) (many:=(stay mask many).length) hp (by omega) (by omega)
  have hdl:d < (stay mask many).length:=by omega
  refine ⟨(stay mask many)[d],m',?_,s1,List.getElem_mem hdl,λ z=>absurd z hin⟩
  rw [decide_eq_false hin] at hT
  rw [aX rfl]
  refine bq (d:=⟨4,6,b27⟩) rfl rfl ?_
  show aE _ b27 [some (.ref p),some (.int mask),some (.int s),some (.int many),none,none] m=_
  rw [b27,ai (aM eS rfl)]
  simp only [gq0,gq1,gq2,gq3]
  rw [ai (by rw [d9 hT,av]),bf (w:=.int (stay mask many)[d]) (m1:=m') (br ?_)]
  have hix:=dG (m:=m') (w:=.fz ((stay mask many).map λ t=>W.int (t:Nat))) (xs:=(stay mask many).map λ t=>W.int (t:Nat)) (i:=d) rfl (by simpa using hdl)
  rw [List.getElem_map] at hix
  simp only [EVs,gq0,gq1,gq2,gq3,aP,aC,getL,List.length_map,hd,hix]
end My
end
section
namespace My
open PySem D
section
variable {C:D.Cx} {i p:Nat} {js:List Nat} {it e:E} {ρ:D.Loc} {m:Mem} {xs:List W} {s:Src} {Rr:W->W->Prop}
theorem gk (hp:Pot m p) (hm:Cm m) (hI:evI C it ρ m=.ok s m) (hg:∀M j,s.get M j=Src.get (.tup xs) M j) (hn:s.len m=xs.length) (hl:xs.length<=lim)
  (he:∀x∈xs,∀m1,PS p m m1->∃w m2,evE C e ((clr js ρ).set i (some x)) m1=.ok w m2/\PS p m1 m2/\ao w=true/\Rr x w) :
  ∃ws m',evE C (.frz (.comp (.gen (.var i) js it .nil (.elt e)))) ρ m=.ok (.fz ws) m'/\PS p m m'/\ws.length=xs.length/\∀(j:Nat) (h:j < xs.length) (h':j < ws.length),Rr xs[j] ws[j]:=by
 obtain ⟨acc,ρ',m',e1,h1,h2,h3,h4,h5⟩:=bQ (get:=s.get) (t:=.var i) (test:=fun ρ m=>aF C .nil ρ m) (body:=fun ρ m acc=>evG C (.elt e) ρ m acc) (n:=xs.length)
  (λ j ρ1 m1 acc=>(∀o,ρ1.set i o=(clr js ρ).set i o)/\PS p m m1/\acc.length=j/\(∀w∈acc,ao w=true)/\∀(k:Nat) (h:k < xs.length) (h':k < acc.length),Rr xs[k] acc[k]) (λ j ρ1 m1 acc hj=>by
   rintro ⟨h1,h2,h3,h4,h5⟩
   obtain ⟨w,m2,e1,e2,e3,e4⟩:=he xs[j] (List.getElem_mem hj) m1 h2
   refine ⟨xs[j],(clr js ρ).set i (some xs[j]),by rw [hg,aJ hj],by simp only [au,h1],.inl ⟨m1,acc++[w],(clr js ρ).set i (some xs[j]),m2,by simp only [aF],?_,λ o=>by simp,h2.trans e2,by simp [h3],λ y hy=>?_,λ k hk hk'=>?_⟩⟩
   ·have:acc.length < lim:=by omega
    simp only [evG,e1,R.bind,this,if_true]
   ·rcases List.mem_append.mp hy with hy | hy
    ·exact h4 y hy
    ·rw [List.mem_singleton] at hy; subst hy; exact e3
   ·by_cases hka:k < acc.length
    ·rw [List.getElem_append_left hka]; exact h5 k hk hka
    ·have hk2:k=acc.length:=by simp at hk'; omega
     subst hk2
     rw [List.getElem_append_right (Nat.le_refl _)]
     simp only [h3,Nat.sub_self,List.getElem_cons_zero]
     exact e4) (fun ρ m acc _=>by rw [hg]; exact aD (by omega)) xs.length 0 (clr js ρ) m [] (by omega) ⟨λ _=>rfl,hp.refl,rfl,by simp,λ k h h'=>by simp at h'⟩
 refine ⟨acc,m',bX (m0:=m') (cR (js:=js) (ifs:=.nil) (g:=.elt e) hI (by rw [hn]; exact e1)) h2.len (h2.cm hm) (bg.mpr h4),h2,h3,h5⟩
end
theorem fm (k:Nat) (M:Mem) (j:Nat):Src.get (.rng 0 k) M j=Src.get (.tup ((List.range k).map λ t=>W.int (t:Nat))) M j:=by
 by_cases h:j < k
 ·rw [bC h,aJ (by simpa using h)]; simp
 ·rw [bz h,aD (by simpa using h)]
theorem BK {a b:Nat} (h:W.int (a:Int)=W.int (b:Int)):a=b:=Int.ofNat.inj (W.int.inj h)
theorem lK {ws:List W} {P:Nat->Prop} (h:∀w∈ws,∃k:Nat,w=.int k/\P k):∃ks:List Nat,ws=ks.map (λ k=>W.int (k:Nat))/\∀k∈ks,P k:=by
 induction ws with
 | nil=>exact ⟨[],rfl,by simp⟩
 | cons w r ih=>
  obtain ⟨k,rfl,hk⟩:=h w List.mem_cons_self
  obtain ⟨ks,rfl,hks⟩:=ih λ w hw=>h w (List.mem_cons_of_mem _ hw)
  exact ⟨k::ks,rfl,λ x hx=>(List.mem_cons.mp hx).elim (λ e=>e▸hk) (hks x)⟩
abbrev fzI (r:List Int):W:=.fz (r.map .int)
noncomputable def BL (many aT:Nat) (R:List (List Int)):Prop:=R.length=many/\(∀ns∈R,ns.length=aT/\∀x∈ns,0<=x/\x < (many:Int))/\lH R
theorem pow2 {many:Nat} (h:many<=4):2^many<=16:=by
 rcases (by omega:many=0\/many=1\/many=2\/many=3\/many=4) with rfl | rfl | rfl | rfl | rfl<;>decide
theorem yj {many:Nat} (h:2<=many):4<=2^many:=by
 have:=Nat.pow_le_pow_right (n:=2) (by decide) h
 simpa using this
theorem DQ {n p:Nat} {m:Mem} {many aT:Nat} (hp:Pot m p) (hm:Cm m) (h2:2<=many) (h4:many<=4) (hl:aT<=4) :
  ∃R m',aA (D.runN pg (n+1+1+1) 28) [.ref p,.int many,.int aT] m=.ok (.fz (R.map fzI)) m'/\PS p m m'/\BL many aT R:=by
 have hpw:=pow2 h4
 have htp:=yj h2
 have hsh:(0:Int)<=many/\(many:Int)<=1000000/\(1:Int).natAbs < 2^64:=⟨by omega,by omega,by decide⟩
 have hpe:(1:Int)*2^many - 1=((2^many - 1:Nat):Int):=by
  have:((2^many:Nat):Int)=2^many:=by simp
  rw [Int.one_mul]; omega
 have hI1:evI (Cn pg (n+1+1)) (.rng (.var 2)) [some (.ref p),some (.int many),some (.int aT),none,none,none,none] m=.ok (.rng 0 aT) m:=iB (by simp only [EVs,gq0,gq1,gq2,gq3]) (by omega)
 obtain ⟨ws1,m1,e1,s1,l1,r1⟩:=gk (C:=Cn pg (n+1+1)) (i:=4) (p:=p) (js:=[4]) (it:=.rng (.var 2)) (e:=.bin .Add (.cst (.int 1)) (.call 25 (.cons (.var 0) (.cons (.bin .Sub (.bin .LShift (.cst (.int 1)) (.var 1)) (.cst (.int 1))) .nil)))) (ρ:=[some (.ref p),some (.int many),some (.int aT),none,none,none,none]) (m:=m) (xs:=(List.range aT).map λ t=>W.int (t:Nat)) (Rr:=λ _ w=>∃k:Nat,w=.int k/\0 < k/\k < 2^many) hp hm hI1 (fm aT) (by simp [Src.len]) (by simp [lim]; omega) (λ x hx M sM=>by
   obtain ⟨d,M2,hd,s2,d1⟩:=draw (n:=n+1) (many:=((2^many - 1:Nat):Int)) (sM.pot hp) (by omega) (by omega)
   refine ⟨.int (1+d:Nat),M2,?_,s2,rfl,1+d,rfl,by omega,by omega⟩
   simp only [clr,EVs,gq0,gq1,gq2,gq3,binop,Int.toNat_natCast]
   rw [if_pos hsh]
   simp only [aN,hpe,hd,Int.toNat_natCast]
   simp)
 obtain ⟨ks,rfl,hks⟩:=lK (P:=λ k=>0 < k/\k < 2^many) (ws:=ws1) λ w hw=>by
  obtain ⟨j,hj,rfl⟩:=List.getElem_of_mem hw
  exact r1 j (by omega) hj
 have hkl:ks.length=aT:=by simpa using l1
 have hI2:evI (Cn pg (n+1+1)) (.rng (.var 1)) [some (.ref p),some (.int many),some (.int aT),some (.fz (ks.map λ k=>W.int (k:Nat))),none,none,none] m1=.ok (.rng 0 many) m1:=iB (by simp only [EVs,gq0,gq1,gq2,gq3]) (by omega)
 obtain ⟨ws2,m2,e2,s2,l2,r2⟩:=gk (C:=Cn pg (n+1+1)) (i:=5) (p:=p) (js:=[5]) (it:=.rng (.var 1)) (e:=.frz (.comp (.gen (.var 6) [6] (.var 3) .nil (.elt (.call 27 (.cons (.var 0) (.cons (.var 6) (.cons (.var 5) (.cons (.var 1) .nil))))))))) (ρ:=[some (.ref p),some (.int many),some (.int aT),some (.fz (ks.map λ k=>W.int (k:Nat))),none,none,none]) (m:=m1) (xs:=(List.range many).map λ t=>W.int (t:Nat))
  (Rr:=λ x w=>∀s:Nat,x=.int s->∃gs:List Nat,w=.fz (gs.map λ k=>W.int (k:Nat))/\gs.length=ks.length/\∀(j:Nat) (h:j < gs.length) (h':j < ks.length),gs[j]∈stay ks[j] many/\(s∈stay ks[j] many->gs[j]=s)) (s1.pot hp) (s1.cm hm) hI2 (fm many) (by simp [Src.len]) (by simp [lim]; omega) (λ x hx M sM=>by
   obtain ⟨s,hs,rfl⟩:=List.mem_map.mp hx
   have hI3:evI (Cn pg (n+1+1)) (.var 3) [some (.ref p),some (.int many),some (.int aT),some (.fz (ks.map λ k=>W.int (k:Nat))),none,some (.int s),none] M=.ok (.tup (ks.map λ k=>W.int (k:Nat))) M:=by rw [fG]; simp only [EVs,gq0,gq1,gq2,gq3]; rfl
   obtain ⟨ws3,m3,e3,s3,l3,r3⟩:=gk (C:=Cn pg (n+1+1)) (i:=6) (p:=p) (js:=[6]) (it:=.var 3) (e:=.call 27 (.cons (.var 0) (.cons (.var 6) (.cons (.var 5) (.cons (.var 1) .nil))))) (ρ:=[some (.ref p),some (.int many),some (.int aT),some (.fz (ks.map λ k=>W.int (k:Nat))),none,some (.int s),none]) (m:=M) (xs:=ks.map λ k=>W.int (k:Nat))
    (Rr:=λ x w=>∃k g:Nat,x=.int k/\w=.int g/\g∈stay k many/\(s∈stay k many->g=s)) (sM.pot (s1.pot hp)) (sM.cm (s1.cm hm)) hI3 (λ _ _=>rfl) rfl (by simp [lim]; omega) (λ x hx M' sM'=>by
     obtain ⟨k,hk,rfl⟩:=List.mem_map.mp hx
     obtain ⟨g,m4,h4',s4,g1,g2⟩:=goal (n:=n) (mask:=k) (s:=s) (many:=many) (sM'.pot (sM.pot (s1.pot hp))) (sM'.cm (sM.cm (s1.cm hm))) (hks k hk).1 (hks k hk).2 h4
     exact ⟨.int g,m4,by simp only [clr,EVs,gq0,gq1,gq2,gq3,h4'],s4,rfl,k,g,rfl,rfl,g1,g2⟩)
   have e3':evE (Cn pg (n+1+1)) (.frz (.comp (.gen (.var 6) [6] (.var 3) .nil (.elt (.call 27 (.cons (.var 0) (.cons (.var 6) (.cons (.var 5) (.cons (.var 1) .nil))))))))) ((clr [5] [some (.ref p),some (.int many),some (.int aT),some (.fz (ks.map λ k=>W.int (k:Nat))),none,none,none]).set 5 (some (.int s))) M=.ok (.fz ws3) m3:=by simp only [clr,gq0,gq1,gq2,gq3]; exact e3
   obtain ⟨gs,rfl,_⟩:=lK (P:=λ _=>True) (ws:=ws3) λ w hw=>by
    obtain ⟨j,hj,rfl⟩:=List.getElem_of_mem hw
    obtain ⟨k,g,_,h,_⟩:=r3 j (by omega) hj
    exact ⟨g,h,trivial⟩
   have hgl:gs.length=ks.length:=by simpa using l3
   refine ⟨_,m3,e3',s3,by simp only [ao]; exact g8 (λ _=>rfl) _,λ s' hs'=>?_⟩
   have:s=s':=BK hs'
   subst this
   refine ⟨gs,rfl,hgl,λ j h h'=>?_⟩
   obtain ⟨k,g,hk,hg,g1,g2⟩:=r3 j (by simpa using h') (by simpa using h)
   rw [List.getElem_map] at hk hg
   have a1:ks[j]=k:=BK hk
   have a2:gs[j]=g:=BK hg
   rw [a1,a2]; exact ⟨g1,g2⟩)
 have hR:∃G:List (List Nat),ws2=G.map (λ gs=>W.fz (gs.map λ k=>W.int (k:Nat)))/\G.length=many/\∀(s:Nat) (h:s < G.length),G[s].length=ks.length/\∀(j:Nat) (h:j < G[s].length) (h':j < ks.length),G[s][j]∈stay ks[j] many/\(s∈stay ks[j] many->G[s][j]=s):=by
  have hw:ws2.length=many:=by simpa using l2
  have hall:∀(s:Nat) (h:s < ws2.length),∃gs:List Nat,ws2[s]=.fz (gs.map λ k=>W.int (k:Nat))/\gs.length=ks.length/\∀(j:Nat) (h:j < gs.length) (h':j < ks.length),gs[j]∈stay ks[j] many/\(s∈stay ks[j] many->gs[j]=s):=λ s h=>
   r2 s (by simpa using hw▸h) h s (by rw [List.getElem_map,List.getElem_range])
  refine ⟨(List.range many).map λ s=>if h:s < ws2.length then (hall s h).choose else [],?_,by simp,λ s h=>?_⟩
  ·refine List.ext_getElem (by simp [hw]) λ s h h'=>?_
   have hs:=(hall s h).choose_spec.1
   rw [List.getElem_map,List.getElem_map,List.getElem_range,dif_pos h]
   exact hs
  ·have h':s < ws2.length:=by simpa [hw] using h
   have:=(hall s h').choose_spec.2
   rw [List.getElem_map,List.getElem_range,dif_pos h']
   exact this
 obtain ⟨G,rfl,hGl,hG⟩:=hR
 refine ⟨G.map (λ gs=>gs.map λ k:Nat=>(k:Int)),m2,?_,s1.trans s2,by simpa using hGl,λ ns hns=>?_,λ i hi x hx=>?_⟩
 ·rw [aX rfl]
  refine bq (d:=⟨3,7,b28⟩) rfl rfl ?_
  show aE _ b28 [some (.ref p),some (.int many),some (.int aT),none,none,none,none] m=_
  rw [b28,ai (aM e1 rfl)]
  simp only [gq0,gq1,gq2,gq3]
  rw [bf (br e2),List.map_map]
  have:(λ gs:List Nat=>W.fz (gs.map λ k=>W.int (k:Nat)))=fzI∘λ gs=>gs.map λ k:Nat=>(k:Int):=by
   funext gs
   simp only [Function.comp,fzI,List.map_map]
   rfl
  rw [this]
 ·obtain ⟨gs,hgs,rfl⟩:=List.mem_map.mp hns
  obtain ⟨s,hs,rfl⟩:=List.getElem_of_mem hgs
  obtain ⟨a1,a2⟩:=hG s hs
  refine ⟨by simp [a1,hkl],λ x hx=>?_⟩
  obtain ⟨k,hk,rfl⟩:=List.mem_map.mp hx
  obtain ⟨j,hj,rfl⟩:=List.getElem_of_mem hk
  have:=(a2 j hj (by omega)).1
  have:=List.mem_range.mp ((List.mem_filter.mp this).1)
  omega
 ·have hi':i < G.length:=by simpa using hi
  obtain ⟨a1,a2⟩:=hG i hi'
  have hx':x < G[i].length:=by simpa using hx
  have hxk:x < ks.length:=by omega
  obtain ⟨b1,b2⟩:=a2 x hx' hxk
  have hgk:G[i][x] < many:=List.mem_range.mp ((List.mem_filter.mp b1).1)
  obtain ⟨c1,c2⟩:=hG G[i][x] (by omega)
  refine ⟨G[i][x],by simp [hGl,hgk],by simp [c1,hxk],by simp,?_⟩
  have:=(c2 x (by omega) hxk).2 b1
  simp only [List.getElem_map]
  rw [this]
end My
end
section
namespace My
open PySem D
section
variable {C:D.Cx} {i:Nat} {js:List Nat} {it e:E} {ρ:D.Loc} {m:Mem} {xs:List W} {s:Src}
theorem vD (I:Nat->Mem->List W->Prop) (hI:evI C it ρ m=.ok s m) (hg:∀M j,I j M=I j M->s.get M j=Src.get (.tup xs) M j) (hn:s.len m=xs.length) (hl:xs.length<=lim) (h0:I 0 m [])
  (hs:∀(j:Nat) (h:j < xs.length) (M:Mem) (acc:List W),I j M acc->acc.length=j->∃w M2,evE C e ((clr js ρ).set i (some xs[j])) M=.ok w M2/\ao w=true/\I (j+1) M2 (acc++[w]))
  (hf:∀M acc,I xs.length M acc->M.length=m.length/\Cm M) :
  ∃ws m',evE C (.frz (.comp (.gen (.var i) js it .nil (.elt e)))) ρ m=.ok (.fz ws) m'/\I xs.length m' ws/\ws.length=xs.length:=by
 obtain ⟨acc,ρ',m',e1,h1,h2,h3,h4⟩:=bQ (get:=s.get) (t:=.var i) (test:=fun ρ m=>aF C .nil ρ m) (body:=fun ρ m acc=>evG C (.elt e) ρ m acc) (n:=xs.length)
  (λ j ρ1 m1 acc=>(∀o,ρ1.set i o=(clr js ρ).set i o)/\I j m1 acc/\acc.length=j/\∀w∈acc,ao w=true) (λ j ρ1 m1 acc hj=>by
   rintro ⟨h1,h2,h3,h4⟩
   obtain ⟨w,m2,e1,e3,e4⟩:=hs j hj m1 acc h2 h3
   refine ⟨xs[j],(clr js ρ).set i (some xs[j]),by rw [hg m1 j rfl,aJ hj],by simp only [au,h1],.inl ⟨m1,acc++[w],(clr js ρ).set i (some xs[j]),m2,by simp only [aF],?_,λ o=>by simp,e4,by simp [h3],λ y hy=>?_⟩⟩
   ·have:acc.length < lim:=by omega
    simp only [evG,e1,R.bind,this,if_true]
   ·rcases List.mem_append.mp hy with hy | hy
    ·exact h4 y hy
    ·rw [List.mem_singleton] at hy; subst hy; exact e3) (fun ρ m acc _=>by rw [hg m _ rfl]; exact aD (by omega)) xs.length 0 (clr js ρ) m [] (by omega) ⟨λ _=>rfl,h0,rfl,by simp⟩
 obtain ⟨f1,f2⟩:=hf _ _ h2
 exact ⟨acc,m',bX (m0:=m') (cR (js:=js) (ifs:=.nil) (g:=.elt e) hI (by rw [hn]; exact e1)) f1 f2 (bg.mpr h4),h2,h3⟩
theorem vE (I:Nat->Mem->List W->Prop) (hI:evI C it ρ m=.ok s m) (hg:∀M j,I j M=I j M->s.get M j=Src.get (.tup xs) M j) (hn:s.len m=xs.length) (hl:xs.length<=lim) (h0:I 0 m [])
  (hs:∀(j:Nat) (h:j < xs.length) (M:Mem) (acc:List W),I j M acc->acc.length=j->∃w M2,evE C e ((clr js ρ).set i (some xs[j])) M=.ok w M2/\ao w=true/\I (j+1) M2 (acc++[w])) :
  ∃ws m',evE C (.comp (.gen (.var i) js it .nil (.elt e))) ρ m=.ok (.ref m'.length) (m'++[.lst ws])/\I xs.length m' ws/\ws.length=xs.length/\ah ws=true:=by
 obtain ⟨acc,ρ',m',e1,h1,h2,h3,h4⟩:=bQ (get:=s.get) (t:=.var i) (test:=fun ρ m=>aF C .nil ρ m) (body:=fun ρ m acc=>evG C (.elt e) ρ m acc) (n:=xs.length)
  (λ j ρ1 m1 acc=>(∀o,ρ1.set i o=(clr js ρ).set i o)/\I j m1 acc/\acc.length=j/\∀w∈acc,ao w=true) (λ j ρ1 m1 acc hj=>by
   rintro ⟨h1,h2,h3,h4⟩
   obtain ⟨w,m2,e1,e3,e4⟩:=hs j hj m1 acc h2 h3
   refine ⟨xs[j],(clr js ρ).set i (some xs[j]),by rw [hg m1 j rfl,aJ hj],by simp only [au,h1],.inl ⟨m1,acc++[w],(clr js ρ).set i (some xs[j]),m2,by simp only [aF],?_,λ o=>by simp,e4,by simp [h3],λ y hy=>?_⟩⟩
   ·have:acc.length < lim:=by omega
    simp only [evG,e1,R.bind,this,if_true]
   ·rcases List.mem_append.mp hy with hy | hy
    ·exact h4 y hy
    ·rw [List.mem_singleton] at hy; subst hy; exact e3) (fun ρ m acc _=>by rw [hg m _ rfl]; exact aD (by omega)) xs.length 0 (clr js ρ) m [] (by omega) ⟨λ _=>rfl,h0,rfl,by simp⟩
 exact ⟨acc,m',cR (js:=js) (ifs:=.nil) (g:=.elt e) hI (by rw [hn]; exact e1),h2,h3,bg.mpr h4⟩
end
structure Wst (p q L:Nat) (Z M:Mem) (tk:List Str):Prop where
 fr:∀i,i≠p->i≠q->M[i]?=Z[i]?
 pot:Pot M p
 cm:Cm M
 len:M.length=L
 at_:M[q]?=some (.lst (tk.map .str))
 wd:∀z∈tk,Wd z
 nd:tk.Nodup
theorem Wst.step {n p q L:Nat} {Z M:Mem} {tk:List Str} (h:Wst p q L Z M tk) (hpq:p≠q) (hl:tk.length<=20):∃z M2,aA (D.runN pg (n+1+1) 26) [.ref p,.ref q] M=.ok (.str z) M2/\Wst p q L Z M2 (tk++[z]):=by
 obtain ⟨z,m1,e,s,hz,hnz⟩:=word (n:=n) h.pot h.cm hpq h.at_ h.wd hl
 have hq:q < m1.length:=by rw [s.len]; exact (List.getElem?_eq_some_iff.mp h.at_).1
 obtain ⟨A,B,hA⟩:=s.pot h.pot
 refine ⟨z,_,e,λ i h1 h2=>?_,⟨A,B,?_⟩,(s.cm h.cm).set (bB _ (cL _)),by rw [List.length_set,s.len,h.len],List.getElem?_set_self hq,λ y hy=>?_,?_⟩
 ·rw [List.getElem?_set_ne h2.symm,s.ne h1.symm]; exact h.fr i h1 h2
 ·rw [List.getElem?_set_ne hpq.symm]; exact hA
 ·rcases List.mem_append.mp hy with hy | hy
  ·exact h.wd y hy
  ·rw [List.mem_singleton] at hy; exact hy▸hz
 ·rw [List.nodup_append]
  refine ⟨h.nd,by simp,λ a ha b hb=>?_⟩
  rw [List.mem_singleton] at hb
  rintro rfl
  exact hnz (hb▸ha)
theorem BN {n p q L k:Nat} {Z M:Mem} {tk:List Str} {ρ:D.Loc} (h:Wst p q L Z M tk) (hpq:p≠q) (hl:tk.length+k<=20) (hI:evI (Cn pg (n+1+1)) (.rng (.var 7)) ρ M=.ok (.rng 0 k) M) (h0:∀o,((clr [8] ρ).set 8 o)[0]?=some (some (.ref p))) (h1:∀o,((clr [8] ρ).set 8 o)[1]?=some (some (.ref q))) :
  ∃zs M2,evE (Cn pg (n+1+1)) (.frz (.comp (.gen (.var 8) [8] (.rng (.var 7)) .nil (.elt (.call 26 (.cons (.var 0) (.cons (.var 1) .nil))))))) ρ M=.ok (fzS zs) M2/\zs.length=k/\Wst p q L Z M2 (tk++zs):=by
 obtain ⟨ws,M2,e,⟨zs,rfl,hw⟩,hlen⟩:=vD (C:=Cn pg (n+1+1)) (i:=8) (js:=[8]) (it:=.rng (.var 7)) (e:=.call 26 (.cons (.var 0) (.cons (.var 1) .nil))) (ρ:=ρ) (m:=M) (xs:=(List.range k).map λ t=>W.int (t:Nat)) (λ j M acc=>∃zs:List Str,acc=zs.map .str/\Wst p q L Z M (tk++zs)) hI (λ M j _=>fm k M j) (by simp [Src.len]) (by simp [lim]; omega) ⟨[],rfl,by simpa using h⟩ (λ j hj M acc ⟨zs,ha,hw⟩ hac=>by
   obtain ⟨z,M2,e,hw2⟩:=hw.step (n:=n) hpq (by
    have:zs.length=j:=by rw [<-hac,ha]; simp
    simp at hj
    simp
    omega)
   refine ⟨.str z,M2,?_,rfl,zs++[z],by simp [ha],by rw [<-List.append_assoc]; exact hw2⟩
   simp only [EVs,h0,h1,e]) (λ M acc ⟨zs,_,hw⟩=>⟨by rw [hw.len,h.len],hw.cm⟩)
 exact ⟨zs,M2,e,by simpa using hlen,hw⟩
theorem yk {m:Mem} {R:List (List Int)}:Rows m (.fz (R.map fzI)) (R.map fzI) R:=
 ⟨rfl,by simp,λ i h h'=>by rw [List.getElem_map]; rfl,λ _ r hr=>by
  obtain ⟨a,_,rfl⟩:=List.mem_map.mp hr
  simp [ao,bO]⟩
theorem yl {m:Mem} {R:List (List Int)}:Rows m (.fz (R.map tupI)) (R.map tupI) R:=
 ⟨rfl,by simp,λ i h h'=>by rw [List.getElem_map]; rfl,λ _ r hr=>by
  obtain ⟨a,_,rfl⟩:=List.mem_map.mp hr
  simp [ao,bO]⟩
theorem DR (R:List (List Int)):ah (R.map fzI)=true:=g8 (λ r=>by simp [ao,bO]) R
theorem ym {n p:Nat} {M:Mem} {ls:List Str} {ρ:D.Loc} (hp:Pot M p) (hm:Cm M) (hl:ls.length<=2) (hI:evI (Cn pg (n+1)) (.idx (.var 5) (.cst (.int 2))) ρ M=.ok (.tup (ls.map .str)) M) (h0:∀o,((clr [10] ρ).set 10 o)[0]?=some (some (.ref p))) :
  ∃(ns:List Int) (M2:Mem),evE (Cn pg (n+1)) (.blt .tuple (.cons (.frz (.comp (.gen (.var 10) [10] (.idx (.var 5) (.cst (.int 2))) .nil (.elt (.call 25 (.cons (.var 0) (.cons (.cst (.int 2)) .nil))))))) .nil)) ρ M=.ok (tupI ns) M2/\PS p M M2/\ns.length=ls.length/\∀x∈ns,0<=x/\x < (2:Int):=by
 obtain ⟨ws,M2,e,s,hlen,hr⟩:=gk (C:=Cn pg (n+1)) (i:=10) (p:=p) (js:=[10]) (it:=.idx (.var 5) (.cst (.int 2))) (e:=.call 25 (.cons (.var 0) (.cons (.cst (.int 2)) .nil))) (ρ:=ρ) (m:=M) (xs:=ls.map .str) (Rr:=λ _ w=>∃k:Nat,w=.int k/\k < 2) hp hm hI (λ _ _=>rfl) rfl (by simp [lim]; omega) (λ x _ M1 s1=>by
  obtain ⟨d,M2,hd,s2,d1⟩:=draw (n:=n) (many:=2) (s1.pot hp) (by decide) (by decide)
  exact ⟨.int d,M2,by simp only [EVs,h0,hd],s2,rfl,d,rfl,by omega⟩)
 obtain ⟨ks,rfl,hks⟩:=lK (P:=λ k=>k < 2) (ws:=ws) λ w hw=>by
  obtain ⟨j,hj,rfl⟩:=List.getElem_of_mem hw
  exact hr j (by omega) hj
 refine ⟨ks.map λ k:Nat=>(k:Int),M2,?_,s,by simpa using hlen,λ x hx=>?_⟩
 ·rw [dY,bh,e]
  simp only [aN,bI,aP,aC,getL,tupI,List.map_map]
  rfl
 ·obtain ⟨k,hk,rfl⟩:=List.mem_map.mp hx
  have:=hks k hk
  omega
end My
end
section
namespace My
open PySem D
theorem yo {ws:List W} {P:List Int->Prop} (h:∀w∈ws,∃k,w=tupI k/\P k):∃ks:List (List Int),ws=ks.map tupI/\∀k∈ks,P k:=by
 induction ws with
 | nil=>exact ⟨[],rfl,by simp⟩
 | cons w r ih=>
  obtain ⟨k,rfl,hk⟩:=h w List.mem_cons_self
  obtain ⟨ks,rfl,hks⟩:=ih λ w hw=>h w (List.mem_cons_of_mem _ hw)
  exact ⟨k::ks,rfl,λ x hx=>(List.mem_cons.mp hx).elim (λ e=>e▸hk) (hks x)⟩
theorem table {n p:Nat} {m:Mem} (hp:Pot m p) (hm:Cm m) :
  ∃ks ss ls R L m',aA (D.runN pg (n+1+1+1+1+1) 29) [.ref p] m=.ok (.tup [tab ks ss ls R L,.fz (R.map fzI)]) m'/\Pot m' p/\Cm m'/\TabOk ks ss ls R L/\∀i,i < m.length->i≠p->m'[i]?=m[i]?:=by
 have hpl:=hp.lt
 have hpq:p≠m.length:=by omega
 have p1:Pot (m++[.lst []]) p:=hp.app
 have c1:Cm (m++[.lst []]):=hm.push rfl
 obtain ⟨d,m2,hd,s2,d1⟩:=draw (n:=n+1+1+1) (many:=3) p1 (by decide) (by decide)
 obtain ⟨a,m3,ha,s3,a1⟩:=draw (n:=n+1+1+1) (many:=3) (s2.pot p1) (by decide) (by decide)
 obtain ⟨c,m4,hc,s4,b1⟩:=draw (n:=n+1+1+1) (many:=3) (s3.pot (s2.pot p1)) (by decide) (by decide)
 have s24:=s2.trans (s3.trans s4)
 have p4:=s24.pot p1
 have c4:=s24.cm c1
 have hpw:2^a<=4:=gM (by omega)
 obtain ⟨R,m5,hR,s5,⟨rl,re,rs⟩⟩:=DQ (n:=n+1) (many:=2+d) (aT:=2^a) p4 c4 (by omega) (by omega) hpw
 have s25:=s24.trans s5
 have hq5:m5[m.length]?=some (.lst (([]:List Str).map .str)):=by rw [s25.ne hpq]; simp
 have w5:Wst p m.length (m.length+1) (m++[.lst []]) m5 []:=⟨λ i h1 _=>s25.ne h1.symm,s25.pot p1,s25.cm c1,by rw [s25.len]; simp,hq5,by simp,by simp⟩
 have eW:∀(o6:Option W),evI (Cn pg (n+1+1+1+1)) (.var 3) [some (.ref p),some (.ref m.length),some (.int (2+d:Nat)),some (.fz [.int a,.int (2+d:Nat),.int c]),some (.fz (R.map fzI)),none,none,none,none,none,none] m5=.ok (.tup [.int a,.int (2+d:Nat),.int c]) m5:=λ _=>by rw [fG]; simp only [EVs,gq0,gq1,gq2,gq3]; rfl
 obtain ⟨ws,m6,e6,⟨zss,rfl,hz,w6⟩,l6⟩:=vD (C:=Cn pg (n+1+1+1+1)) (i:=7) (js:=[7]) (it:=.var 3) (e:=.frz (.comp (.gen (.var 8) [8] (.rng (.var 7)) .nil (.elt (.call 26 (.cons (.var 0) (.cons (.var 1) .nil))))))) (ρ:=[some (.ref p),some (.ref m.length),some (.int (2+d:Nat)),some (.fz [.int a,.int (2+d:Nat),.int c]),some (.fz (R.map fzI)),none,none,none,none,none,none]) (m:=m5) (xs:=[.int a,.int (2+d:Nat),.int c])
  (λ j M acc=>∃zss:List (List Str),acc=zss.map fzS/\zss.map List.length=[a,2+d,c].take j/\Wst p m.length (m.length+1) (m++[.lst []]) M zss.flatten) (eW none) (λ _ _ _=>rfl) rfl (by simp [lim]) ⟨[],rfl,rfl,w5⟩ (λ j hj M acc ⟨zss,ha',hz,hw⟩ hac=>by
   have hj3:j < 3:=hj
   have hk:∃k:Nat,([.int a,.int (2+d:Nat),.int c]:List W)[j]=.int k/\[a,2+d,c][j]?=some k/\k<=4:=by
    match j,hj3 with
    | 0,_=>exact ⟨a,rfl,rfl,by omega⟩
    | 1,_=>exact ⟨2+d,rfl,rfl,by omega⟩
    | 2,_=>exact ⟨c,rfl,rfl,by omega⟩
   obtain ⟨k,hk1,hk2,hk3⟩:=hk
   have hfl:zss.flatten.length<=12:=by
    rw [List.length_flatten,hz]
    match j,hj3 with
    | 0,_=>simp
    | 1,_=>simp; omega
    | 2,_=>simp; omega
   rw [hk1]
   obtain ⟨zs,M2,e,hzl,hw2⟩:=BN (n:=n+1+1) (k:=k) (ρ:=(clr [7] [some (.ref p),some (.ref m.length),some (.int (2+d:Nat)),some (.fz [.int a,.int (2+d:Nat),.int c]),some (.fz (R.map fzI)),none,none,none,none,none,none]).set 7 (some (.int k))) hw hpq (by omega) (iB (by simp only [clr,EVs,gq0,gq1,gq2,gq3]) (by omega)) (λ o=>by simp only [clr,gq0,gq1,gq2,gq3]) (λ o=>by simp only [clr,gq0,gq1,gq2,gq3])
   refine ⟨fzS zs,M2,e,by simp only [ao]; exact cL _,zss++[zs],by simp [ha'],?_,by simpa using hw2⟩
   rw [List.map_append,hz,List.take_add_one,hk2]
   simp [hzl]) (λ M acc ⟨zss,_,_,hw⟩=>⟨by rw [hw.len,w5.len],hw.cm⟩)
 obtain ⟨ks,ss,ls,rfl⟩:∃ks ss ls,zss=[ks,ss,ls]:=by
  have:zss.length=3:=by simpa using congrArg List.length hz
  match zss,this with
  | [x,y,z],_=>exact ⟨x,y,z,rfl⟩
 have hz:ks.length=a/\ss.length=2+d/\ls.length=c:=by simpa using hz
 obtain ⟨z1,z2,z3⟩:=hz
 obtain ⟨ws,m7,e7,s7,l7,r7⟩:=gk (C:=Cn pg (n+1+1+1+1)) (i:=9) (p:=p) (js:=[9]) (it:=.rng (.var 2)) (e:=.blt .tuple (.cons (.frz (.comp (.gen (.var 10) [10] (.idx (.var 5) (.cst (.int 2))) .nil (.elt (.call 25 (.cons (.var 0) (.cons (.cst (.int 2)) .nil))))))) .nil)) (ρ:=[some (.ref p),some (.ref m.length),some (.int (2+d:Nat)),some (.fz [.int a,.int (2+d:Nat),.int c]),some (.fz (R.map fzI)),some (.fz ([ks,ss,ls].map fzS)),none,none,none,none,none]) (m:=m6) (xs:=(List.range (2+d)).map λ t=>W.int (t:Nat)) (Rr:=λ _ w=>∃ns,w=tupI ns/\(ns.length=ls.length/\∀x∈ns,0<=x/\x < (2:Int))) w6.pot w6.cm (iB (by simp only [EVs,gq0,gq1,gq2,gq3]) (by omega)) (fm _) (by simp [Src.len]) (by simp [lim]; omega) (λ x hx M sM=>by
   obtain ⟨ns,M2,e,s,h1,h2⟩:=ym (n:=n+1+1+1) (ls:=ls) (ρ:=(clr [9] [some (.ref p),some (.ref m.length),some (.int (2+d:Nat)),some (.fz [.int a,.int (2+d:Nat),.int c]),some (.fz (R.map fzI)),some (.fz ([ks,ss,ls].map fzS)),none,none,none,none,none]).set 9 (some x)) (sM.pot w6.pot) (sM.cm w6.cm) (by omega) (by rw [zm]; simp only [clr,EVs,gq0,gq1,gq2,gq3,aQ,aC,getL,List.map_cons,List.map_nil,L2.atI,L2.ixN]; rfl) (λ o=>by simp only [clr,gq0,gq1,gq2,gq3])
   exact ⟨tupI ns,M2,e,s,by simp [ao,bO],ns,rfl,h1,h2⟩)
 obtain ⟨Lg,rfl,hLg⟩:=yo (P:=λ ns=>ns.length=ls.length/\∀x∈ns,0<=x/\x < (2:Int)) (ws:=ws) λ w hw=>by
  obtain ⟨j,hj,rfl⟩:=List.getElem_of_mem hw
  exact r7 j (by omega) hj
 have hLl:Lg.length=2+d:=by simpa using l7
 have ok:TabOk ks ss ls R Lg:=by
  refine ⟨λ z hz=>w6.wd z (by simpa [or_assoc] using hz),by simpa using w6.nd,by omega,by omega,by omega,by omega,by omega,by omega,λ ns hns=>?_,λ ns hns=>hLg ns hns,rs⟩
  obtain ⟨q1,q2⟩:=re ns hns
  exact ⟨by rw [q1,z1],λ x hx=>by rw [z2]; exact q2 x hx⟩
 refine ⟨ks,ss,ls,R,Lg,m7,?_,s7.pot w6.pot,s7.cm w6.cm,ok,λ i h1 h2=>by rw [s7.ne h2.symm,w6.fr i h2 (by omega),List.getElem?_append_left h1]⟩
 have hsh:(0:Int)<=a/\(a:Int)<=1000000/\(1:Int).natAbs < 2^64:=⟨by omega,by omega,by decide⟩
 have hpe:(1:Int)*2^a=((2^a:Nat):Int):=by simp
 have f3:evE (Cn pg (n+1+1+1+1)) (.frz (.lst (.cons (.call 25 (.cons (.var 0) (.cons (.cst (.int 3)) .nil))) (.cons (.var 2) (.cons (.call 25 (.cons (.var 0) (.cons (.cst (.int 3)) .nil))) .nil))))) [some (.ref p),some (.ref m.length),some (.int (2+d:Nat)),none,none,none,none,none,none,none,none] m2=.ok (.fz [.int a,.int (2+d:Nat),.int c]) m4:=by
  refine bX (m0:=m4) ?_ (by rw [(s3.trans s4).len]) c4 rfl
  simp only [EVs,gq0,gq1,gq2,gq3,ha,hc,new,lim]
  rfl
 have f4:evE (Cn pg (n+1+1+1+1)) (.frz (.call 28 (.cons (.var 0) (.cons (.var 2) (.cons (.bin .LShift (.cst (.int 1)) (.idx (.var 3) (.cst (.int 0)))) .nil))))) [some (.ref p),some (.ref m.length),some (.int (2+d:Nat)),some (.fz [.int a,.int (2+d:Nat),.int c]),none,none,none,none,none,none,none] m4=.ok (.fz (R.map fzI)) m5:=by
  refine yb (m0:=m5) ?_ s5.len (s5.cm c4) (by simp only [ao]; exact DR _)
  have hix:=dG (m:=m4) (w:=.fz [.int a,.int (2+d:Nat),.int c]) (xs:=[.int a,.int (2+d:Nat),.int c]) (i:=0) rfl (by simp)
  simp only [EVs,gq0,gq1,gq2,gq3]
  rw [show ((0:Nat):Int)=0 from rfl] at hix
  simp only [hix,List.getElem_cons_zero,aN,binop,Int.toNat_natCast]
  rw [if_pos hsh]
  simp only [aN,hpe,hR]
 have f7:∀M,aI (Cn pg (n+1+1+1+1)) (.cons (.idx (.var 5) (.cst (.int 0))) (.cons (.idx (.var 5) (.cst (.int 1))) (.cons (.idx (.var 5) (.cst (.int 2))) (.cons (.var 4) (.cons (.var 6) .nil))))) [some (.ref p),some (.ref m.length),some (.int (2+d:Nat)),some (.fz [.int a,.int (2+d:Nat),.int c]),some (.fz (R.map fzI)),some (.fz ([ks,ss,ls].map fzS)),some (.fz (Lg.map tupI)),none,none,none,none] M=.ok [fzS ks,fzS ss,fzS ls,.fz (R.map fzI),.fz (Lg.map tupI)] M:=λ M=>by
  simp only [EVs,gq0,gq1,gq2,gq3,aQ,aC,getL,List.map_cons,List.map_nil,L2.atI,L2.ixN]
  rfl
 rw [aX rfl]
 refine bq (d:=⟨1,11,b29⟩) rfl rfl ?_
 show aE _ b29 [some (.ref p),none,none,none,none,none,none,none,none,none,none] m=_
 rw [b29,ai (ρ1:=[some (.ref p),some (.ref m.length),none,none,none,none,none,none,none,none,none]) (m1:=m++[.lst []]) (aM (w:=.ref m.length) (by simp only [EVs,new,List.length_nil]; rw [if_pos (Nat.zero_le _)]) rfl),
  ai (ρ1:=[some (.ref p),some (.ref m.length),some (.int (2+d:Nat)),none,none,none,none,none,none,none,none]) (m1:=m2) (aM (w:=.int (2+d:Nat)) (by simp only [EVs,gq0,gq1,gq2,gq3,hd,binop]; rfl) rfl),
  ai (aM f3 rfl)]
 simp only [gq0,gq1,gq2,gq3]
 rw [ai (aM f4 rfl)]
 simp only [gq0,gq1,gq2,gq3]
 rw [ai (aM e6 rfl)]
 simp only [gq0,gq1,gq2,gq3]
 rw [ai (aM e7 rfl)]
 simp only [gq0,gq1,gq2,gq3]
 rw [bf (br (w:=.tup [tab ks ss ls R Lg,.fz (R.map fzI)]) (m1:=m7) ?_)]
 have ht:=o8 (n:=n) (ρ:=[some (.ref p),some (.ref m.length),some (.int (2+d:Nat)),some (.fz [.int a,.int (2+d:Nat),.int c]),some (.fz (R.map fzI)),some (.fz ([ks,ss,ls].map fzS)),some (.fz (Lg.map tupI)),none,none,none,none]) (f7 m7) (s7.cm w6.cm) ⟨rfl,rfl,rfl,yk,yl⟩ ok
 simp only [ve,bh,ht,aN]
 simp only [EVs,gq0,gq1,gq2,gq3]
 exact if_pos (by simp [lim])
end My
end
section
namespace My
open PySem D
noncomputable def af:Nat->List (List Int)
 | 0=>[[]]
 | n+1=>(af n).map (0::·)++(af n).map (1::·)
noncomputable def fq (m:Mem):Bool:=m.all λ o=>match o with | .lst xs=>ah xs | _=>false
noncomputable def gO:List W->List Int->Bool
 | [],[]=>true
 | .int a::r,b::s=>a==b&&gO r s
 | _,_=>false
noncomputable def eqN:List W->List (List Int)->Bool
 | [],[]=>true
 | .tup a::r,b::s=>gO a b&&eqN r s
 | _,_=>false
noncomputable def gP (k:Nat):R W->Bool
 | .ok (.ref j) M=>j==k+1&&M.length==k+2&&(match M[k+1]? with | some (.lst xs)=>eqN xs (af k) | _=>false)&&fq M
 | _=>false
theorem DS {n:Nat}:gP 1 (D.runN pg (n+1) 30 [.int 1] [])=true:=by kernel_rfl
theorem DT {n:Nat}:gP 2 (D.runN pg (n+1) 30 [.int 2] [])=true:=by kernel_rfl
theorem DU {n:Nat}:gP 3 (D.runN pg (n+1) 30 [.int 3] [])=true:=by kernel_rfl
theorem DV {n:Nat}:gP 4 (D.runN pg (n+1) 30 [.int 4] [])=true:=by kernel_rfl
theorem yp:∀{ws:List W} {ns:List Int},gO ws ns=true->ws=ns.map .int:=by
 intro ws
 induction ws with
 | nil=>intro ns h; cases ns with | nil=>rfl | cons a r=>simp [gO] at h
 | cons w r ih=>
  intro ns h
  cases ns with
  | nil=>simp [gO] at h
  | cons a s=>
   cases w<;>simp [gO] at h
   rw [h.1,ih h.2]; rfl
theorem o9:∀{ws:List W} {ns:List (List Int)},eqN ws ns=true->ws=ns.map tupI:=by
 intro ws
 induction ws with
 | nil=>intro ns h; cases ns with | nil=>rfl | cons a r=>simp [eqN] at h
 | cons w r ih=>
  intro ns h
  cases ns with
  | nil=>simp [eqN] at h
  | cons a s=>
   cases w<;>simp [eqN] at h
   rw [yp h.1,ih h.2]; rfl
theorem yq {n:Nat} {k:Nat} (h1:1<=k) (h4:k<=4):∃M,D.runN pg (n+1) 30 [.int k] []=.ok (.ref (k+1)) M/\M.length=k+2/\M[k+1]?=some (.lst ((af k).map tupI))/\fq M=true:=by
 have h:gP k (D.runN pg (n+1) 30 [.int k] [])=true:=by
  rcases (by omega:k=1\/k=2\/k=3\/k=4) with rfl | rfl | rfl | rfl
  ·exact DS
  ·exact DT
  ·exact DU
  ·exact DV
 generalize D.runN pg (n+1) 30 [.int k] []=r at h
 match r,h with
 | .ok (.ref j) M,h=>
  simp only [gP,Bool.and_eq_true,beq_iff_eq] at h
  obtain ⟨⟨⟨rfl,h2⟩,h3⟩,h4⟩:=h
  refine ⟨M,rfl,h2,?_,h4⟩
  split at h3
  ·rename_i xs e
   rw [e,o9 h3]
  ·cases h3
end My
end
section
namespace My
open PySem D
theorem yr (k:Nat) {w:W}:ao w=true->shW k w=w:=
 W.rec (motive_1:=λ w=>ao w=true->shW k w=w) (motive_2:=λ w=>ah w=true->jj k w=w) (λ _=>rfl) (λ _ _=>rfl) (λ _ _=>rfl) (λ _ _=>rfl)
  (λ _ i e=>congrArg W.tup (i e)) (λ _ i e=>congrArg W.fz (i e)) (λ c ks _ i e=>congrArg (W.obj c ks) (i e)) (λ _ e=>nomatch (show false=true from e)) (λ _=>rfl) (λ x r a b e=>by
   have e:=Bool.and_eq_true_iff.mp e
   show shW k x::jj k r=x::r
   rw [a e.1,b e.2]) w
theorem jw (k:Nat) {w:List W} (e:ah w=true):jj k w=w:=by
 induction w with
 | nil=>rfl
 | cons x r ih=>
  have e:=Bool.and_eq_true_iff.mp e
  show shW k x::jj k r=x::r
  rw [yr k e.1,ih e.2]
theorem vF (k:Nat) {M:Mem} (e:fq M=true):M.map (shO k)=M:=by
 induction M with
 | nil=>rfl
 | cons o r ih=>
  simp only [fq,List.all_cons,Bool.and_eq_true] at e
  rw [List.map_cons,ih (by simpa [fq] using e.2)]
  cases o with
  | lst xs=>rw [shO,jw k e.1]
  | _=>cases e.1
theorem BO {m M:Mem} (h:Cm m) (e:fq M=true):Cm (m++M):=h.app λ o ho=>by
 have:=List.all_eq_true.mp e o ho
 cases o with
 | lst xs=>exact bB _ this
 | _=>cases this
theorem nj (k:Nat):(af k).length=2^k:=by
 induction k with
 | zero=>rfl
 | succ k ih=>rw [af,List.length_append,List.length_map,List.length_map,ih,Nat.pow_succ]; omega
theorem yt:∀k:Nat,(af k).Nodup:=by
 intro k
 induction k with
 | zero=>simp [af]
 | succ k ih=>
  rw [af,List.nodup_append]
  have hc:∀b:Int,((af k).map (b::·)).Nodup:=λ b=>by
   rw [List.nodup_iff_pairwise_ne,List.pairwise_map]
   exact List.Pairwise.imp (λ {x y} h e=>h (List.cons.inj e).2) (List.nodup_iff_pairwise_ne.mp ih)
  refine ⟨hc 0,hc 1,λ a ha b hb=>?_⟩
  obtain ⟨x,_,rfl⟩:=List.mem_map.mp ha
  obtain ⟨y,_,rfl⟩:=List.mem_map.mp hb
  intro e
  have:=(List.cons.inj e).1
  omega
theorem pe {α:Type}:∀{l:List α} {d:Nat} (h:d < l.length),(l[d]::l.eraseIdx d).Perm l:=by
 intro l
 induction l with
 | nil=>intro d h; simp at h
 | cons x r ih=>
  intro d h
  cases d with
  | zero=>exact List.Perm.refl _
  | succ d=>
   have hd:d < r.length:=by simpa using h
   show (r[d]::x::r.eraseIdx d).Perm (x::r)
   exact (List.Perm.swap x r[d] _).trans ((ih hd).cons x)
theorem lM {α β:Type} (f:α->β):∀(l:List α) (d:Nat),(l.map f).eraseIdx d=(l.eraseIdx d).map f:=by
 intro l
 induction l with
 | nil=>intro d; rfl
 | cons x r ih=>
  intro d
  cases d with
  | zero=>rfl
  | succ d=>show f x::(r.map f).eraseIdx d=_; rw [ih]; rfl
structure Nst (p q L:Nat) (all:List (List Int)) (Z M:Mem) (ns rest:List (List Int)):Prop where
 fr:∀i,i≠p->i≠q->M[i]?=Z[i]?
 pot:Pot M p
 cm:Cm M
 len:M.length=L
 at_:M[q]?=some (.lst (rest.map tupI))
 perm:(ns++rest).Perm all
theorem Nst.step {n p q L:Nat} {all:List (List Int)} {Z M:Mem} {ns rest:List (List Int)} (h:Nst p q L all Z M ns rest) (hpq:p≠q) (hr:0 < rest.length) (hl:rest.length<=16) {ρ:D.Loc} (h0:ρ[0]?=some (some (.ref p))) (h3:ρ[3]?=some (some (.ref q))) :
  ∃a rest' M2,evE (Cn pg (n+1)) (.meth (.var 3) "pop" (.cons (.call 25 (.cons (.var 0) (.cons (.blt .len (.cons (.var 3) .nil)) .nil))) .nil)) ρ M=.ok (tupI a) M2/\Nst p q L all Z M2 (ns++[a]) rest'/\rest'.length+1=rest.length:=by
 obtain ⟨d,m1,hd,s,d1⟩:=draw (n:=n) (many:=rest.length) h.pot (by omega) (by omega)
 have hq1:m1[q]?=some (.lst (rest.map tupI)):=(s.ne hpq).trans h.at_
 have hql:q < m1.length:=(List.getElem?_eq_some_iff.mp hq1).1
 have hdl:d < rest.length:=by omega
 have hk:kdOf M (.ref q)=kdM "pop":=by simp only [kdOf,h.at_]; rfl
 have E6:aZ (.ref q) "pop" [.int d] m1=.ok (tupI rest[d]) (m1.set q (.lst ((rest.eraseIdx d).map tupI))):=by
  have hb:-(2^63)<=(d:Int)/\(d:Int) < 2^63:=by omega
  have hs:seqIndex? (d:Int) (rest.map tupI).length=some d:=by
   unfold seqIndex?
   simp only [List.length_map]
   rw [if_neg (by omega:¬(d:Int) < 0)]
   simp
   omega
  have hg:(rest.map tupI)[d]?=some (tupI rest[d]):=by simp [hdl]
  have hop:pP q (rest.map tupI) [.int d] m1=.ok (tupI rest[d]) (m1.set q (.lst ((rest.eraseIdx d).map tupI))):=by
   simp only [pP]
   rw [if_pos hb]
   simp only [hs,hg,lM]
  simp only [aZ,hq1,dJ]
  rw [if_neg (by decide),if_neg (by decide),if_neg (by decide),if_pos trivial]
  exact hop
 obtain ⟨A,B,hA⟩:=s.pot h.pot
 refine ⟨rest[d],rest.eraseIdx d,m1.set q (.lst ((rest.eraseIdx d).map tupI)),?_,⟨λ i h1 h2=>by rw [List.getElem?_set_ne h2.symm,s.ne h1.symm]; exact h.fr i h1 h2,⟨A,B,?_⟩,(s.cm h.cm).set (bB _ (dj _)),by rw [List.length_set,s.len,h.len],List.getElem?_set_self hql,?_⟩,by rw [List.length_eraseIdx_of_lt hdl]; omega⟩
 ·simp only [EVs,h0,h3,hk,if_true,aP,aC,getL,h.at_,List.length_map,hd,E6]
 ·rw [List.getElem?_set_ne hpq.symm]; exact hA
 ·refine List.Perm.trans ?_ h.perm
  rw [List.append_assoc]
  refine List.Perm.append_left ns ?_
  exact pe hdl
theorem tags {n p:Nat} {m:Mem} {many:Nat} (hp:Pot m p) (hm:Cm m) (h2:2<=many) (h4:many<=4) :
  ∃(N:List (List Int)) (size q:Nat) (m':Mem),aA (D.runN pg (n+1+1) 31) [.ref p,.int many] m=.ok (.ref q) m'/\N.length=many/\N.Nodup/\1<=size/\size<=4/\(∀a∈N,a∈af size)/\Pot m' p/\Cm m'/\m'[q]?=some (.lst (N.map tupI))/\m.length<=q/\∀i,i < m.length->i≠p->m'[i]?=m[i]?:=by
 have hpl:=hp.lt
 obtain ⟨least,hle,hl1,hl2,hlm⟩:∃least:Nat,(1:Int)+(if (decide ((many:Int)>2))=true then 1 else 0)=least/\1<=least/\least<=2/\many<=2^least:=by
  by_cases h:(many:Int)>2
  ·exact ⟨2,by simp [h],by omega,by omega,by simpa using h4⟩
  ·exact ⟨1,by simp [h],by omega,by omega,by simp; omega⟩
 obtain ⟨d,m1,hd,s1,d1⟩:=draw (n:=n) (many:=5 - least) hp (by omega) (by omega)
 obtain ⟨M,hM,hMl,hMq,hMp⟩:=yq (n:=n) (k:=least+d) (by omega) (by omega)
 have hall:aA (D.runN pg (n+1) 30) [.int (least+d:Nat)] m1=.ok (.ref (m1.length+(least+d+1))) (m1++M):=by
  rw [fh rfl hM rfl,vF _ hMp]
  rfl
 have hpw:2^least<=2^(least+d):=Nat.pow_le_pow_right (by decide) (by omega)
 have Fl:2^(least+d)<=16:=pow2 (by omega)
 have hq:(m1++M)[m1.length+(least+d+1)]?=some (.lst ((af (least+d)).map tupI)):=by
  rw [List.getElem?_append_right (by omega)]
  rw [show m1.length+(least+d+1) - m1.length=least+d+1 by omega]
  exact hMq
 have hpq:p≠m1.length+(least+d+1):=by have:=s1.len; omega
 have n0:Nst p (m1.length+(least+d+1)) (m1++M).length (af (least+d)) (m1++M) (m1++M) [] (af (least+d)):=⟨λ _ _ _=>rfl,(s1.pot hp).app,BO (s1.cm hm) hMp,rfl,hq,List.Perm.refl _⟩
 have hI:evI (Cn pg (n+1)) (.rng (.var 1)) [some (.ref p),some (.int many),some (.int least),some (.ref (m1.length+(least+d+1))),none] (m1++M)=.ok (.rng 0 many) (m1++M):=iB (by simp only [EVs,gq0,gq1,gq2,gq3]) (by omega)
 obtain ⟨ws,m2,e,⟨ns,rest,rfl,hr,hN⟩,hlen,_⟩:=vE (C:=Cn pg (n+1)) (i:=4) (js:=[4]) (it:=.rng (.var 1)) (e:=.meth (.var 3) "pop" (.cons (.call 25 (.cons (.var 0) (.cons (.blt .len (.cons (.var 3) .nil)) .nil))) .nil)) (ρ:=[some (.ref p),some (.int many),some (.int least),some (.ref (m1.length+(least+d+1))),none]) (m:=m1++M) (xs:=(List.range many).map λ t=>W.int (t:Nat))
  (λ j M' acc=>∃ns rest,acc=ns.map tupI/\rest.length+j=2^(least+d)/\Nst p (m1.length+(least+d+1)) (m1++M).length (af (least+d)) (m1++M) M' ns rest) hI (λ M j _=>fm many M j) (by simp [Src.len]) (by simp [lim]; omega) ⟨[],_,rfl,by rw [nj]; rfl,n0⟩ (λ j hj M' acc ⟨ns,rest,ha,hr,hN⟩ hac=>by
   have hj:j < many:=by simpa using hj
   obtain ⟨a,rest',M2,e,hN2,hl⟩:=hN.step (n:=n) hpq (by omega) (by omega) (ρ:=(clr [4] [some (.ref p),some (.int many),some (.int least),some (.ref (m1.length+(least+d+1))),none]).set 4 (some ((List.range many).map λ t=>W.int (t:Nat))[j])) (by simp only [clr,gq0,gq1,gq2,gq3]) (by simp only [clr,gq0,gq1,gq2,gq3])
   exact ⟨tupI a,M2,e,by simp [ao,bO],ns++[a],rest',by simp [ha],by omega,hN2⟩)
 have hnd:ns.Nodup:=(List.nodup_append.mp (hN.perm.nodup_iff.mpr (yt _))).1
 refine ⟨ns,least+d,m2.length,m2++[.lst (ns.map tupI)],?_,by simpa using hlen,hnd,by omega,by omega,λ a ha=>hN.perm.mem_iff.mp (List.mem_append_left _ ha),hN.pot.app,hN.cm.push (o:=.lst (ns.map tupI)) (bB _ (dj _)),by simp,by rw [hN.len,List.length_append,s1.len]; omega,λ i h1 h2=>?_⟩
 rotate_left
 ·rw [List.getElem?_append_left (by rw [hN.len,List.length_append,s1.len]; omega),hN.fr i h2 (by have:=s1.len; omega),List.getElem?_append_left (by rw [s1.len]; exact h1),s1.ne h2.symm]
 rw [aX rfl]
 refine bq (d:=⟨2,5,b31⟩) rfl rfl ?_
 show aE _ b31 [some (.ref p),some (.int many),none,none,none] m=_
 rw [b31,ai (ρ1:=[some (.ref p),some (.int many),some (.int least),none,none]) (m1:=m) (aM (w:=.int least) ?_ rfl),ai (ρ1:=[some (.ref p),some (.int many),some (.int least),some (.ref (m1.length+(least+d+1))),none]) (m1:=m1++M) (aM (w:=.ref (m1.length+(least+d+1))) ?_ rfl),bf (br e)]
 ·have:(least:Int)+d=((least+d:Nat):Int):=by omega
  simp only [EVs,gq0,gq1,gq2,gq3,binop,hd,this,hall]
 ·simp only [EVs,gq0,gq1,gq2,gq3,aq,aP,binop,<-hle]
end My
end
section
namespace My
open PySem D
noncomputable def btw:List Int->List Int->List Int->Bool
 | a::as,b::bs,x::xs=>(a != b||x==a)&&btw as bs xs
 | _,_,_=>true
noncomputable def sp (a b:List Int):List (List Int):=(af a.length).filter (btw a b)
noncomputable def zv (l:List (List Int)):R W->Bool
 | .ok (.fz xs) _=>eqN xs l
 | _=>false
theorem vG {n:Nat}:([1,2,3,4].all λ k=>(af k).all λ a=>(af k).all λ b=>zv (sp a b) (D.runN pg (n+1+1) 1 [tupI a,tupI b] []))=true:=by kernel_rfl
theorem vH {l:List (List Int)} {r:R W} (h:zv l r=true):∃M,r=.ok (.fz (l.map tupI)) M:=by
 match r,h with
 | .ok (.fz xs) M,h=>exact ⟨M,by rw [o9 h]⟩
theorem k4 {k:Nat} (h1:1<=k) (h4:k<=4):k∈[1,2,3,4]:=by
 rcases (by omega:k=1\/k=2\/k=3\/k=4) with rfl | rfl | rfl | rfl<;>simp
theorem span {n k:Nat} {a b:List Int} {m:Mem} (h1:1<=k) (h4:k<=4) (ha:a∈af k) (hb:b∈af k):aA (D.runN pg (n+1+1) 1) [tupI a,tupI b] m=.ok (.fz ((sp a b).map tupI)) m:=by
 have h:=List.all_eq_true.mp (List.all_eq_true.mp (List.all_eq_true.mp (vG (n:=n)) k (k4 h1 h4)) a ha) b hb
 obtain ⟨M,hM⟩:=vH h
 exact aL (by simp [ah,ao,bO]) hM (by simp only [ao]; exact dj _)
noncomputable def cm (a b c d:List Int):List (List Int):=(sp a b).filter λ x=>decide (x∈sp c d)
theorem aY {k:Nat} {a:List Int}:a∈af k↔a.length=k/\∀i∈a,i=0\/i=1:=by
 induction k generalizing a with
 | zero=>
  simp only [af,List.mem_singleton]
  constructor
  ·rintro rfl; simp
  ·rintro ⟨h,_⟩; exact List.length_eq_zero_iff.mp h
 | succ k ih=>
  rw [af,List.mem_append,List.mem_map,List.mem_map]
  constructor
  ·rintro (⟨r,hr,rfl⟩ | ⟨r,hr,rfl⟩)
   ·obtain ⟨h1,h2⟩:=ih.mp hr
    exact ⟨by simp [h1],λ i hi=>(List.mem_cons.mp hi).elim (λ e=>.inl e) (h2 i)⟩
   ·obtain ⟨h1,h2⟩:=ih.mp hr
    exact ⟨by simp [h1],λ i hi=>(List.mem_cons.mp hi).elim (λ e=>.inr e) (h2 i)⟩
  ·rintro ⟨h1,h2⟩
   cases a with
   | nil=>simp at h1
   | cons x r=>
    have hr:=ih.mpr ⟨by simpa using h1,λ i hi=>h2 i (List.mem_cons_of_mem _ hi)⟩
    rcases h2 x List.mem_cons_self with rfl | rfl
    ·exact .inl ⟨r,hr,rfl⟩
    ·exact .inr ⟨r,hr,rfl⟩
theorem nk:([1,2,3,4].all λ k=>decide ((af k).Pairwise λ x y=>HT.lexLt y x=false))=true:=by decide +kernel
theorem vI (x:List Int):HT.lexLt x x=false:=by
 induction x with
 | nil=>rfl
 | cons a r ih=>rw [HT.fL,if_pos rfl,ih]
theorem least {k:Nat} (h1:1<=k) (h4:k<=4) {p:List Int->Bool}:(((af k).filter p).all λ ns=>!HT.lexLt ns (((af k).filter p).headD []))=true:=by
 have hs:=of_decide_eq_true (List.all_eq_true.mp nk k (k4 h1 h4))
 have hf:=hs.filter p
 cases hl:(af k).filter p with
 | nil=>rfl
 | cons x r=>
  rw [hl] at hf
  have:=(List.pairwise_cons.mp hf).1
  simp only [List.headD_cons,List.all_cons,vI,Bool.not_false,Bool.true_and,List.all_eq_true]
  intro y hy
  rw [this y hy]; rfl
end My
end
section
namespace My
open PySem D
theorem vJ:∀(a b:List Int),PyData.eqvAll (a.map .int) (b.map .int)=decide (a=b):=by
 intro a
 induction a with
 | nil=>intro b; cases b<;>simp [PyData.eqvAll]
 | cons x r ih=>
  intro b
  cases b with
  | nil=>simp [PyData.eqvAll]
  | cons y s=>
   simp only [List.map_cons,PyData.eqvAll,ih,lJ]
   by_cases h:x=y<;>by_cases h':r=s<;>simp [h,h']
theorem iG (a b:List Int):PyData.eqv (.tuple (a.map .int)) (.tuple (b.map .int))=decide (a=b):=by
 rw [<-vJ,PyData.eqv.eq_def]
theorem cJ {n:Nat} {m:Mem} {a:List Int}:toD (n+1+1) m (tupI a)=some (.tuple (a.map .int)):=by rw [lF,gJ]; rfl
theorem vK {m:Mem} {a:List Int} {ns:List (List Int)}:fX m (tupI a) (ns.map tupI)=.ok (decide (a∈ns)) m:=by
 have h1:toD 60 m (tupI a)=some (.tuple (a.map .int)):=cJ
 have h2:cg (toD 60 m) (ns.map tupI)=some (ns.map λ b=>PyData.tuple (b.map .int)):=c9 λ b _=>cJ
 simp only [fX,h1,h2]
 have:((ns.map λ b=>PyData.tuple (b.map .int)).any λ e=>PyData.eqv e (.tuple (a.map .int)))=decide (a∈ns):=by
  rw [List.any_map]
  induction ns with
  | nil=>simp
  | cons y r ih=>
   have:=ih (c9 λ b _=>cJ)
   simp only [List.any_cons,Function.comp,iG,List.mem_cons] at this ⊢
   rw [this]
   by_cases h:a=y
   ·subst h; simp
   ·have h':¬y=a:=λ e=>h e.symm
    simp [h,h']
 rw [this]
abbrev nmW (N:List (List Int)):W:=.fz (N.map tupI)
abbrev pW (s t:Nat):W:=.tup [.int s,.int t]
noncomputable def jQ:Option (List Int)->W
 | none=>.non
 | some x=>tupI x
structure aK (k:Nat) (N:List (List Int)):Prop where
 k1:1<=k
 k4:k<=4
 mem:∀a∈N,a∈af k
 nd:N.Nodup
 len:N.length<=4
theorem aK.at_ {k:Nat} {N:List (List Int)} (h:aK k N) {s:Nat} (hs:s < N.length):N[s]∈af k:=h.mem _ (List.getElem_mem hs)
theorem nq:∀(a b:List Int),gO (a.map .int) b=decide (a=b):=by
 intro a
 induction a with
 | nil=>intro b; cases b<;>simp [gO]
 | cons x r ih=>intro b; cases b with
  | nil=>simp [gO]
  | cons y s=>simp only [List.map_cons,gO,ih]; by_cases h:x=y<;>by_cases h':r=s<;>simp [h,h']
theorem qw (y:List Int) (l:List (List Int)):(l.any λ z=>gO (y.map .int) z)=decide (y∈l):=by
 rw [Bool.eq_iff_iff,List.any_eq_true,decide_eq_true_iff]
 constructor
 ·rintro ⟨z,hz,e⟩
  rw [nq,decide_eq_true_iff] at e
  exact e▸hz
 ·exact λ h=>⟨y,h,by rw [nq]; simp⟩
theorem BP {k:Nat} {N:List (List Int)} (h:aK k N) {s t:Nat} (hs:s < N.length) (ht:t < N.length):(sp N[s] N[t]).length<=16:=by
 have h1:(sp N[s] N[t]).length<=(af N[s].length).length:=List.length_filter_le ..
 rw [nj] at h1
 have hk:=(aY.mp (h.at_ hs)).1
 rw [hk] at h1
 exact Nat.le_trans h1 (pow2 h.k4)
theorem cmE {n k i j:Nat} {N:List (List Int)} {ρ:D.Loc} {m:Mem} {s t u v:Nat} {e1 e2:E} (hm:Cm m) (h:aK k N) (hs:s < N.length) (ht:t < N.length) (hu:u < N.length) (hv:v < N.length)
  (h1:evE (Cn pg (n+1+1)) e1 ρ m=.ok (tupI N[s]) m) (h2:evE (Cn pg (n+1+1)) e2 ρ m=.ok (tupI N[t]) m) (hij:i≠j) (hi:i < ρ.length) (hj:ρ[j]?=some (some (nmW (sp N[u] N[v])))) :
  evE (Cn pg (n+1+1)) (.frz (.comp (.gen (.var i) [i] (.call 1 (.cons e1 (.cons e2 .nil))) (.cons (.cmp .In (.var i) (.var j)) .nil) (.elt (.var i))))) ρ m=.ok (nmW (cm N[s] N[t] N[u] N[v])) m:=by
 have hI:evI (Cn pg (n+1+1)) (.call 1 (.cons e1 (.cons e2 .nil))) ρ m=.ok (.tup ((sp N[s] N[t]).map tupI)) m:=by
  rw [vh,gi,bh,h1]
  simp only [aN]
  rw [bh,h2]
  simp only [aN,bI,span (m:=m) h.k1 h.k4 (h.at_ hs) (h.at_ ht)]
  rfl
 have gF:∀x:W,((clr [i] ρ).set i (some x))[i]?=some (some x):=λ x=>by simp [clr,hi]
 have DW:∀x:W,((clr [i] ρ).set i (some x))[j]?=some (some (nmW (sp N[u] N[v]))):=λ x=>by simp only [clr,List.set_set]; rw [List.getElem?_set_ne hij]; exact hj
 have:=qu (C:=Cn pg (n+1+1)) (i:=i) (js:=[i]) (it:=.call 1 (.cons e1 (.cons e2 .nil))) (ifs:=.cons (.cmp .In (.var i) (.var j)) .nil) (e:=.var i) (ρ:=ρ) (m:=m) (xs:=(sp N[s] N[t]).map tupI) (s:=.tup ((sp N[s] N[t]).map tupI))
  (p:=λ x=>match x with | .tup ws=>(sp N[u] N[v]).any λ y=>gO ws y | _=>false) (g:=λ x=>x) hm hI (λ j=>rfl) rfl (λ x hx=>by
   obtain ⟨y,hy,rfl⟩:=List.mem_map.mp hx
   have hm:=vK (m:=m) (a:=y) (ns:=sp N[u] N[v])
   have he:=qw y (sp N[u] N[v])
   simp only [aF,EVs,ETs,gF,DW,aq,kM,aC,getL,hm,he]
   cases decide (y∈sp N[u] N[v])<;>rfl) (λ x hx _=>by simp only [EVs,gF]) (λ x hx _=>by
   obtain ⟨y,hy,rfl⟩:=List.mem_map.mp hx
   simp [ao,bO]) (by rw [List.length_map]; have:=BP h hs ht; simp only [lim]; omega)
 rw [this,List.map_id'' (λ _=>rfl),List.filter_map]
 have:((λ x=>match x with | .tup ws=>(sp N[u] N[v]).any λ y=>gO ws y | _=>false)∘tupI)=λ y=>decide (y∈sp N[u] N[v]):=by
  funext y
  exact qw y (sp N[u] N[v])
 rw [this]
 rfl
theorem BQ {k:Nat} {N:List (List Int)} (h:aK k N) {s:Nat} {t u v:List Int} (hs:s < N.length):cm N[s] t u v=(af k).filter λ x=>decide (x∈sp u v)&&btw N[s] t x:=by
 show ((af N[s].length).filter (btw N[s] t)).filter _=_
 rw [List.filter_filter,(aY.mp (h.at_ hs)).1]
theorem bP {m:Mem} {w:W} {N:List (List Int)} {s:Nat} (hw:getL m w=some (N.map tupI)) (h:s < N.length):aQ w (.int s) m=.ok (tupI N[s]) m:=by
 have:=dG (m:=m) (w:=w) (xs:=N.map tupI) (i:=s) (bw hw) (by simpa using h)
 rw [List.getElem_map] at this
 exact this
theorem eT {n k:Nat} {N:List (List Int)} {m:Mem} {w:W} {s t u v:Nat} (hm:Cm m) (hw:getL m w=some (N.map tupI)) (h:aK k N) (hs:s < N.length) (ht:t < N.length) (hu:u < N.length) (hv:v < N.length) :
  D.runN pg (n+1+1+1) 20 [w,pW s t,pW u v] m=.ok (jQ (cm N[s] N[t] N[u] N[v]).head?) m:=by
 refine bq (d:=⟨3,9,b20⟩) rfl rfl ?_
 show aE _ b20 [some w,some (pW s t),some (pW u v),none,none,none,none,none,none] m=_
 have hsp:=span (n:=n) (m:=m) h.k1 h.k4 (h.at_ hu) (h.at_ hv)
 have e7:evE (Cn pg (n+1+1)) (.call 1 (.cons (.idx (.var 0) (.var 5)) (.cons (.idx (.var 0) (.var 6)) .nil))) [some w,some (pW s t),some (pW u v),some (.int s),some (.int t),some (.int u),some (.int v),none,none] m=.ok (nmW (sp N[u] N[v])) m:=by
  simp only [EVs,gq0,gq1,gq2,gq3,bP hw hu,bP hw hv,hsp]
 have e8:=cmE (n:=n) (m:=m) (i:=8) (j:=7) (ρ:=[some w,some (pW s t),some (pW u v),some (.int s),some (.int t),some (.int u),some (.int v),some (nmW (sp N[u] N[v])),none]) (e1:=.idx (.var 0) (.var 3)) (e2:=.idx (.var 0) (.var 4)) hm h hs ht hu hv (by simp only [EVs,gq0,gq1,gq2,gq3,bP hw hs]) (by simp only [EVs,gq0,gq1,gq2,gq3,bP hw ht]) (by decide) (by simp) rfl
 rw [b20,ai (ρ1:=[some w,some (pW s t),some (pW u v),some (.int s),some (.int t),none,none,none,none]) (m1:=m) (by simp [evS,evE,evA,cz,au,R.bind,aC]),
  ai (ρ1:=[some w,some (pW s t),some (pW u v),some (.int s),some (.int t),some (.int u),some (.int v),none,none]) (m1:=m) (by simp [evS,evE,evA,cz,au,R.bind,aC]),
  ai (aM e7 rfl)]
 simp only [gq0,gq1,gq2,gq3]
 rw [bf (br (w:=jQ (cm N[s] N[t] N[u] N[v]).head?) (m1:=m) ?_)]
 rw [zl,e8]
 have h2:cg dU ((cm N[s] N[t] N[u] N[v]).map tupI)=some (cm N[s] N[t] N[u] N[v]):=by
  have:∀a:List Int,eE (a.map .int)=some a:=λ a=>by
   induction a with
   | nil=>rfl
   | cons x r ih=>simp [eE,ih]
  have:=c9 (f:=dU) (g:=tupI) (h:=id) (xs:=cm N[s] N[t] N[u] N[v]) (λ a _=>by simp [dU,this])
  simpa using this
 have h3:((cm N[s] N[t] N[u] N[v]).all λ ns=>!HT.lexLt ns ((cm N[s] N[t] N[u] N[v]).headD []))=true:=by
  rw [BQ h hs]; exact least h.k1 h.k4
 simp only [aN,gY,getL,h2,oz]
 rw [if_pos h3]
 cases cm N[s] N[t] N[u] N[v]<;>rfl
theorem jR {n k:Nat} {N:List (List Int)} {m:Mem} {w:W} {s t u v:Nat} (hm:Cm m) (hw:getL m w=some (N.map tupI)) (h:aK k N) (hs:s < N.length) (ht:t < N.length) (hu:u < N.length) (hv:v < N.length) :
  aA (D.runN pg (n+1+1+1) 20) [w,pW s t,pW u v] m=.ok (jQ (cm N[s] N[t] N[u] N[v]).head?) m:=by
 refine bR (eT hm hw h hs ht hu hv) (λ hp=>eT Cm.nil ?_ h hs ht hu hv) ?_
 ·rw [bS (m:=m)]
  ·exact hw
  ·simp only [ah,Bool.and_eq_true] at hp; exact hp.1
 cases (cm N[s] N[t] N[u] N[v]).head? with
 | none=>rfl
 | some x=>simp [jQ,ao,bO]
end My
end
section
namespace My
open PySem D
section
variable {C:D.Cx} {i1 i2:Nat} {js:List Nat} {it1 it2 e:E} {ifs:Es} {ρ ρ':D.Loc} {m:Mem}
theorem inner {acc ys:List W} {s2:Src} {B:W->D.Loc} {p:W->Bool} {g:W->W} (hI:evI C it2 ρ' m=.ok s2 m) (hg:∀j,s2.get m j=Src.get (.tup ys) m j) (hn:s2.len m=ys.length) (hB:∀o y,(ρ'.set i2 o).set i2 (some y)=B y)
  (ht:∀y∈ys,aF C ifs (B y) m=.ok (p y) m) (he:∀y∈ys,p y=true->evE C e (B y) m=.ok (g y) m) (hl:acc.length+ys.length<=lim) :
  ∃ρ2,evG C (.gen (.var i2) [] it2 ifs (.elt e)) ρ' m acc=.ok (acc++(ys.filter p).map g,ρ2) m/\∀o,ρ2.set i2 o=ρ'.set i2 o:=by
 obtain ⟨lD,ρ2,m2,e1,h1,h2,h3⟩:=bQ (get:=s2.get) (t:=.var i2) (test:=fun ρ m=>aF C ifs ρ m) (body:=fun ρ m acc=>evG C (.elt e) ρ m acc) (n:=ys.length)
  (λ j ρ1 m1 a=>(∀o,ρ1.set i2 o=ρ'.set i2 o)/\m1=m/\a=acc++((ys.take j).filter p).map g) (λ j ρ1 m1 a hj=>by
   rintro ⟨hb,rfl,rfl⟩
   have hx:=List.getElem_mem hj
   have htk:ys.take (j+1)=ys.take j++[ys[j]]:=by rw [List.take_add_one,List.getElem?_eq_getElem hj]; rfl
   have hB0:ρ'.set i2 (some ys[j])=B ys[j]:=by rw [<-hB none]; simp
   refine ⟨ys[j],B ys[j],by rw [hg,aJ hj],by simp only [au]; rw [hb,hB0],?_⟩
   have h5:=ht _ hx
   have gF:∀o,(B ys[j]).set i2 o=ρ'.set i2 o:=λ o=>by rw [<-hB0,List.set_set]
   cases hp:p ys[j] with
   | true=>
    rw [hp] at h5
    refine .inl ⟨m1,acc++((ys.take (j+1)).filter p).map g,B ys[j],m1,h5,?_,gF,rfl,rfl⟩
    have hlt:(acc++((ys.take j).filter p).map g).length < lim:=by
     rw [List.length_append,List.length_map]
     have:=List.length_filter_le p (ys.take j)
     rw [List.length_take] at this
     omega
    simp only [evG,he _ hx hp,R.bind]
    rw [if_pos hlt,htk,List.filter_append,List.map_append]
    simp [hp]
   | false=>
    rw [hp] at h5
    refine .inr ⟨m1,h5,gF,rfl,?_⟩
    rw [htk,List.filter_append]
    simp [hp]) (fun ρ1 m1 a h=>by rw [h.2.1,hg]; exact aD (by omega)) ys.length 0 ρ' m acc (by omega) ⟨λ _=>rfl,rfl,by simp⟩
 subst h2 h3
 refine ⟨ρ2,?_,h1⟩
 simp only [evG,hI,R.bind,hn,clr]
 rw [List.take_length] at e1
 exact e1
theorem qA {xs:List W} {s:Src} {ys:W->List W} {s2:W->Src} {p:W->W->Bool} {g:W->W->W} (hm:Cm m) (hI:evI C it1 ρ m=.ok s m) (hg:∀j,s.get m j=Src.get (.tup xs) m j) (hn:s.len m=xs.length)
  (hin:∀x∈xs,∀ρ',(∀o,ρ'.set i2 o=((clr js ρ).set i1 (some x)).set i2 o)->evI C it2 ρ' m=.ok (s2 x) m) (hg2:∀x∈xs,∀j,(s2 x).get m j=Src.get (.tup (ys x)) m j) (hn2:∀x∈xs,(s2 x).len m=(ys x).length)
  (ht:∀x∈xs,∀y∈ys x,aF C ifs (((clr js ρ).set i1 (some x)).set i2 (some y)) m=.ok (p x y) m) (he:∀x∈xs,∀y∈ys x,p x y=true->evE C e (((clr js ρ).set i1 (some x)).set i2 (some y)) m=.ok (g x y) m)
  (hp:∀x∈xs,∀y∈ys x,p x y=true->ao (g x y)=true) (hne:i1≠i2) (hlx:xs.length<=100) (hly:∀x∈xs,(ys x).length<=100) :
  evE C (.frz (.comp (.gen (.var i1) js it1 .nil (.gen (.var i2) [] it2 ifs (.elt e))))) ρ m=.ok (.fz (xs.flatMap λ x=>((ys x).filter (p x)).map (g x))) m:=by
 obtain ⟨lD,ρ2,m2,e1,h1,h2,h3,h4⟩:=bQ (get:=s.get) (t:=.var i1) (test:=fun ρ m=>aF C .nil ρ m) (body:=fun ρ m acc=>evG C (.gen (.var i2) [] it2 ifs (.elt e)) ρ m acc) (n:=xs.length)
  (λ j ρ1 m1 a=>(∀o o',(ρ1.set i1 o).set i2 o'=((clr js ρ).set i1 o).set i2 o')/\m1=m/\a=((xs.take j).flatMap λ x=>((ys x).filter (p x)).map (g x))/\a.length<=100*j) (λ j ρ1 m1 a hj=>by
   rintro ⟨hb,rfl,ha,hal⟩
   have hx:=List.getElem_mem hj
   have htk:xs.take (j+1)=xs.take j++[xs[j]]:=by rw [List.take_add_one,List.getElem?_eq_getElem hj]; rfl
   obtain ⟨ρ3,e3,h3⟩:=inner (C:=C) (i2:=i2) (it2:=it2) (ifs:=ifs) (e:=e) (ρ':=ρ1.set i1 (some xs[j])) (m:=m1) (acc:=a) (ys:=ys xs[j]) (B:=λ y=>((clr js ρ).set i1 (some xs[j])).set i2 (some y)) (p:=p xs[j]) (g:=g xs[j]) (hin _ hx _ (hb _)) (hg2 _ hx) (hn2 _ hx) (λ o y=>by rw [List.set_set,hb]) (ht _ hx) (he _ hx) (by have:=hly _ hx; simp only [lim]; omega)
   refine ⟨xs[j],ρ1.set i1 (some xs[j]),by rw [hg,aJ hj],by simp only [au],.inl ⟨m1,_,ρ3,m1,by simp only [aF],e3,λ o o'=>?_,rfl,?_,?_⟩⟩
   ·rw [List.set_comm _ _ hne,h3,List.set_comm _ _ hne.symm,List.set_set,hb]
   ·rw [htk,List.flatMap_append,<-ha]; simp
   ·have h1:=List.length_filter_le (p xs[j]) (ys xs[j])
    have h2:=hly _ hx
    rw [List.length_append,List.length_map]; omega) (fun ρ1 m1 a h=>by rw [h.2.1,hg]; exact aD (by omega)) xs.length 0 (clr js ρ) m [] (by omega) ⟨λ _ _=>rfl,rfl,by simp,by simp⟩
 subst h2
 rw [List.take_length] at h3
 subst h3
 refine bX (cR (js:=js) (ifs:=.nil) hI (by rw [hn]; exact e1)) rfl hm (bg.mpr λ x hx=>?_)
 obtain ⟨y,hy,hx⟩:=List.mem_flatMap.mp hx
 obtain ⟨z,hz,rfl⟩:=List.mem_map.mp hx
 obtain ⟨hz,hpz⟩:=List.mem_filter.mp hz
 exact hp y hy z hz hpz
end
end My
end
section
namespace My
open PySem D
theorem sd (a:List Int):eE (a.map .int)=some a:=by
 induction a with
 | nil=>rfl
 | cons x r ih=>simp [eE,ih]
theorem se (N:List (List Int)):cg dU (N.map tupI)=some N:=by
 have:=c9 (f:=dU) (g:=tupI) (h:=id) (xs:=N) (λ a _=>by simp [dU,sd])
 simpa using this
theorem sj {l:List W} (h:∀w∈l,w=.bl true) (m:Mem):aP .all [.fz l] m=.ok (.bl true) m:=by
 have:l=List.replicate l.length (.bl true):=List.eq_replicate_iff.mpr ⟨rfl,h⟩
 rw [this]
 simp only [aP,getL,dX,all_true]
theorem jx {n k:Nat} {N:List (List Int)} {m:Mem} {w:W} (hm:Cm m) (hw:getL m w=some (N.map tupI)) (h:aK k N) (h0:0 < N.length):D.runN pg (n+1) 3 [w] m=.ok (.bl true) m:=by
 obtain ⟨s0,hs0,hsg,hsl⟩:=lE (bw hw)
 refine bq (d:=⟨1,4,b3⟩) rfl rfl ?_
 show aE _ b3 [some w,none,none,none] m=_
 have lk:∀a∈N,a.length=k:=λ a ha=>(aY.mp (h.mem a ha)).1
 have e0:=bP hw h0
 have l0:aP .len [tupI N[0]] m=.ok (.int k) m:=by
  have:=bD (m:=m) (w:=tupI N[0]) (xs:=N[0].map .int) rfl
  rw [List.length_map,lk _ (List.getElem_mem h0)] at this
  exact this
 have hI:∀ρ:D.Loc,ρ[0]?=some (some w)->evI (Cn pg n) (.var 0) ρ m=.ok s0 m:=fun ρ hρ=>by rw [fG,bF,hρ]; exact hs0
 have hall:=gh (C:=Cn pg n) (i:=2) (e:=.cmp .Eq (.blt .len (.cons (.var 2) .nil)) (.var 1)) (it:=.var 0) (ρ:=[some w,some (.int k),none,none]) (m:=m) (xs:=N.map tupI) (js:=[2]) hm (hI _ rfl) hsg hsl (by have:=h.len; simp [lim]; omega) (λ x hx=>by
  obtain ⟨a,ha,rfl⟩:=List.mem_map.mp hx
  have:=bD (m:=m) (w:=tupI a) (xs:=a.map .int) rfl
  rw [List.length_map,lk a ha] at this
  simp only [clr,EVs,gq0,gq1,gq2,gq3,this,aq,eqI]
  simp)
 have hk1:(1:Int)<=k:=by have:=h.k1; omega
 have hk4:(k:Int)<=4:=by have:=h.k4; omega
 have hT:evT (Cn pg n) (.or (.not (.chain .LtE .LtE (.cst (.int 1)) (.var 1) (.cst (.int 4)))) (.not (.blt .all (.cons (.frz (.comp (.gen (.var 2) [2] (.var 0) .nil (.elt (.cmp .Eq (.blt .len (.cons (.var 2) .nil)) (.var 1)))))) .nil)))) [some w,some (.int k),none,none] m=.ok false m:=by
  have h1:evT (Cn pg n) (.chain .LtE .LtE (.cst (.int 1)) (.var 1) (.cst (.int 4))) [some w,some (.int k),none,none] m=.ok true m:=by simp [EVs,ETs,aq,hk1,hk4,R.bind,D.truthy]
  have h2:=cU (m8 _ _) hall
  rw [gI,eN,h1]
  simp only [aN,Bool.not_true,Bool.false_eq_true,if_false]
  rw [eN,h2]
  rfl
 have hnest:=qA (C:=Cn pg n) (i1:=2) (i2:=3) (js:=[2,3]) (it1:=.var 0) (it2:=.var 2) (ifs:=.nil) (e:=.cmp .In (.var 3) (.tup (.cons (.cst (.int 0)) (.cons (.cst (.int 1)) .nil)))) (ρ:=[some w,some (.int k),none,none]) (m:=m) (xs:=N.map tupI) (ys:=λ x=>match x with | .tup ws=>ws | _=>[]) (s2:=λ x=>match x with | .tup ws=>.tup ws | _=>.tup []) (p:=λ _ _=>true) (g:=λ _ _=>.bl true) hm (hI _ rfl) hsg hsl (λ x hx ρ' hρ=>by
   obtain ⟨a,ha,rfl⟩:=List.mem_map.mp hx
   have:ρ'[2]?=some (some (tupI a)):=by
    have:=congrArg (λ l=>l[2]?) (hρ none)
    simpa [clr] using this
   rw [fG,bF,this]
   rfl) (λ x hx j=>by
   obtain ⟨a,ha,rfl⟩:=List.mem_map.mp hx
   rfl) (λ x hx=>by
   obtain ⟨a,ha,rfl⟩:=List.mem_map.mp hx
   rfl) (λ x hx y hy=>by simp only [aF]) (λ x hx y hy _=>by
   obtain ⟨a,ha,rfl⟩:=List.mem_map.mp hx
   obtain ⟨b,hb,rfl⟩:=List.mem_map.mp hy
   have E7:=(aY.mp (h.mem a ha)).2 b hb
   have hm:=ni (m:=m) (a:=b) (ns:=[0,1])
   simp only [List.map_cons,List.map_nil] at hm
   simp only [clr,EVs,gq0,gq1,gq2,gq3,List.length_cons,List.length_nil,show (0+1+1<=lim)=True from by simp [lim],if_true,aN,aq,kM,aC,getL,hm]
   rcases E7 with rfl | rfl<;>rfl) (λ _ _ _ _ _=>rfl) (by decide) (by have:=h.len; simp; omega) (λ x hx=>by
   obtain ⟨a,ha,rfl⟩:=List.mem_map.mp hx
   have:=lk a ha
   have:=h.k4
   simp; omega)
 have gF:evE (Cn pg n) (.cmp .Eq (.fus .iT (.var 0)) (.blt .len (.cons (.var 0) .nil))) [some w,some (.int k),none,none] m=.ok (.bl true) m:=by
  have hc:N.length<=4/\N.all D.cy=true/\N.Nodup:=⟨h.len,List.all_eq_true.mpr λ a ha=>by
   have:=aY.mp (h.mem a ha)
   have:=h.k4
   simp only [D.cy,Bool.and_eq_true,decide_eq_true_eq,List.all_eq_true,Bool.or_eq_true,beq_iff_eq]
   exact ⟨by omega,λ i hi=>by have:=(aY.mp (h.mem a ha)).2 i hi; omega⟩,h.nd⟩
  have hl:=bD (m:=m) (w:=w) (xs:=N.map tupI) (bw hw)
  rw [List.length_map] at hl
  simp only [EVs,gq0,gq1,gq2,gq3,gY,hw,se,ow]
  rw [if_pos hc]
  simp only [aN,hl,aq,eqI]
  simp
 rw [b3,ai (ρ1:=[some w,some (.int k),none,none]) (m1:=m) (aM (w:=.int k) (by simp only [EVs,gq0,gq1,gq2,gq3]; rw [show ((0:Nat):Int)=0 from rfl] at e0; simp only [e0,aN,l0]) rfl),ai (by rw [d9 hT,av]),bf (br (w:=.bl true) (m1:=m) ?_)]
 rw [zk,dY,bh,hnest]
 simp only [aN,bI]
 rw [sj (λ w hw=>by
  obtain ⟨x,_,hw⟩:=List.mem_flatMap.mp hw
  obtain ⟨y,_,rfl⟩:=List.mem_map.mp hw
  rfl)]
 simp only [aN,if_true,gF]
theorem su {n k:Nat} {N:List (List Int)} {m:Mem} {w:W} (hm:Cm m) (hw:getL m w=some (N.map tupI)) (h:aK k N) (h0:0 < N.length):aA (D.runN pg (n+1) 3) [w] m=.ok (.bl true) m:=
 bR (jx hm hw h h0) (λ hp=>jx Cm.nil (by rw [bS (m:=m) (by simp only [ah,Bool.and_eq_true] at hp; exact hp.1)]; exact hw) h h0) rfl
end My
end
section
namespace My
open PySem D
theorem fmc {α β:Type} {f g:α->List β}:∀{l:List α},(∀a∈l,f a=g a)->l.flatMap f=l.flatMap g:=by
 intro l
 induction l with
 | nil=>intro _; rfl
 | cons a r ih=>intro h; rw [List.flatMap_cons,List.flatMap_cons,h a List.mem_cons_self,ih λ x hx=>h x (List.mem_cons_of_mem _ hx)]
section
variable {n:Nat} {m:Mem} {ks ss ls:List Str} {R L:List (List Int)}
theorem kh:f6 pg.cs (tab ks ss ls R L) "states" m=some 7:=rfl
theorem nu:f6 pg.cs (tab ks ss ls R L) "letters" m=some 9:=rfl
theorem vL:f6 pg.cs (tab ks ss ls R L) "goes" m=some 10:=rfl
theorem states:aA (D.runN pg (n+1) 7) [tab ks ss ls R L] m=.ok (fzS ss) m:=by
 refine aL (m1:=[]) (by rw [ah,cH]; rfl) ?_ (by simp [ao,cL])
 refine bq (d:=⟨1,1,b7⟩) rfl rfl ?_
 show aE _ b7 [some (tab ks ss ls R L)] []=_
 rw [b7,bf (br (dP (w:=fzS ss) (by simp only [EVs,gq0,gq1,gq2,gq3,rZ]) rfl Cm.nil (cL _)))]
theorem jy {m':Mem}:aP .len [fzS ss] m'=.ok (.int ss.length) m':=by
 have:=bD (m:=m') (w:=fzS ss) (xs:=ss.map .str) rfl
 rw [List.length_map] at this
 exact this
theorem gm {k:Nat} {N:List (List Int)} {w:W} (hm:Cm m) (hw:getL m w=some (N.map tupI)) (h:aK k N) (h0:0 < N.length) (hl:N.length=ss.length):D.runN pg (n+1+1) 2 [tab ks ss ls R L,w] m=.ok .non m:=by
 refine gH (d:=⟨2,2,b2⟩) (ρ:=[some (tab ks ss ls R L),some w]) rfl rfl ?_
 show aE _ b2 [some (tab ks ss ls R L),some w] m=_
 have hN:=bD (m:=m) (w:=w) (xs:=N.map tupI) (bw hw)
 rw [List.length_map] at hN
 have hT:evT (Cn pg (n+1)) (.or (.cmp .NotEq (.blt .len (.cons (.var 1) .nil)) (.blt .len (.cons (.mth (.var 0) "states" .nil) .nil))) (.not (.call 3 (.cons (.var 1) .nil)))) [some (tab ks ss ls R L),some w] m=.ok false m:=by
  have h1:evT (Cn pg (n+1)) (.cmp .NotEq (.blt .len (.cons (.var 1) .nil)) (.blt .len (.cons (.mth (.var 0) "states" .nil) .nil))) [some (tab ks ss ls R L),some w] m=.ok false m:=by
   simp only [dB,dY,bh,bI,jq,bF,gq0,gq1,gq2,gq3,aN,kh,states,jy,hN,aq,eqI,hl]
   simp
  have h2:evT (Cn pg (n+1)) (.call 3 (.cons (.var 1) .nil)) [some (tab ks ss ls R L),some w] m=.ok true m:=cU (jl _ _) (by simp only [EVs,gq0,gq1,gq2,gq3,su hm hw h h0])
  rw [gI,h1]
  simp only [aN,Bool.false_eq_true,if_false]
  rw [eN,h2]
  rfl
 rw [b2,ai (by rw [d9 hT,av]),av]
theorem zw {w:W} (hp:ah [tab ks ss ls R L,w]=true):ao w=true:=by
 rw [ah,cH,ah,ah] at hp
 simpa using hp
theorem ic {k:Nat} {N:List (List Int)} {w:W} (hm:Cm m) (hw:getL m w=some (N.map tupI)) (h:aK k N) (h0:0 < N.length) (hl:N.length=ss.length):aA (D.runN pg (n+1+1) 2) [tab ks ss ls R L,w] m=.ok .non m:=
 bR (gm hm hw h h0 hl) (λ hp=>gm Cm.nil (by rw [bS (m:=m) (zw hp)]; exact hw) h h0 hl) rfl
noncomputable def go_ (R:List (List Int)) (s x:Nat):Nat:=((R.getD s []).getD x 0).toNat
theorem nv (o:TabOk ks ss ls R L) {s x:Nat} (hs:s < ss.length) (hx:x < 2^ks.length):∃(h1:s < R.length) (h2:x < R[s].length),R[s][x]=(go_ R s x:Int)/\go_ R s x < ss.length:=by
 have h1:s < R.length:=by rw [o.rl]; exact hs
 obtain ⟨q1,q2⟩:=o.re R[s] (List.getElem_mem h1)
 have h2:x < R[s].length:=by rw [q1]; exact hx
 obtain ⟨z1,z2⟩:=q2 R[s][x] (List.getElem_mem h2)
 have:go_ R s x=R[s][x].toNat:=by simp [go_,List.getD,h1,h2]
 refine ⟨h1,h2,by rw [this]; omega,by rw [this]; omega⟩
noncomputable def gon (R:List (List Int)) (k x:Nat):List (Nat×Nat):=(List.range k).map λ s=>(s,go_ R s x)
abbrev qW (p:Nat×Nat):W:=pW p.1 p.2
theorem sy (o:TabOk ks ss ls R L) {x:Nat} (hx:x < 2^ks.length):aA (D.runN pg (n+1+1) 13) [tab ks ss ls R L,.int x] m=.ok (.fz ((gon R ss.length x).map qW)) m:=by
 refine aL (m1:=[]) (by rw [ah,cH]; rfl) ?_ (by simp only [ao]; exact g8 (λ _=>rfl) _)
 refine bq (d:=⟨2,3,b13⟩) rfl rfl ?_
 show aE _ b13 [some (tab ks ss ls R L),some (.int x),none] []=_
 have h4:=o.s4
 have hI:evI (Cn pg (n+1)) (.rng (.blt .len (.cons (.mth (.var 0) "states" .nil) .nil))) [some (tab ks ss ls R L),some (.int x),none] []=.ok (.rng 0 ss.length) []:=iB (by simp only [dY,bh,bI,jq,bF,gq0,gq1,gq2,gq3,aN,kh,states,jy]) (by omega)
 have:=vC (C:=Cn pg (n+1)) (i:=2) (js:=[2]) (it:=.rng (.blt .len (.cons (.mth (.var 0) "states" .nil) .nil))) (e:=.tup (.cons (.var 2) (.cons (.mth (.var 0) "goes" (.cons (.var 2) (.cons (.var 1) .nil))) .nil))) (ρ:=[some (tab ks ss ls R L),some (.int x),none]) (m:=[]) (xs:=(List.range ss.length).map λ t=>W.int (t:Nat)) (g:=λ w=>match w with | .int t=>pW t.toNat (go_ R t.toNat x) | _=>.non) Cm.nil hI (fm _ _) (by simp [Src.len]) (λ w hw=>by
   obtain ⟨t,ht,rfl⟩:=List.mem_map.mp hw
   obtain ⟨h1,h2,h3,_⟩:=nv o (List.mem_range.mp ht) hx
   have hg:=goes (n:=n) (m:=[]) (ks:=ks) (ss:=ss) (ls:=ls) (L:=L) h1 h2
   simp only [clr,ve,bh,bI,jq,bF,gq0,gq1,gq2,gq3,aN,vL,hg,h3]
   rfl) (λ w hw=>by
   obtain ⟨t,ht,rfl⟩:=List.mem_map.mp hw
   rfl) (by simp [lim]; omega)
 rw [b13,bf (br this),List.map_map,gon,List.map_map]
 rfl
noncomputable def unl (R:List (List Int)) (k x:Nat):List ((Nat×Nat)×(Nat×Nat)):=(gon R k x).flatMap λ a=>((gon R k x).filter λ b=>decide (a.1 < b.1)&&decide (a.2≠b.2)).map λ b=>(a,b)
abbrev rW (p:(Nat×Nat)×(Nat×Nat)):W:=.tup [qW p.1,qW p.2]
theorem jS (o:TabOk ks ss ls R L) {x:Nat} (hx:x < 2^ks.length):aA (D.runN pg (n+1+1+1) 14) [tab ks ss ls R L,.int x] m=.ok (.fz ((unl R ss.length x).map rW)) m:=by
 refine aL (m1:=[]) (by rw [ah,cH]; rfl) ?_ (by simp only [ao]; exact g8 (λ _=>rfl) _)
 refine bq (d:=⟨2,5,b14⟩) rfl rfl ?_
 show aE _ b14 [some (tab ks ss ls R L),some (.int x),none,none,none] []=_
 have h4:=o.s4
 have hgl:(gon R ss.length x).length=ss.length:=by simp [gon]
 have a0:∀p:Nat×Nat,aQ (qW p) (.int 0) []=.ok (.int p.1) []:=λ p=>by simp [aQ,aC,L2.atI,L2.ixN]
 have a1:∀p:Nat×Nat,aQ (qW p) (.int 1) []=.ok (.int p.2) []:=λ p=>by simp [aQ,aC,L2.atI,L2.ixN]
 have hnest:=qA (C:=Cn pg (n+1+1)) (i1:=3) (i2:=4) (js:=[3,4]) (it1:=.var 2) (it2:=.var 2) (ifs:=.cons (.and (.cmp .Lt (.idx (.var 3) (.cst (.int 0))) (.idx (.var 4) (.cst (.int 0)))) (.cmp .NotEq (.idx (.var 3) (.cst (.int 1))) (.idx (.var 4) (.cst (.int 1))))) .nil) (e:=.tup (.cons (.var 3) (.cons (.var 4) .nil))) (ρ:=[some (tab ks ss ls R L),some (.int x),some (.fz ((gon R ss.length x).map qW)),none,none]) (m:=[]) (xs:=(gon R ss.length x).map qW) (ys:=λ _=>(gon R ss.length x).map qW) (s:=.tup ((gon R ss.length x).map qW)) (s2:=λ _=>.tup ((gon R ss.length x).map qW))
  (p:=λ v w=>match v,w with | .tup [.int a,.int b],.tup [.int c,.int d]=>decide (a < c)&&decide (b≠d) | _,_=>false) (g:=λ v w=>.tup [v,w]) Cm.nil (by rw [fG,bF]; rfl) (λ j=>rfl) rfl (λ v hv ρ' hρ=>by
   have:ρ'[2]?=some (some (.fz ((gon R ss.length x).map qW))):=by
    have:=congrArg (λ l=>l[2]?) (hρ none)
    simpa [clr] using this
   rw [fG,bF,this]
   rfl) (λ v hv j=>rfl) (λ v hv=>rfl) (λ v hv w hw=>by
   obtain ⟨a,ha,rfl⟩:=List.mem_map.mp hv
   obtain ⟨b,hb,rfl⟩:=List.mem_map.mp hw
   have hc:∀(i j:Int) (m:Mem),aq .Lt (.int i) (.int j) m=.ok (decide (i < j)) m:=λ _ _ _=>rfl
   simp only [clr,aF,EVs,ETs,gq0,gq1,gq2,gq3,a0,a1,hc,aq,eqI]
   by_cases q1:(a.1:Int) < b.1<;>by_cases q2:(a.2:Int)=b.2<;>simp [q1,q2,D.R.bind]) (λ v hv w hw _=>by
   obtain ⟨a,ha,rfl⟩:=List.mem_map.mp hv
   obtain ⟨b,hb,rfl⟩:=List.mem_map.mp hw
   simp only [clr,EVs,gq0,gq1,gq2,gq3]
   rfl) (λ v hv w hw _=>by
   obtain ⟨a,ha,rfl⟩:=List.mem_map.mp hv
   obtain ⟨b,hb,rfl⟩:=List.mem_map.mp hw
   rfl) (by decide) (by simp [hgl]; omega) (λ v hv=>by simp [hgl]; omega)
 rw [b14,ai (ρ1:=[some (tab ks ss ls R L),some (.int x),some (.fz ((gon R ss.length x).map qW)),none,none]) (m1:=[]) (aM (by simp only [EVs,gq0,gq1,gq2,gq3,sy o hx]) rfl),bf (br hnest)]
 have:(((gon R ss.length x).map qW).flatMap λ v=>(((gon R ss.length x).map qW).filter ((λ v w=>match v,w with | .tup [.int a,.int b],.tup [.int c,.int d]=>decide (a < c)&&decide (b≠d) | _,_=>false) v)).map λ w=>W.tup [v,w])=(unl R ss.length x).map rW:=by
  rw [unl,List.map_flatMap,List.flatMap_map]
  refine fmc λ a _=>?_
  rw [List.filter_map,List.map_map,List.map_map]
  have:((λ w=>match qW a,w with | .tup [.int a,.int b],.tup [.int c,.int d]=>decide (a < c)&&decide (b≠d) | _,_=>false)∘qW)=λ b:Nat×Nat=>decide (a.1 < b.1)&&decide (a.2≠b.2):=by
   funext b
   show (decide ((a.1:Int) < b.1)&&decide ((a.2:Int)≠b.2))=_
   congr 1
   ·exact decide_eq_decide.mpr (by omega)
   ·exact decide_eq_decide.mpr (by omega)
  rw [this]
  rfl
 rw [this]
end
end My
end
section
namespace My
open PySem D
abbrev Race:=Nat×Nat×Nat×List Int
abbrev tW (r:Race):W:=.tup [.int r.1,.int r.2.1,.int r.2.2.1,tupI r.2.2.2]
noncomputable def rc1 (N:List (List Int)) (x:Nat) (p:(Nat×Nat)×(Nat×Nat)):List Race:=((cm (N.getD p.1.1 []) (N.getD p.1.2 []) (N.getD p.2.1 []) (N.getD p.2.2 [])).take 1).map λ nm=>(x,p.1.1,p.2.1,nm)
noncomputable def rcs (R N:List (List Int)) (k l:Nat):List Race:=(List.range l).flatMap λ x=>(unl R k x).flatMap (rc1 N x)
theorem vM {m:Mem} {xs:List W} {w:W} (h:xs.length < lim):aZ (.ref m.length) "append" [w] (m++[.lst xs])=.ok .non (m++[.lst (xs++[w])]):=by
 have e:(m++[O.lst xs])[m.length]?=some (.lst xs):=by simp
 simp only [aZ,e,dJ,fZ]
 simp [h]
theorem yu {m:Mem} {xs:List W}:kdOf (m++[.lst xs]) (.ref m.length)=kdM "append":=by
 have e:(m++[O.lst xs])[m.length]?=some (.lst xs):=by simp
 simp only [kdOf,e]
 rfl
section
variable {n:Nat} {m:Mem} {ks ss ls:List Str} {R L N:List (List Int)} {k:Nat}
theorem vN (o:TabOk ks ss ls R L) {x:Nat} (hx:x < 2^ks.length) {p:(Nat×Nat)×(Nat×Nat)} (hp:p∈unl R ss.length x):p.1.1 < ss.length/\p.1.2 < ss.length/\p.2.1 < ss.length/\p.2.2 < ss.length:=by
 obtain ⟨a,ha,hp⟩:=List.mem_flatMap.mp hp
 obtain ⟨b,hb,rfl⟩:=List.mem_map.mp hp
 have hb:=(List.mem_filter.mp hb).1
 have g:∀q∈gon R ss.length x,q.1 < ss.length/\q.2 < ss.length:=λ q hq=>by
  obtain ⟨s,hs,rfl⟩:=List.mem_map.mp hq
  have hs:=List.mem_range.mp hs
  obtain ⟨_,_,_,h⟩:=nv o hs hx
  exact ⟨hs,h⟩
 exact ⟨(g a ha).1,(g a ha).2,(g b hb).1,(g b hb).2⟩
theorem lN (x:Nat) (hk:k<=4):(unl R k x).length<=16:=by
 rw [unl,List.length_flatMap]
 have h:∀l:List (Nat×Nat),(l.map λ a=>(((gon R k x).filter λ b=>decide (a.1 < b.1)&&decide (a.2≠b.2)).map λ b=>(a,b)).length).sum<=4*l.length:=λ l=>by
  induction l with
  | nil=>simp
  | cons a r ih=>
   have h1:=List.length_filter_le (λ b=>decide (a.1 < b.1)&&decide (a.2≠b.2)) (gon R k x)
   have h2:(gon R k x).length=k:=by simp [gon]
   simp only [List.map_cons,List.sum_cons,List.length_map,List.length_cons] at ih ⊢
   omega
 have h2:(gon R k x).length=k:=by simp [gon]
 have:=h (gon R k x)
 omega
theorem lO (x:Nat) (p:(Nat×Nat)×(Nat×Nat)):(rc1 N x p).length<=1:=by
 rw [rc1,List.length_map,List.length_take]; omega
theorem pq {α:Type} {f:α->List Race} (h:∀a,(f a).length<=1) (l:List α):(l.flatMap f).length<=l.length:=by
 induction l with
 | nil=>simp
 | cons a r ih=>rw [List.flatMap_cons,List.length_append,List.length_cons]; have:=h a; omega
theorem gD {N:List (List Int)} {i:Nat} (h:i < N.length):N.getD i []=N[i]:=by simp [List.getD,h]
theorem sA {w:W} (hm:Cm m) (hw:getL m w=some (N.map tupI)) (o:TabOk ks ss ls R L) (h:aK k N) (hl:N.length=ss.length) {x:Nat} (hx:x < 2^ks.length) {p:(Nat×Nat)×(Nat×Nat)} (hp:p∈unl R ss.length x) {T:List Race} (hT:T.length<=1000) {o6:Option W} :
  ∃o6',aE (Cn pg (n+1+1+1)) qj [some (tab ks ss ls R L),some w,some (.ref m.length),some (.int x),some (qW p.1),some (qW p.2),o6] (m++[.lst (T.map tW)])=.ok (.nx [some (tab ks ss ls R L),some w,some (.ref m.length),some (.int x),some (qW p.1),some (qW p.2),o6']) (m++[.lst ((T++rc1 N x p).map tW)]):=by
 obtain ⟨h1,h2,h3,h4⟩:=vN o hx hp
 have hlb:=jR (n:=n) (m:=m++[.lst (T.map tW)]) (hm.push (o:=.lst (T.map tW)) (bB _ (g8 (λ r=>by simp [ao,ah,bO]) _))) (dg hw) h (by omega:p.1.1 < N.length) (by omega:p.1.2 < N.length) (by omega:p.2.1 < N.length) (by omega:p.2.2 < N.length)
 have hrc:rc1 N x p=((cm N[p.1.1] N[p.1.2] N[p.2.1] N[p.2.2]).take 1).map λ nm=>(x,p.1.1,p.2.1,nm):=by
  unfold rc1
  rw [gD (by omega),gD (by omega),gD (by omega),gD (by omega)]
 have a0:∀(p:Nat×Nat) (M:Mem),aQ (qW p) (.int 0) M=.ok (.int p.1) M:=λ p M=>by simp [aQ,aC,L2.atI,L2.ixN]
 refine ⟨some (jQ (cm N[p.1.1] N[p.1.2] N[p.2.1] N[p.2.2]).head?),?_⟩
 rw [hrc,qj,ai (aM (w:=jQ (cm N[p.1.1] N[p.1.2] N[p.2.1] N[p.2.2]).head?) (m1:=m++[.lst (T.map tW)]) (by simp only [EVs,gq0,gq1,gq2,gq3,hlb]) rfl)]
 simp only [gq0,gq1,gq2,gq3]
 cases cm N[p.1.1] N[p.1.2] N[p.2.1] N[p.2.2] with
 | nil=>
  have hT:evT (Cn pg (n+1+1+1)) (.cmp .IsNot (.var 6) (.cst .non)) [some (tab ks ss ls R L),some w,some (.ref m.length),some (.int x),some (qW p.1),some (qW p.2),some .non] (m++[.lst (T.map tW)])=.ok false (m++[.lst (T.map tW)]):=by simp only [EVs,ETs,gq0,gq1,gq2,gq3]; rfl
  rw [ai (by simp only [List.head?_nil,jQ]; rw [d9 hT,av]),av]
  simp [jQ]
 | cons nm r=>
  have hT:evT (Cn pg (n+1+1+1)) (.cmp .IsNot (.var 6) (.cst .non)) [some (tab ks ss ls R L),some w,some (.ref m.length),some (.int x),some (qW p.1),some (qW p.2),some (tupI nm)] (m++[.lst (T.map tW)])=.ok true (m++[.lst (T.map tW)]):=by simp only [EVs,ETs,gq0,gq1,gq2,gq3]; rfl
  have hap:aZ (.ref m.length) "append" [tW (x,p.1.1,p.2.1,nm)] (m++[.lst (T.map tW)])=.ok .non (m++[.lst ((T++[(x,p.1.1,p.2.1,nm)]).map tW)]):=by
   rw [vM (by simp [lim]; omega),List.map_append]
   rfl
  have hk:kdOf (m++[.lst (T.map tW)]) (.ref m.length)=kdM "append":=yu
  have hl4:[W.int x,.int p.1.1,.int p.2.1,tupI nm].length<=lim:=by simp [lim]
  rw [ai (ρ1:=[some (tab ks ss ls R L),some w,some (.ref m.length),some (.int x),some (qW p.1),some (qW p.2),some (tupI nm)]) (m1:=m++[.lst ((T++[(x,p.1.1,p.2.1,nm)]).map tW)]) (by
   simp only [List.head?_cons,jQ]
   rw [Bw hT,ai (bK (w:=.non) (m1:=m++[.lst ((T++[(x,p.1.1,p.2.1,nm)]).map tW)]) (by
    simp only [EVs,gq0,gq1,gq2,gq3,hk,if_true,a0,hl4,hap])),av]),av]
  simp [jQ]
theorem vO {w:W} (hm:Cm m) (hw:getL m w=some (N.map tupI)) (o:TabOk ks ss ls R L) (h:aK k N) (hl:N.length=ss.length) {x:Nat} (hx:x < 2^ks.length) {T:List Race} (hT:T.length<=100) {o4 o5 o6:Option W} :
  ∃o4' o5' o6',aE (Cn pg (n+1+1+1)) qk [some (tab ks ss ls R L),some w,some (.ref m.length),some (.int x),o4,o5,o6] (m++[.lst (T.map tW)])=.ok (.nx [some (tab ks ss ls R L),some w,some (.ref m.length),some (.int x),o4',o5',o6']) (m++[.lst ((T++(unl R ss.length x).flatMap (rc1 N x)).map tW)]):=by
 have hI:evI (Cn pg (n+1+1+1)) (.call 14 (.cons (.var 0) (.cons (.var 3) .nil))) [some (tab ks ss ls R L),some w,some (.ref m.length),some (.int x),o4,o5,o6] (m++[.lst (T.map tW)])=.ok (.tup ((unl R ss.length x).map rW)) (m++[.lst (T.map tW)]):=by
  rw [vh]
  simp only [EVs,gq0,gq1,gq2,gq3,jS o hx]
  rfl
 obtain ⟨ρ',m',hf,o4',o5',o6',rfl,rfl⟩:=cD (C:=Cn pg (n+1+1+1)) (t:=.tup (.cons (.var 4) (.cons (.var 5) .nil))) (b:=qj) hI (n:=(unl R ss.length x).length) (by simp [Src.len])
  (λ i ρ M=>∃o4' o5' o6',ρ=[some (tab ks ss ls R L),some w,some (.ref m.length),some (.int x),o4',o5',o6']/\M=m++[.lst ((T++((unl R ss.length x).take i).flatMap (rc1 N x)).map tW)])
  ⟨o4,o5,o6,rfl,by simp⟩ (λ i ρ M hi=>by
   rintro ⟨o4',o5',o6',rfl,rfl⟩
   have hp:=List.getElem_mem hi
   have hlen:(T++((unl R ss.length x).take i).flatMap (rc1 N x)).length<=1000:=by
    have:=pq (lO (N:=N) x) ((unl R ss.length x).take i)
    have:=lN (R:=R) (k:=ss.length) x o.s4
    rw [List.length_take] at *
    rw [List.length_append]; omega
   obtain ⟨o6'',e⟩:=sA (n:=n) hm hw o h hl hx hp hlen (o6:=o6')
   refine ⟨rW (unl R ss.length x)[i],_,_,_,?_,?_,.inl e,_,_,_,rfl,?_⟩
   ·rw [aJ (by simpa using hi)]; simp
   ·simp [au,bG]
   ·rw [List.take_add_one,List.getElem?_eq_getElem hi,List.flatMap_append,<-List.append_assoc]
    simp)
  (fun ρ M _=>aD (by simp))
 refine ⟨o4',o5',o6',?_⟩
 rw [qk,ai hf,av,List.take_length]
theorem vP {w:W} (hm:Cm m) (hw:getL m w=some (N.map tupI)) (o:TabOk ks ss ls R L) (h:aK k N) (hl:N.length=ss.length) :
  D.runN pg (n+1+1+1+1) 19 [tab ks ss ls R L,w] m=.ok (.ref m.length) (m++[.lst ((rcs R N ss.length (2^ks.length)).map tW)]):=by
 have hk2:=o.k2
 have hpw:2^ks.length<=4:=gM hk2
 have h0:0 < N.length:=by have:=o.s2; omega
 refine bq (d:=⟨2,7,b19⟩) rfl rfl ?_
 show aE _ b19 [some (tab ks ss ls R L),some w,none,none,none,none,none] m=_
 have hI:evI (Cn pg (n+1+1+1)) (.rng (.mth (.var 0) "letters" .nil)) [some (tab ks ss ls R L),some w,some (.ref m.length),none,none,none,none] (m++[.lst []])=.ok (.rng 0 (2^ks.length)) (m++[.lst []]):=iB (by simp only [jq,bF,gq0,gq1,gq2,gq3,aN,nu,bI,aT hk2]) (by generalize 2^ks.length=l at hpw ⊢; omega)
 obtain ⟨ρ',m',hf,o3',o4',o5',o6',rfl,rfl⟩:=cD (C:=Cn pg (n+1+1+1)) (t:=.var 3) (b:=qk) hI (n:=2^ks.length) rfl
  (λ i ρ M=>∃o3' o4' o5' o6',ρ=[some (tab ks ss ls R L),some w,some (.ref m.length),o3',o4',o5',o6']/\M=m++[.lst ((rcs R N ss.length i).map tW)])
  ⟨none,none,none,none,rfl,rfl⟩ (λ i ρ M hi=>by
   rintro ⟨o3',o4',o5',o6',rfl,rfl⟩
   have hlen:(rcs R N ss.length i).length<=100:=by
    have:∀l:List Nat,(l.flatMap λ x=>(unl R ss.length x).flatMap (rc1 N x)).length<=16*l.length:=λ l=>by
     induction l with
     | nil=>simp
     | cons a r ih=>
      have h1:=pq (lO (N:=N) a) (unl R ss.length a)
      have h2:=lN (R:=R) (k:=ss.length) a o.s4
      rw [List.flatMap_cons,List.length_append,List.length_cons]; omega
    have:=this (List.range i)
    rw [List.length_range] at this
    unfold rcs
    omega
   obtain ⟨p4,p5,p6,e⟩:=vO (n:=n) hm hw o h hl hi hlen (o4:=o4') (o5:=o5') (o6:=o6')
   refine ⟨.int (0+i),[some (tab ks ss ls R L),some w,some (.ref m.length),some (.int i),o4',o5',o6'],_,_,bC hi,by simp [au],.inl e,_,_,_,_,rfl,?_⟩
   rw [rcs,rcs,List.range_succ,List.flatMap_append]
   simp)
  (fun ρ M _=>bz (by omega))
 rw [b19,ai (bK (w:=.non) (m1:=m) (by simp only [EVs,gq0,gq1,gq2,gq3,ic hm hw h h0 hl])),ai (ρ1:=[some (tab ks ss ls R L),some w,some (.ref m.length),none,none,none,none]) (m1:=m++[.lst []]) (aM (w:=.ref m.length) (by simp only [EVs,new,List.length_nil]; rw [if_pos (Nat.zero_le _)]) rfl),ai hf,bf (br (w:=.ref m.length) (m1:=m++[.lst ((rcs R N ss.length (2^ks.length)).map tW)]) (by simp only [EVs,gq0,gq1,gq2,gq3]))]
theorem DX {w:W} (hm:Cm m) (hw:getL m w=some (N.map tupI)) (o:TabOk ks ss ls R L) (h:aK k N) (hl:N.length=ss.length) :
  aA (D.runN pg (n+1+1+1+1) 19) [tab ks ss ls R L,w] m=.ok (.ref m.length) (m++[.lst ((rcs R N ss.length (2^ks.length)).map tW)]):=by
 cases hp:ah [tab ks ss ls R L,w] with
 | false=>rw [aX hp,vP hm hw o h hl]
 | true=>
  rw [fh hp (vP Cm.nil (by rw [bS (m:=m) (zw hp)]; exact hw) o h hl) rfl,List.nil_append,List.map_cons,shO,jw _ (g8 (λ r=>by simp [ao,ah,bO]) _)]
  rfl
end
end My
end
section
namespace My
open PySem D
end My
end
section
namespace My
open PySem D
theorem pA {m:Mem} {a b:List Int}:eqW m (tupI a) (tupI b)=.ok (decide (a=b)) m:=by
 have h1:toD 60 m (tupI a)=some (.tuple (a.map .int)):=cJ
 have h2:toD 60 m (tupI b)=some (.tuple (b.map .int)):=cJ
 simp only [eqW,h1,h2,iG]
theorem vQ:∀(a b:List (List Int)),PyData.eqvAll (a.map λ l=>.tuple (l.map .int)) (b.map λ l=>.tuple (l.map .int))=decide (a=b):=by
 intro a
 induction a with
 | nil=>intro b; cases b<;>simp [PyData.eqvAll]
 | cons x r ih=>
  intro b
  cases b with
  | nil=>simp [PyData.eqvAll]
  | cons y s=>
   simp only [List.map_cons,PyData.eqvAll,ih,iG]
   by_cases h:x=y<;>by_cases h':r=s<;>simp [h,h']
theorem zx {m:Mem} {w:W} {l:List (List Int)} (h:getL m w=some (l.map tupI)):toD 60 m w=some (.list (l.map λ a=>.tuple (a.map .int))):=by
 rw [ng (n:=59) h,c9 (h:=λ a:List Int=>PyData.tuple (a.map .int)) λ a _=>cJ]
 rfl
theorem BR {m:Mem} {v w:W} {a b:List (List Int)} (h1:getL m v=some (a.map tupI)) (h2:getL m w=some (b.map tupI)):eqW m v w=.ok (decide (a=b)) m:=by
 simp only [eqW,zx h1,zx h2]
 rw [PyData.eqv.eq_def]
 simp only [vQ]
abbrev dQ (T:List Race):W:=.fz (T.map tW)
theorem ny (T:List Race):ah (T.map tW)=true:=g8 (λ r=>by simp [ao,ah,bO]) _
section
variable {n:Nat} {m:Mem} {ks ss ls:List Str} {R L N:List (List Int)} {k:Nat}
theorem qB (hk:ss.length<=4) (l:Nat) (hl:l<=4):(rcs R N ss.length l).length<=100:=by
 have:∀l:List Nat,(l.flatMap λ x=>(unl R ss.length x).flatMap (rc1 N x)).length<=16*l.length:=λ l=>by
  induction l with
  | nil=>simp
  | cons a r ih=>
   have h1:=pq (lO (N:=N) a) (unl R ss.length a)
   have h2:=lN (R:=R) (k:=ss.length) a hk
   rw [List.flatMap_cons,List.length_append,List.length_cons]; omega
 have:=this (List.range l)
 rw [List.length_range] at this
 unfold rcs
 omega
end
end My
end
section
namespace My
open PySem D
noncomputable def yv (b:Bool):R W->Bool
 | .ok (.bl c) _=>b==c
 | _=>false
theorem qC {b:Bool} {r:R W} (h:yv b r=true):∃M,r=.ok (.bl b) M:=by
 unfold yv at h
 split at h
 ·exact ⟨_,by rw [eq_of_beq h]⟩
 ·cases h
noncomputable def chB (n:Nat) (l:List (List Int)) (k:Nat):Bool:=l.all λ a=>(af k).all λ b=>(af k).all λ x=>yv (btw a b x) (D.runN pg (n+1) 32 [tupI x,tupI a,tupI b] [])
theorem b_1 {n:Nat}:chB n (af 1) 1=true:=by kernel_rfl
theorem b_2 {n:Nat}:chB n (af 2) 2=true:=by kernel_rfl
theorem b_3 {n:Nat}:chB n (af 3) 3=true:=by kernel_rfl
theorem b_a {n:Nat}:chB n ((af 4).take 4) 4=true:=by kernel_rfl
theorem b_b {n:Nat}:chB n (((af 4).drop 4).take 4) 4=true:=by kernel_rfl
theorem b_c {n:Nat}:chB n (((af 4).drop 8).take 4) 4=true:=by kernel_rfl
theorem b_d {n:Nat}:chB n ((af 4).drop 12) 4=true:=by kernel_rfl
theorem four {P:List Int->Prop} (h1:∀a∈(af 4).take 4,P a) (h2:∀a∈((af 4).drop 4).take 4,P a) (h3:∀a∈((af 4).drop 8).take 4,P a) (h4:∀a∈(af 4).drop 12,P a):∀a∈af 4,P a:=by
 intro a ha
 rw [show af 4=(af 4).take 4++(((af 4).drop 4).take 4++(((af 4).drop 8).take 4++(af 4).drop 12)) from by decide +kernel,List.mem_append,List.mem_append,List.mem_append] at ha
 rcases ha with ha | ha | ha | ha
 ·exact h1 a ha
 ·exact h2 a ha
 ·exact h3 a ha
 ·exact h4 a ha
theorem pB {n k:Nat} {a b x:List Int} {m:Mem} (h1:1<=k) (h4:k<=4) (ha:a∈af k) (hb:b∈af k) (hx:x∈af k):aA (D.runN pg (n+1) 32) [tupI x,tupI a,tupI b] m=.ok (.bl (btw a b x)) m:=by
 have g:∀l:List (List Int),chB n l k=true->∀a∈l,aA (D.runN pg (n+1) 32) [tupI x,tupI a,tupI b] m=.ok (.bl (btw a b x)) m:=λ l h a ha=>by
  obtain ⟨M,hM⟩:=qC (List.all_eq_true.mp (List.all_eq_true.mp (List.all_eq_true.mp h a ha) b hb) x hx)
  exact aL (by simp [ah,ao,bO]) hM rfl
 rcases (by omega:k=1\/k=2\/k=3\/k=4) with rfl | rfl | rfl | rfl
 ·exact g _ b_1 a ha
 ·exact g _ b_2 a ha
 ·exact g _ b_3 a ha
 ·exact four (P:=λ a=>aA (D.runN pg (n+1) 32) [tupI x,tupI a,tupI b] m=.ok (.bl (btw a b x)) m) (g _ b_a) (g _ b_b) (g _ b_c) (g _ b_d) a ha
end My
end
section
namespace My
open PySem D
noncomputable def stp (a b:List Int):List (List Int):=a::(List.range a.length).filterMap λ i=>if a.getD i 0=b.getD i 0 then none else some (b.take (i+1)++a.drop (i+1))
noncomputable def vR (l:List (List Int)):R W->Bool
 | .ok (.ref 0) [.lst xs]=>eqN xs l
 | _=>false
theorem vS {l:List (List Int)} {r:R W} (h:vR l r=true):r=.ok (.ref 0) [.lst (l.map tupI)]:=by
 unfold vR at h
 split at h
 ·rw [o9 h]
 ·cases h
theorem yw {n:Nat}:([1,2,3,4].all λ k=>(af k).all λ a=>(af k).all λ b=>vR (stp a b) (D.runN pg (n+1) 22 [tupI a,tupI b] []))=true:=by kernel_rfl
theorem fJ {n k:Nat} {a b:List Int} {m:Mem} (h1:1<=k) (h4:k<=4) (ha:a∈af k) (hb:b∈af k):aA (D.runN pg (n+1) 22) [tupI a,tupI b] m=.ok (.ref m.length) (m++[.lst ((stp a b).map tupI)]):=by
 have h:=List.all_eq_true.mp (List.all_eq_true.mp (List.all_eq_true.mp (yw (n:=n)) k (k4 h1 h4)) a ha) b hb
 rw [fh (by simp [ah,ao,bO]) (vS h) rfl,List.map_cons,shO,jw _ (dj _)]
 rfl
noncomputable def ham (a b:List Int):Nat:=((List.range a.length).filter λ i=>a.getD i 0 != b.getD i 0).length
noncomputable def isIn (i:Int):R W->Bool
 | .ok (.int j) _=>i==j
 | _=>false
theorem yx {i:Int} {r:R W} (h:isIn i r=true):∃M,r=.ok (.int i) M:=by
 unfold isIn at h
 split at h
 ·exact ⟨_,by rw [eq_of_beq h]⟩
 ·cases h
theorem yy {n:Nat}:([1,2,3,4].all λ k=>(af k).all λ a=>(af k).all λ b=>isIn (ham a b) (D.runN pg (n+1) 33 [tupI a,tupI b] []))=true:=by kernel_rfl
theorem unlike {n k:Nat} {a b:List Int} {m:Mem} (h1:1<=k) (h4:k<=4) (ha:a∈af k) (hb:b∈af k):aA (D.runN pg (n+1) 33) [tupI a,tupI b] m=.ok (.int (ham a b)) m:=by
 obtain ⟨M,hM⟩:=yx (List.all_eq_true.mp (List.all_eq_true.mp (List.all_eq_true.mp (yy (n:=n)) k (k4 h1 h4)) a ha) b hb)
 exact aL (by simp [ah,ao,bO]) hM rfl
theorem yz {n:Nat}:([1,2,3,4].all λ k=>(af k).all λ a=>yv true (D.runN pg (n+1) 34 [tupI a] []))=true:=by kernel_rfl
theorem BS {n k:Nat} {a:List Int} {m:Mem} (h1:1<=k) (h4:k<=4) (ha:a∈af k):aA (D.runN pg (n+1) 34) [tupI a] m=.ok (.bl true) m:=by
 obtain ⟨M,hM⟩:=qC (List.all_eq_true.mp (List.all_eq_true.mp (yz (n:=n)) k (k4 h1 h4)) a ha)
 exact aL (by simp [ah,ao,bO]) hM rfl
noncomputable def zy (k:Nat) (a c:List Int):Bool:=((stp a c).all λ x=>btw a c x&&decide (x∈af k))&&decide ((stp a c).getLast?=some c)&&decide ((stp a c).length=1+ham a c)&&decide (ham a c<=4)&&(List.range (ham a c)).all λ i=>ham ((stp a c).getD i []) ((stp a c).getD (i+1) [])==1
theorem BU:([1,2,3,4].all λ k=>(af k).all λ a=>(af k).all λ c=>zy k a c)=true:=by decide +kernel
noncomputable def dN (l:List (List Int)):PyData:=.list (l.map λ a=>.tuple (a.map .int))
noncomputable def vU (a c:List Int):Bool:=(dN (stp a c)).canLay0&&decide ((dN (stp a c)).depth<=2)&&decide ((dN (stp a c)).weight<=100)&&(dN (stp a c)).intsShort 13&&(dN (stp a c)).showable&&!(dN (stp a c)).hasDict&&(dN (stp a c)).shown.cps.all (· < 0x110000)
noncomputable def shL (l:List (List Int)) (k:Nat):Bool:=l.all λ a=>(af k).all λ c=>vU a c
theorem E8:shL (af 1) 1=true:=by kernel_rfl
theorem E9:shL (af 2) 2=true:=by kernel_rfl
theorem Fb:shL (af 3) 3=true:=by kernel_rfl
theorem Fc:shL ((af 4).take 4) 4=true:=by kernel_rfl
theorem Fd:shL (((af 4).drop 4).take 4) 4=true:=by kernel_rfl
theorem Fe:shL (((af 4).drop 8).take 4) 4=true:=by kernel_rfl
theorem Ff:shL ((af 4).drop 12) 4=true:=by kernel_rfl
theorem zz {k:Nat} {a c:List Int} (h1:1<=k) (h4:k<=4) (ha:a∈af k) (hc:c∈af k):vU a c=true:=by
 have g:∀l:List (List Int),shL l k=true->∀a∈l,vU a c=true:=λ l h a ha=>List.all_eq_true.mp (List.all_eq_true.mp h a ha) c hc
 rcases (by omega:k=1\/k=2\/k=3\/k=4) with rfl | rfl | rfl | rfl
 ·exact g _ E8 a ha
 ·exact g _ E9 a ha
 ·exact g _ Fb a ha
 ·exact four (P:=λ a=>vU a c=true) (g _ Fc) (g _ Fd) (g _ Fe) (g _ Ff) a ha
end My
end
section
namespace My
open PySem D
theorem yC {a:List Int} {M:Mem}:aP .len [tupI a] M=.ok (.int a.length) M:=by
 have:=bD (m:=M) (w:=tupI a) (xs:=a.map .int) rfl
 rw [List.length_map] at this
 exact this
theorem DY {C:D.Cx} {ρ:D.Loc} {m:Mem} (hm:Cm m):evE C (.frz (.lst .nil)) ρ m=.ok (nmW []) m:=by
 refine bX (m0:=m) ?_ rfl hm rfl
 simp only [EVs,new,List.length_nil]
 rw [if_pos (Nat.zero_le _)]
 rfl
theorem DZ {C:D.Cx} {a b:E} {ρ:D.Loc} {m:Mem} {i j:Nat} (ha:evE C a ρ m=.ok (.int i) m) (hb:evE C b ρ m=.ok (.int j) m) (hi:i < 1000) (hj:j < 1000):evI C (.rng2 a b) ρ m=.ok (.rng i (j - i)) m:=by
 simp only [evI,ha,hb,D.R.bind]
 rw [if_pos (by omega)]
 congr 2
 omega
theorem pC {lo:Nat} {n i:Nat} {m:Mem} (h:i < n):Src.get (.rng lo n) m i=.it (.int (lo+i:Nat)):=by rw [bC h]; simp
theorem sC:∀{k:Nat} {a t c x:List Int},a.length=k->t.length=k->c.length=k->x.length=k->btw a t c=true->btw a c x=true->btw a t x=true:=by
 intro k
 induction k with
 | zero=>intro a t c x ha ht hc hx _ _; match a,ha with | [],_=>rfl
 | succ k ih=>
  intro a t c x ha ht hc hx h1 h2
  match a,t,c,x,ha,ht,hc,hx with
  | a::as,t::ts,c::cs,x::xs,ha,ht,hc,hx=>
   simp only [btw,Bool.and_eq_true,Bool.or_eq_true,bne_iff_ne,beq_iff_eq] at h1 h2 ⊢
   refine ⟨?_,ih (by simpa using ha) (by simpa using ht) (by simpa using hc) (by simpa using hx) h1.2 h2.2⟩
   rcases h1.1 with h | h
   ·exact .inl h
   ·exact .inr (h2.1.resolve_left λ z=>z h.symm)
theorem yD {m:Mem} {w:W} {N:List (List Int)} {c:List Int} (hw:getL m w=some (N.map tupI)) (h:N.getLast?=some c):aQ w (.int (-1)) m=.ok (tupI c) m:=by
 have h0:0 < N.length:=by cases N with | nil=>cases h | cons _ _=>simp
 have h1:L2.atI (N.map tupI) (-1)=some (tupI c):=by
  unfold L2.atI L2.ixN
  rw [if_neg (by omega),List.length_map,if_pos (by omega)]
  have:(-1+(N.length:Int)).toNat=N.length - 1:=by omega
  simp only [Option.bind_some,this,List.getElem?_map]
  rw [<-List.getLast?_eq_getElem?,h]
  rfl
 have h2:=bw hw
 cases w with
 | str z=>simp [getL] at hw
 | _=>simp only [aQ,h2,h1]
section
variable {n:Nat} {m:Mem} {ks ss ls:List Str} {R L N:List (List Int)} {k:Nat}
theorem steps' {w:W} (hm:Cm m) (hw:getL m w=some (N.map tupI)) (h:aK k N) (hl:N.length=ss.length) {x s u:Nat} {c:List Int} (hs:s < N.length) (hu:u < N.length) (hc:c∈af k) :
  D.runN pg (n+1+1+1) 21 [tab ks ss ls R L,w,tW (x,s,u,c)] m=.ok (.tup [.ref m.length,.ref (m.length+1)]) (m++[.lst ((stp N[s] c).map tupI),.lst ((stp N[u] c).map tupI)]):=by
 have h0:0 < N.length:=by omega
 refine bq (d:=⟨3,7,b21⟩) rfl rfl ?_
 show aE _ b21 [some (tab ks ss ls R L),some w,some (tW (x,s,u,c)),none,none,none,none] m=_
 have g1:=fJ (n:=n+1) (m:=m) h.k1 h.k4 (h.at_ hs) hc
 have g2:=fJ (n:=n+1) (m:=m++[.lst ((stp N[s] c).map tupI)]) h.k1 h.k4 (h.at_ hu) hc
 rw [List.length_append,List.length_singleton,List.append_assoc] at g2
 have i1:=bP hw hs
 have i2:=bP (dg (l:=[.lst ((stp N[s] c).map tupI)]) hw) hu
 rw [b21,ai (bK (w:=.non) (m1:=m) (by simp only [EVs,gq0,gq1,gq2,gq3,ic hm hw h h0 hl])),ai (ρ1:=[some (tab ks ss ls R L),some w,some (tW (x,s,u,c)),some (.int x),some (.int s),some (.int u),some (tupI c)]) (m1:=m) (by simp [evS,evE,evA,cz,au,D.R.bind,aC]),bf (br (w:=.tup [.ref m.length,.ref (m.length+1)]) (m1:=m++[.lst ((stp N[s] c).map tupI),.lst ((stp N[u] c).map tupI)]) ?_)]
 simp only [EVs,gq0,gq1,gq2,gq3,i1,g1,i2,g2]
 exact if_pos (by simp [lim])
theorem sD {j:Nat} {S:List (List Int)} {a c g:List Int} {o5:Option W} (h1:1<=k) (h4:k<=4) (hw:getL m (.ref j)=some (S.map tupI)) (hS:∀x∈S,x∈af k) (ha:a∈af k) {i:Nat} (hi:i+1 < S.length) (hh:ham S[i] S[i+1]=1) :
  aE (Cn pg (n+1)) qm [some (.ref j),some (tupI a),some (tupI c),some (tupI g),some (.int (1+i:Nat)),o5] m=.ok (.nx [some (.ref j),some (tupI a),some (tupI c),some (tupI g),some (.int (1+i:Nat)),o5]) m:=by
 have e1:=bP hw hi
 have e0:=bP hw (by omega:i < S.length)
 have x1:=hS _ (List.getElem_mem hi)
 have x0:=hS _ (List.getElem_mem (by omega:i < S.length))
 have hsub:(((1+i:Nat):Int) - 1)=(i:Nat):=by omega
 have hadd:((1+i:Nat):Int)=((i+1:Nat):Int):=by omega
 have hT:evT (Cn pg (n+1)) (.or (.cmp .NotEq (.blt .len (.cons (.idx (.var 0) (.var 4)) .nil)) (.blt .len (.cons (.var 1) .nil))) (.cmp .NotEq (.call 33 (.cons (.idx (.var 0) (.bin .Sub (.var 4) (.cst (.int 1)))) (.cons (.idx (.var 0) (.var 4)) .nil))) (.cst (.int 1)))) [some (.ref j),some (tupI a),some (tupI c),some (tupI g),some (.int (1+i:Nat)),o5] m=.ok false m:=by
  have t1:evT (Cn pg (n+1)) (.cmp .NotEq (.blt .len (.cons (.idx (.var 0) (.var 4)) .nil)) (.blt .len (.cons (.var 1) .nil))) [some (.ref j),some (tupI a),some (tupI c),some (tupI g),some (.int (1+i:Nat)),o5] m=.ok false m:=by
   simp only [dB,dY,bh,bI,g9,bF,gq0,gq1,gq2,gq3,aN,hadd,e1,yC,aq,eqI,(aY.mp x1).1,(aY.mp ha).1]
   simp
  have t2:evT (Cn pg (n+1)) (.cmp .NotEq (.call 33 (.cons (.idx (.var 0) (.bin .Sub (.var 4) (.cst (.int 1)))) (.cons (.idx (.var 0) (.var 4)) .nil))) (.cst (.int 1))) [some (.ref j),some (tupI a),some (tupI c),some (tupI g),some (.int (1+i:Nat)),o5] m=.ok false m:=by
   simp only [dB,gi,bh,bI,g9,bF,vd,gg,gq0,gq1,gq2,gq3,aN,binop,hsub,e0]
   simp only [hadd,e1,aN,unlike h1 h4 x0 x1,hh,aq,eqI]
   simp
  rw [gI,t1]
  simp only [aN,Bool.false_eq_true,if_false]
  exact t2
 rw [qm,ai (by rw [d9 hT,av]),av]
theorem qD {j:Nat} {a c g:List Int} (hm:Cm m) (hj:m[j]?=some (.lst ((stp a c).map tupI))) (h1:1<=k) (h4:k<=4) (ha:a∈af k) (hc:c∈af k) (hg:g∈af k) (hb:btw a g c=true) :
  aA (D.runN pg (n+1+1) 35) [.ref j,tupI a,tupI c,tupI g] m=.ok (.bl true) m:=by
 have hok:=List.all_eq_true.mp (List.all_eq_true.mp (List.all_eq_true.mp BU k (k4 h1 h4)) a ha) c hc
 simp only [zy,Bool.and_eq_true,List.all_eq_true,decide_eq_true_eq,List.mem_range,beq_iff_eq] at hok
 obtain ⟨⟨⟨⟨hS,hlast⟩,hlen⟩,h5⟩,hcon⟩:=hok
 have hhd:(stp a c)[0]?=some a:=rfl
 generalize stp a c=S at hj hS hlast hlen hcon hhd
 have hw:getL m (.ref j)=some (S.map tupI):=by simp only [getL,hj]
 have h0:0 < S.length:=by omega
 have e0:=bP hw h0
 rw [show ((0:Nat):Int)=0 from rfl,show S[0]=a from by rw [List.getElem?_eq_getElem h0] at hhd; exact Option.some.inj hhd] at e0
 have e9:=yD hw hlast
 have el:aP .len [.ref j] m=.ok (.int S.length) m:=by
  have:=bD (m:=m) (w:=.ref j) (xs:=S.map tupI) (bw hw)
  rw [List.length_map] at this
  exact this
 have ne:S≠[]:=λ z=>by rw [z] at h0; cases h0
 rw [aX rfl]
 refine bq (d:=⟨4,6,b35⟩) rfl rfl ?_
 show aE _ b35 [some (.ref j),some (tupI a),some (tupI c),some (tupI g),none,none] m=_
 have hy:fB m "list" (.ref j)=some true:=by simp [fB,hj]
 have hT1:evT (Cn pg (n+1)) (.or (.not (.isI (.var 0) "list")) (.or (.cmp .Eq (.var 0) (.frz (.lst .nil))) (.or (.cmp .NotEq (.idx (.var 0) (.cst (.int 0))) (.var 1)) (.cmp .NotEq (.idx (.var 0) (.neg (.cst (.int 1)))) (.var 2))))) [some (.ref j),some (tupI a),some (tupI c),some (tupI g),none,none] m=.ok false m:=by
  have t1:evT (Cn pg (n+1)) (.isI (.var 0) "list") [some (.ref j),some (tupI a),some (tupI c),some (tupI g),none,none] m=.ok true m:=cU (vf _ _) (by simp only [EVs,gq0,gq1,gq2,gq3,hy])
  have t2:evT (Cn pg (n+1)) (.cmp .Eq (.var 0) (.frz (.lst .nil))) [some (.ref j),some (tupI a),some (tupI c),some (tupI g),none,none] m=.ok false m:=by
   rw [dB]
   simp only [bF,gq0,gq1,gq2,gq3,aN]
   rw [DY hm]
   simp only [aN,aq]
   rw [BR (b:=[]) hw rfl,decide_eq_false ne]
  have t3:evT (Cn pg (n+1)) (.cmp .NotEq (.idx (.var 0) (.cst (.int 0))) (.var 1)) [some (.ref j),some (tupI a),some (tupI c),some (tupI g),none,none] m=.ok false m:=by
   simp only [dB,g9,bF,gg,gq0,gq1,gq2,gq3,aN,e0,aq,pA]
   simp
  have t4:evT (Cn pg (n+1)) (.cmp .NotEq (.idx (.var 0) (.neg (.cst (.int 1)))) (.var 2)) [some (.ref j),some (tupI a),some (tupI c),some (tupI g),none,none] m=.ok false m:=by
   simp only [dB,g9,zj,bF,gg,gq0,gq1,gq2,gq3,aN,e9,aq,pA]
   simp
  rw [gI,eN,t1]
  simp only [aN,Bool.not_true,Bool.false_eq_true,if_false]
  rw [gI,t2]
  simp only [aN,Bool.false_eq_true,if_false]
  rw [gI,t3]
  simp only [aN,Bool.false_eq_true,if_false]
  exact t4
 obtain ⟨s0,hs0,hsg,hsl⟩:=lE (bw hw)
 have hlim:(S.map tupI).length<=lim:=by rw [List.length_map]; simp only [lim]; omega
 have hall:=λ o4=>gh (C:=Cn pg (n+1)) (i:=5) (js:=[5]) (it:=.var 0) (e:=.call 34 (.cons (.var 5) .nil)) (ρ:=[some (.ref j),some (tupI a),some (tupI c),some (tupI g),o4,none]) hm (by rw [fG,bF]; exact hs0) hsg hsl hlim (λ x hx=>by
  obtain ⟨r,hr,rfl⟩:=List.mem_map.mp hx
  simp only [clr,EVs,gq0,gq1,gq2,gq3,BS h1 h4 (hS r hr).2])
 have D0:=λ o4=>gh (C:=Cn pg (n+1)) (i:=5) (js:=[5]) (it:=.var 0) (e:=.call 32 (.cons (.var 5) (.cons (.var 1) (.cons (.var 3) .nil)))) (ρ:=[some (.ref j),some (tupI a),some (tupI c),some (tupI g),o4,none]) hm (by rw [fG,bF]; exact hs0) hsg hsl hlim (λ x hx=>by
  obtain ⟨r,hr,rfl⟩:=List.mem_map.mp hx
  have hr2:=hS r hr
  have z:btw a g r=true:=sC (aY.mp ha).1 (aY.mp hg).1 (aY.mp hc).1 (aY.mp hr2.2).1 hb hr2.1
  simp only [clr,EVs,gq0,gq1,gq2,gq3,pB h1 h4 ha hg hr2.2,z])
 have hT2:evT (Cn pg (n+1)) (.or (.cmp .NotEq (.blt .len (.cons (.var 0) .nil)) (.bin .Add (.cst (.int 1)) (.call 33 (.cons (.var 1) (.cons (.var 2) .nil))))) (.not (.blt .all (.cons (.frz (.comp (.gen (.var 5) [5] (.var 0) .nil (.elt (.call 34 (.cons (.var 5) .nil)))))) .nil)))) [some (.ref j),some (tupI a),some (tupI c),some (tupI g),none,none] m=.ok false m:=by
  have t1:evT (Cn pg (n+1)) (.cmp .NotEq (.blt .len (.cons (.var 0) .nil)) (.bin .Add (.cst (.int 1)) (.call 33 (.cons (.var 1) (.cons (.var 2) .nil))))) [some (.ref j),some (tupI a),some (tupI c),some (tupI g),none,none] m=.ok false m:=by
   simp only [dB,dY,vd,gi,bh,bI,bF,gg,gq0,gq1,gq2,gq3,aN,el,unlike h1 h4 ha hc,binop,aq,eqI,hlen]
   simp
  have t2:=cU (m8 _ _) (hall none)
  rw [gI,t1]
  simp only [aN,Bool.false_eq_true,if_false]
  rw [eN,t2]
  rfl
 have hI:evI (Cn pg (n+1)) (.rng2 (.cst (.int 1)) (.blt .len (.cons (.var 0) .nil))) [some (.ref j),some (tupI a),some (tupI c),some (tupI g),none,none] m=.ok (.rng (1:Nat) (S.length - 1)) m:=DZ (by simp only [EVs]; rfl) (by simp only [EVs,gq0,gq1,gq2,gq3,el]) (by omega) (by omega)
 obtain ⟨ρ',m',hf,o4,rfl,rfl⟩:=cD (C:=Cn pg (n+1)) (t:=.var 4) (b:=qm) hI (n:=S.length - 1) rfl
  (λ i ρ M=>∃o4,ρ=[some (.ref j),some (tupI a),some (tupI c),some (tupI g),o4,none]/\M=m) ⟨none,rfl,rfl⟩ (λ i ρ M hi=>by
   rintro ⟨o4,rfl,rfl⟩
   have hi1:i+1 < S.length:=by omega
   have hh:=hcon i (by omega)
   rw [List.getD_eq_getElem?_getD,List.getD_eq_getElem?_getD,List.getElem?_eq_getElem hi1,List.getElem?_eq_getElem (by omega:i < S.length)] at hh
   have e:=sD (n:=n) (c:=c) (g:=g) (o5:=none) h1 h4 hw (λ x hx=>(hS x hx).2) ha hi1 hh
   exact ⟨.int (1+i:Nat),[some (.ref j),some (tupI a),some (tupI c),some (tupI g),some (.int (1+i:Nat)),none],_,_,pC hi,rfl,.inl e,_,rfl,rfl⟩)
  (fun ρ M _=>bz (by omega))
 rw [b35,ai (by rw [d9 hT1,av]),ai (by rw [d9 hT2,av]),ai hf,bf (br (D0 o4))]
end
end My
end
section
namespace My
open PySem D
noncomputable def rD (r:Race):PyData:=.tuple [.int r.1,.int r.2.1,.int r.2.2.1,.tuple (r.2.2.2.map .int)]
theorem Fg {m:Mem} {r:Race}:eqW m (tW r) (tW r)=.ok true m:=by
 have h:toD 60 m (tW r)=some (rD r):=by
  rw [lF]
  simp only [cg,cJ]
  rfl
 have hr:PyData.eqv (rD r) (rD r)=true:=by
  rw [rD,PyData.eqv.eq_def]
  simp only [PyData.eqvAll,lJ,iG]
  simp
 simp only [eqW,h,hr]
theorem vV {n:Nat} {m:Mem} {w:W} {l:List (List Int)} (h:getL m w=some (l.map tupI)):toD (n+1+1+1) m w=some (dN l):=by
 rw [ng (n:=n+1+1) h,c9 (h:=λ a:List Int=>PyData.tuple (a.map .int)) λ a _=>cJ]
 rfl
theorem sh2 {k:Nat} {a b c:List Int} (h1:1<=k) (h4:k<=4) (ha:a∈af k) (hb:b∈af k) (hc:c∈af k):shD (.tuple [dN (stp a c),dN (stp b c)])=true/\(PyData.tuple [dN (stp a c),dN (stp b c)]).shown.cps.all (· < 0x110000)=true:=by
 have x:=zz h1 h4 ha hc
 have y:=zz h1 h4 hb hc
 simp only [vU,Bool.and_eq_true,decide_eq_true_eq,Bool.not_eq_true'] at x y
 generalize dN (stp a c)=d at x ⊢
 generalize dN (stp b c)=e at y ⊢
 obtain ⟨⟨⟨⟨⟨⟨x1,x2⟩,x3⟩,x4⟩,x5⟩,x6⟩,x7⟩:=x
 obtain ⟨⟨⟨⟨⟨⟨y1,y2⟩,y3⟩,y4⟩,y5⟩,y6⟩,y7⟩:=y
 have c1:(PyData.tuple [d,e]).canLay0=true:=by rw [PyData.canLay0.eq_def]; simp [PyData.canLayAll0,x1,y1]
 have c2:(PyData.tuple [d,e]).depth<=3:=by rw [PyData.depth.eq_def]; simp only [PyData.depthAll]; omega
 have c3:(PyData.tuple [d,e]).weight<=300:=by rw [PyData.weight.eq_def]; simp only [PyData.weightAll]; omega
 have c4:(PyData.tuple [d,e]).intsShort 13=true:=by rw [PyData.intsShort.eq_def]; simp [PyData.intsShortAll,x4,y4]
 have c5:(PyData.tuple [d,e]).showable=true:=by rw [PyData.showable.eq_def]; simp [PyData.showableAll,x5,y5]
 have c6:(PyData.tuple [d,e]).hasDict=false:=by rw [PyData.hasDict.eq_def]; simp [PyData.hasDictAll,x6,y6]
 refine ⟨?_,?_⟩
 ·have c7:(PyData.tuple [d,e]).layable0=true:=by
   simp only [PyData.layable0,Bool.and_eq_true,decide_eq_true_eq]
   exact ⟨⟨c1,by omega⟩,Nat.le_trans c3 (by decide)⟩
  simp only [shD,Bool.and_eq_true,Bool.not_eq_true',decide_eq_true_eq]
  exact ⟨⟨⟨⟨⟨rfl,c7⟩,c4⟩,c5⟩,c6⟩,by omega⟩
 ·rw [PyData.shown.eq_def]
  simp only [PyData.shownAll,tupleText,Str.join]
  have ap:∀{p q:Str},(p++q).cps=p.cps++q.cps:=λ {p q}=>rfl
  simp only [ap,Array.all_append,Bool.and_eq_true]
  have z:(Str.ofString ")").cps.all (λ a=>decide (a < 0x110000))=true:=by decide +kernel
  refine ⟨⟨by decide +kernel,?_⟩,z⟩
  simp only [x7,y7,true_and,and_true]
  decide +kernel
theorem D3 {m:Mem} {k i j:Nat} {a b c:List Int} (h1:1<=k) (h4:k<=4) (ha:a∈af k) (hb:b∈af k) (hc:c∈af k) (hi:m[i]?=some (.lst ((stp a c).map tupI))) (hj:m[j]?=some (.lst ((stp b c).map tupI))):aP .repr [.tup [.ref i,.ref j]] m=.ok (.str (PyData.tuple [dN (stp a c),dN (stp b c)]).shown) m:=by
 have hd:toD 60 m (.tup [.ref i,.ref j])=some (.tuple [dN (stp a c),dN (stp b c)]):=by
  rw [lF (n:=59)]
  simp only [cg]
  rw [vV (n:=56) (l:=stp a c) (by simp only [getL,hi]),vV (n:=56) (l:=stp b c) (by simp only [getL,hj])]
  rfl
 simp only [aP,hd]
 rw [if_pos (sh2 h1 h4 ha hb hc).1]
section
variable {n:Nat} {m:Mem} {ks ss ls:List Str} {R L N:List (List Int)} {k:Nat}
theorem BV {M:Mem} {s:Nat} (h:s < R.length):aQ (.fz (R.map fzI)) (.int s) M=.ok (fzI R[s]) M:=by
 have:=dG (m:=M) (w:=.fz (R.map fzI)) (xs:=R.map fzI) (i:=s) rfl (by simpa using h)
 rw [List.getElem_map] at this
 exact this
theorem yE {M:Mem} {r:List Int} {x:Nat} (h:x < r.length):aQ (fzI r) (.int x) M=.ok (.int r[x]) M:=by
 have:=dG (m:=M) (w:=fzI r) (xs:=r.map .int) (i:=x) rfl (by simpa using h)
 rw [List.getElem_map] at this
 exact this
theorem zA (o:TabOk ks ss ls R L) {s x:Nat} (hs:s < ss.length) (hx:x < 2^ks.length):∃(h1:s < R.length),∀M,aQ (.fz (R.map fzI)) (.int s) M=.ok (fzI R[s]) M/\aQ (fzI R[s]) (.int x) M=.ok (.int (go_ R s x)) M:=by
 obtain ⟨a1,a2,a3,a4⟩:=nv o hs hx
 exact ⟨a1,λ M=>⟨BV a1,by rw [yE a2,a3]⟩⟩
structure vW (R N:List (List Int)) (ss ks:List Str) (k x s u:Nat) (c:List Int):Prop where
 hx:x < 2^ks.length
 hs:s < ss.length
 hu:u < ss.length
 hc:c∈af k
 bs:btw (N.getD s []) (N.getD (go_ R s x) []) c=true
 bu:btw (N.getD u []) (N.getD (go_ R u x) []) c=true
theorem yF (o:TabOk ks ss ls R L) (h:aK k N) (hl:N.length=ss.length) {r:Race} (hr:r∈rcs R N ss.length (2^ks.length)):vW R N ss ks k r.1 r.2.1 r.2.2.1 r.2.2.2:=by
 obtain ⟨x,hx,hr⟩:=List.mem_flatMap.mp hr
 obtain ⟨p,hp,hr⟩:=List.mem_flatMap.mp hr
 have hx:=List.mem_range.mp hx
 obtain ⟨h1,h2,h3,h4⟩:=vN o hx hp
 obtain ⟨a,ha,hp⟩:=List.mem_flatMap.mp hp
 obtain ⟨b,hb,rfl⟩:=List.mem_map.mp hp
 obtain ⟨s,_,rfl⟩:=List.mem_map.mp ha
 obtain ⟨u,_,rfl⟩:=List.mem_map.mp (List.mem_filter.mp hb).1
 unfold rc1 at hr
 obtain ⟨nm,hn,rfl⟩:=List.mem_map.mp hr
 have hn:=List.mem_of_mem_take hn
 obtain ⟨n1,n2⟩:=List.mem_filter.mp hn
 obtain ⟨n3,n4⟩:=List.mem_filter.mp n1
 have n2:=of_decide_eq_true n2
 obtain ⟨n5,n6⟩:=List.mem_filter.mp n2
 have hs:s < N.length:=by rw [hl]; exact h1
 refine ⟨hx,h1,h3,?_,n4,n6⟩
 rw [gD hs,(aY.mp (h.at_ hs)).1] at n3
 exact n3
abbrev eU (ks ss ls:List Str) (R L N:List (List Int)) (q:Nat) (r:Race) (a8 a9 a10:Option W):D.Loc:=[some (tab ks ss ls R L),some (.fz (R.map fzI)),some (.ref q),some (tW r),some (.int r.1),some (.int r.2.1),some (.int r.2.2.1),some (tupI r.2.2.2),a8,a9,a10]
theorem right {q:Nat} (hm:Cm m) (hq:m[q]?=some (.lst (N.map tupI))) (o:TabOk ks ss ls R L) (h:aK k N) (hl:N.length=ss.length) {r:Race} (hr:vW R N ss ks k r.1 r.2.1 r.2.2.1 r.2.2.2) :
  ∃l,aA (D.runN pg (n+1+1+1+1) 36) [tab ks ss ls R L,.fz (R.map fzI),.ref q,tW r] m=.ok (.bl true) (m++l)/\Cm (m++l):=by
 obtain ⟨x,s,u,c⟩:=r
 obtain ⟨hx,hs,hu,hc,bs,bu⟩:=hr
 dsimp only at hx hs hu hc bs bu
 have hsN:s < N.length:=by omega
 have huN:u < N.length:=by omega
 obtain ⟨_,_,_,gs⟩:=nv o hs hx
 obtain ⟨_,_,_,gu⟩:=nv o hu hx
 have gsN:go_ R s x < N.length:=by omega
 have guN:go_ R u x < N.length:=by omega
 rw [gD hsN,gD gsN] at bs
 rw [gD huN,gD guN] at bu
 obtain ⟨_,rs⟩:=zA o hs hx
 obtain ⟨_,ru⟩:=zA o hu hx
 have k1:=h.k1
 have k4:=h.k4
 have aS:=h.at_ hsN
 have aU:=h.at_ huN
 have aG:=h.at_ gsN
 have aH:=h.at_ guN
 have hw:getL m (.ref q)=some (N.map tupI):=by simp only [getL,hq]
 have hp3:ah [tab ks ss ls R L,.ref q,tW (x,s,u,c)]=false:=by rw [ah,cH]; simp [ah,ao]
 have st:∀{M:Mem},Cm M->getL M (.ref q)=some (N.map tupI)->aA (D.runN pg (n+1+1+1) 21) [tab ks ss ls R L,.ref q,tW (x,s,u,c)] M=.ok (.tup [.ref M.length,.ref (M.length+1)]) (M++[.lst ((stp N[s] c).map tupI),.lst ((stp N[u] c).map tupI)]):=λ c1 c2=>by rw [aX hp3,steps' c1 c2 h hl hsN huN hc]
 have rp:=λ {M:Mem} {i j:Nat}=>D3 (m:=M) (i:=i) (j:=j) k1 k4 aS aU hc
 have r1:=λ {M:Mem} {j:Nat} (c1:Cm M) (c2:M[j]?=some (.lst ((stp N[s] c).map tupI)))=>qD (n:=n+1) c1 c2 k1 k4 aS hc aG bs
 have r2:=λ {M:Mem} {j:Nat} (c1:Cm M) (c2:M[j]?=some (.lst ((stp N[u] c).map tupI)))=>qD (n:=n+1) c1 c2 k1 k4 aU hc aH bu
 have hsh:=(sh2 k1 k4 aS aU hc).2
 generalize PyData.shown (.tuple [dN (stp N[s] c),dN (stp N[u] c)])=z at rp hsh
 have hU0:(stp N[u] c)[0]?=some N[u]:=rfl
 generalize stp N[s] c=S at st rp r1
 generalize stp N[u] c=U at st rp r2 hU0
 have U0:0 < U.length:=(List.getElem?_eq_some_iff.mp hU0).1
 have Une:U≠[]:=λ z=>by rw [z] at U0; cases U0
 have p3:∀A B:List (List Int),Cm (m++[.lst (A.map tupI),.lst (B.map tupI)]):=λ A B=>hm.app λ o ho=>by
  simp only [List.mem_cons,List.not_mem_nil,or_false] at ho
  rcases ho with rfl | rfl
  ·exact bB _ (dj _)
  ·exact bB _ (dj _)
 have a1:∀A B:List (List Int),(m++[O.lst (A.map tupI),.lst (B.map tupI)])[m.length]?=some (.lst (A.map tupI)):=λ A B=>by simp
 have a2:∀A B:List (List Int),(m++[O.lst (A.map tupI),.lst (B.map tupI)])[m.length+1]?=some (.lst (B.map tupI)):=λ A B=>by simp
 have s1:∀A B:List (List Int),(m++[O.lst (A.map tupI),.lst (B.map tupI)]).set m.length (.lst [])=m++[O.lst (([]:List (List Int)).map tupI),.lst (B.map tupI)]:=λ A B=>by simp
 have s2:∀A B:List (List Int),(m++[O.lst (A.map tupI),.lst (B.map tupI)]).set (m.length+1) (.lst [])=m++[O.lst (A.map tupI),.lst (([]:List (List Int)).map tupI)]:=λ A B=>by rw [List.set_append_right _ _ (by omega),Nat.add_sub_cancel_left]; rfl
 have gq:∀A B:List (List Int),getL (m++[O.lst (A.map tupI),.lst (B.map tupI)]) (.ref q)=some (N.map tupI):=λ A B=>dg hw
 have ix0:∀M:Mem,aQ (.tup [.ref m.length,.ref (m.length+1)]) (.int 0) M=.ok (.ref m.length) M:=λ M=>by simp [aQ,aC,L2.atI,L2.ixN]
 have ix1:∀M:Mem,aQ (.tup [.ref m.length,.ref (m.length+1)]) (.int 1) M=.ok (.ref (m.length+1)) M:=λ M=>by simp [aQ,aC,L2.atI,L2.ixN]
 have nS:=λ A B=>bP (gq A B) hsN
 have nU:=λ A B=>bP (gq A B) huN
 have nG:=λ A B=>bP (gq A B) gsN
 have nH:=λ A B=>bP (gq A B) guN
 have hp:ah [tab ks ss ls R L,.fz (R.map fzI),.ref q,tW (x,s,u,c)]=false:=by rw [ah,cH]; simp [ah,ao]
 refine ⟨[.lst [],.lst [],.lst (S.map tupI),.lst (U.map tupI)],?_,?_⟩
 rotate_left
 ·refine hm.app λ o ho=>?_
  simp only [List.mem_cons,List.not_mem_nil,or_false] at ho
  rcases ho with rfl | rfl | rfl | rfl
  ·rfl
  ·rfl
  ·exact bB _ (dj _)
  ·exact bB _ (dj _)
 rw [aX hp]
 refine bq (d:=⟨4,11,b36⟩) rfl rfl ?_
 show aE _ b36 [some (tab ks ss ls R L),some (.fz (R.map fzI)),some (.ref q),some (tW (x,s,u,c)),none,none,none,none,none,none,none] m=_
 have e8:evE (Cn pg (n+1+1+1)) (.frz (.blt .list (.cons (.var 2) .nil))) (eU ks ss ls R L N q (x,s,u,c) none none none) m=.ok (nmW N) m:=dP (by simp only [EVs,gq0,gq1,gq2,gq3]) hw hm (dj _)
 have hT1:evT (Cn pg (n+1+1+1)) (.or (.not (.isI (.var 9) "tuple")) (.or (.cmp .NotEq (.blt .len (.cons (.var 9) .nil)) (.cst (.int 2))) (.or (.cmp .NotEq (.var 2) (.var 8)) (.cmp .NotEq (.var 3) (.tup (.cons (.var 4) (.cons (.var 5) (.cons (.var 6) (.cons (.var 7) .nil))))))))) (eU ks ss ls R L N q (x,s,u,c) (some (nmW N)) (some (.tup [.ref m.length,.ref (m.length+1)])) none) (m++[.lst (S.map tupI),.lst (U.map tupI)])=.ok false (m++[.lst (S.map tupI),.lst (U.map tupI)]):=by
  have t1:evT (Cn pg (n+1+1+1)) (.isI (.var 9) "tuple") (eU ks ss ls R L N q (x,s,u,c) (some (nmW N)) (some (.tup [.ref m.length,.ref (m.length+1)])) none) (m++[.lst (S.map tupI),.lst (U.map tupI)])=.ok true (m++[.lst (S.map tupI),.lst (U.map tupI)]):=cU (vf _ _) (by simp only [EVs,gq0,gq1,gq2,gq3,fB]; rfl)
  have t2:evT (Cn pg (n+1+1+1)) (.cmp .NotEq (.blt .len (.cons (.var 9) .nil)) (.cst (.int 2))) (eU ks ss ls R L N q (x,s,u,c) (some (nmW N)) (some (.tup [.ref m.length,.ref (m.length+1)])) none) (m++[.lst (S.map tupI),.lst (U.map tupI)])=.ok false (m++[.lst (S.map tupI),.lst (U.map tupI)]):=by
   simp only [dB,dY,bh,bI,bF,gg,gq0,gq1,gq2,gq3,aN,aP,aC,aq,List.length_cons,List.length_nil,eqI]
   rfl
  have t3:evT (Cn pg (n+1+1+1)) (.cmp .NotEq (.var 2) (.var 8)) (eU ks ss ls R L N q (x,s,u,c) (some (nmW N)) (some (.tup [.ref m.length,.ref (m.length+1)])) none) (m++[.lst (S.map tupI),.lst (U.map tupI)])=.ok false (m++[.lst (S.map tupI),.lst (U.map tupI)]):=by
   simp only [dB,bF,gq0,gq1,gq2,gq3,aN,aq]
   rw [BR (gq S U) rfl]
   simp [D.R.bind]
  have t4:evT (Cn pg (n+1+1+1)) (.cmp .NotEq (.var 3) (.tup (.cons (.var 4) (.cons (.var 5) (.cons (.var 6) (.cons (.var 7) .nil)))))) (eU ks ss ls R L N q (x,s,u,c) (some (nmW N)) (some (.tup [.ref m.length,.ref (m.length+1)])) none) (m++[.lst (S.map tupI),.lst (U.map tupI)])=.ok false (m++[.lst (S.map tupI),.lst (U.map tupI)]):=by
   have ht:evE (Cn pg (n+1+1+1)) (.tup (.cons (.var 4) (.cons (.var 5) (.cons (.var 6) (.cons (.var 7) .nil))))) (eU ks ss ls R L N q (x,s,u,c) (some (nmW N)) (some (.tup [.ref m.length,.ref (m.length+1)])) none) (m++[.lst (S.map tupI),.lst (U.map tupI)])=.ok (tW (x,s,u,c)) (m++[.lst (S.map tupI),.lst (U.map tupI)]):=by
    simp only [EVs,gq0,gq1,gq2,gq3]
    exact if_pos (by simp [lim])
   rw [dB]
   simp only [bF,gq0,gq1,gq2,gq3,aN]
   rw [ht]
   simp only [aN,aq,Fg]
   rfl
  rw [gI,eN,t1]
  simp only [aN,Bool.not_true,Bool.false_eq_true,if_false]
  rw [gI,t2]
  simp only [aN,Bool.false_eq_true,if_false]
  rw [gI,t3]
  simp only [aN,Bool.false_eq_true,if_false]
  exact t4
 have hT2:evT (Cn pg (n+1+1+1)) (.not (.call 35 (.cons (.idx (.var 9) (.cst (.int 0))) (.cons (.idx (.var 2) (.var 5)) (.cons (.var 7) (.cons (.idx (.var 2) (.idx (.idx (.var 1) (.var 5)) (.var 4))) .nil)))))) (eU ks ss ls R L N q (x,s,u,c) (some (nmW N)) (some (.tup [.ref m.length,.ref (m.length+1)])) none) (m++[.lst (S.map tupI),.lst (U.map tupI)])=.ok false (m++[.lst (S.map tupI),.lst (U.map tupI)]):=by
  have t:evT (Cn pg (n+1+1+1)) (.call 35 (.cons (.idx (.var 9) (.cst (.int 0))) (.cons (.idx (.var 2) (.var 5)) (.cons (.var 7) (.cons (.idx (.var 2) (.idx (.idx (.var 1) (.var 5)) (.var 4))) .nil))))) (eU ks ss ls R L N q (x,s,u,c) (some (nmW N)) (some (.tup [.ref m.length,.ref (m.length+1)])) none) (m++[.lst (S.map tupI),.lst (U.map tupI)])=.ok true (m++[.lst (S.map tupI),.lst (U.map tupI)]):=cU (jl _ _) (by simp only [EVs,gq0,gq1,gq2,gq3,ix0,nS,(rs _).1,(rs _).2,nG,r1 (p3 S U) (a1 S U)])
  rw [eN,t]
  rfl
 have hT3:evT (Cn pg (n+1+1+1)) (.not (.call 35 (.cons (.idx (.var 9) (.cst (.int 1))) (.cons (.idx (.var 2) (.var 6)) (.cons (.var 7) (.cons (.idx (.var 2) (.idx (.idx (.var 1) (.var 6)) (.var 4))) .nil)))))) (eU ks ss ls R L N q (x,s,u,c) (some (nmW N)) (some (.tup [.ref m.length,.ref (m.length+1)])) none) (m++[.lst (S.map tupI),.lst (U.map tupI)])=.ok false (m++[.lst (S.map tupI),.lst (U.map tupI)]):=by
  have t:evT (Cn pg (n+1+1+1)) (.call 35 (.cons (.idx (.var 9) (.cst (.int 1))) (.cons (.idx (.var 2) (.var 6)) (.cons (.var 7) (.cons (.idx (.var 2) (.idx (.idx (.var 1) (.var 6)) (.var 4))) .nil))))) (eU ks ss ls R L N q (x,s,u,c) (some (nmW N)) (some (.tup [.ref m.length,.ref (m.length+1)])) none) (m++[.lst (S.map tupI),.lst (U.map tupI)])=.ok true (m++[.lst (S.map tupI),.lst (U.map tupI)]):=cU (jl _ _) (by simp only [EVs,gq0,gq1,gq2,gq3,ix1,nU,(ru _).1,(ru _).2,nH,r2 (p3 S U) (a2 S U)])
  rw [eN,t]
  rfl
 have e10:evE (Cn pg (n+1+1+1)) (.blt .repr (.cons (.var 9) .nil)) (eU ks ss ls R L N q (x,s,u,c) (some (nmW N)) (some (.tup [.ref m.length,.ref (m.length+1)])) none) (m++[.lst (S.map tupI),.lst (U.map tupI)])=.ok (.str z) (m++[.lst (S.map tupI),.lst (U.map tupI)]):=by
  simp only [EVs,gq0,gq1,gq2,gq3,rp (a1 S U) (a2 S U)]
 have hk:∀{M:Mem} {j:Nat} {xs:List W},M[j]?=some (.lst xs)->kdOf M (.ref j)=kdM "clear":=λ h=>by simp only [kdOf,h]; rfl
 have hcl:∀{M:Mem} {j:Nat} {xs:List W},M[j]?=some (.lst xs)->aZ (.ref j) "clear" [] M=.ok .non (M.set j (.lst [])):=λ h=>by
  simp only [aZ,h,dJ,kO,String.reduceEq,if_false,if_true]
 have hT4:evT (Cn pg (n+1+1+1)) (.or (.cmp .Eq (.idx (.var 9) (.cst (.int 1))) (.frz (.lst .nil))) (.cmp .NotEq (.idx (.idx (.var 9) (.cst (.int 1))) (.cst (.int 0))) (.idx (.var 2) (.var 6)))) (eU ks ss ls R L N q (x,s,u,c) (some (nmW N)) (some (.tup [.ref m.length,.ref (m.length+1)])) (some (.str z))) (m++[.lst (([]:List (List Int)).map tupI),.lst (U.map tupI)])=.ok false (m++[.lst (([]:List (List Int)).map tupI),.lst (U.map tupI)]):=by
  have gU:getL (m++[.lst (([]:List (List Int)).map tupI),.lst (U.map tupI)]) (.ref (m.length+1))=some (U.map tupI):=by simp only [getL,a2]
  have iU:=bP gU U0
  rw [show ((0:Nat):Int)=0 from rfl,show U[0]=N[u] from by rw [List.getElem?_eq_getElem U0] at hU0; exact Option.some.inj hU0] at iU
  have t1:evT (Cn pg (n+1+1+1)) (.cmp .Eq (.idx (.var 9) (.cst (.int 1))) (.frz (.lst .nil))) (eU ks ss ls R L N q (x,s,u,c) (some (nmW N)) (some (.tup [.ref m.length,.ref (m.length+1)])) (some (.str z))) (m++[.lst (([]:List (List Int)).map tupI),.lst (U.map tupI)])=.ok false (m++[.lst (([]:List (List Int)).map tupI),.lst (U.map tupI)]):=by
   rw [dB]
   simp only [g9,bF,gg,gq0,gq1,gq2,gq3,aN,ix1]
   rw [DY (p3 [] U)]
   simp only [aN,aq]
   rw [BR (b:=[]) gU rfl,decide_eq_false Une]
  have t2:evT (Cn pg (n+1+1+1)) (.cmp .NotEq (.idx (.idx (.var 9) (.cst (.int 1))) (.cst (.int 0))) (.idx (.var 2) (.var 6))) (eU ks ss ls R L N q (x,s,u,c) (some (nmW N)) (some (.tup [.ref m.length,.ref (m.length+1)])) (some (.str z))) (m++[.lst (([]:List (List Int)).map tupI),.lst (U.map tupI)])=.ok false (m++[.lst (([]:List (List Int)).map tupI),.lst (U.map tupI)]):=by
   simp only [dB,g9,bF,gg,gq0,gq1,gq2,gq3,aN,ix1,iU,nU,aq,pA]
   simp
  rw [gI,t1]
  simp only [aN,Bool.false_eq_true,if_false]
  exact t2
 have eqz:∀M:Mem,eqW M (.str z) (.str z)=.ok true M:=λ M=>by
  have:toD 60 M (.str z)=some (.str z):=by simp only [toD]; rw [if_pos hsh]
  simp only [eqW,this,qg]
  simp
 have c4:=p3 [] []
 have g4:=gq [] []
 have st4:=st c4 g4
 have l4:(m++[O.lst (([]:List (List Int)).map tupI),.lst (([]:List (List Int)).map tupI)]).length=m.length+2:=by simp
 have f4:(m++[O.lst (([]:List (List Int)).map tupI),.lst (([]:List (List Int)).map tupI)])++[.lst (S.map tupI),.lst (U.map tupI)]=m++[.lst [],.lst [],.lst (S.map tupI),.lst (U.map tupI)]:=by simp
 rw [l4,f4] at st4
 have rp4:=rp (M:=m++[.lst [],.lst [],.lst (S.map tupI),.lst (U.map tupI)]) (i:=m.length+2) (j:=m.length+2+1) (by rw [List.getElem?_append_right (by omega),Nat.add_sub_cancel_left]; rfl) (by rw [Nat.add_assoc,List.getElem?_append_right (by omega),Nat.add_sub_cancel_left]; rfl)
 rw [b36,ai (ρ1:=eU ks ss ls R L N q (x,s,u,c) none none none) (m1:=m) (by simp [evS,evE,evA,cz,au,D.R.bind,aC]),ai (aM e8 rfl)]
 simp only [gq0,gq1,gq2,gq3]
 rw [ai (ρ1:=eU ks ss ls R L N q (x,s,u,c) (some (nmW N)) (some (.tup [.ref m.length,.ref (m.length+1)])) none) (m1:=m++[.lst (S.map tupI),.lst (U.map tupI)]) (aM (w:=.tup [.ref m.length,.ref (m.length+1)]) (by simp only [EVs,gq0,gq1,gq2,gq3,st hm hw]) rfl),ai (by rw [d9 hT1,av]),ai (by rw [d9 hT2,av]),ai (by rw [d9 hT3,av]),ai (aM e10 rfl)]
 simp only [gq0,gq1,gq2,gq3]
 rw [ai (bK (w:=.non) (m1:=m++[.lst (([]:List (List Int)).map tupI),.lst (U.map tupI)]) (by
   simp only [EVs,gq0,gq1,gq2,gq3,ix0]
   rw [if_pos (hk (a1 S U)),hcl (a1 S U),s1])),ai (by rw [d9 hT4,av]),ai (bK (w:=.non) (m1:=m++[.lst (([]:List (List Int)).map tupI),.lst (([]:List (List Int)).map tupI)]) (by
   simp only [EVs,gq0,gq1,gq2,gq3,ix1]
   rw [if_pos (hk (a2 [] U)),hcl (a2 [] U),s2])),bf (br (w:=.bl true) (m1:=m++[.lst [],.lst [],.lst (S.map tupI),.lst (U.map tupI)]) (by
   simp only [EVs,gq0,gq1,gq2,gq3,st4,rp4,aq,eqz]))]
end
end My
end
section
namespace My
open PySem D
section
variable {n:Nat} {m:Mem} {ks ss ls:List Str} {R L N:List (List Int)} {k:Nat}
theorem aK.rev (h:aK k N):aK k N.reverse:=⟨h.k1,h.k4,λ a ha=>h.mem a (List.mem_reverse.mp ha),(List.reverse_perm N).symm.nodup h.nd,by rw [List.length_reverse]; exact h.len⟩
theorem D4 {M:Mem}:aP .len [.fz (R.map fzI)] M=.ok (.int R.length) M:=by
 have:=bD (m:=M) (w:=.fz (R.map fzI)) (xs:=R.map fzI) rfl
 rw [List.length_map] at this
 exact this
abbrev fT (ns:List Int) (i:Nat) (ks ss ls:List Str) (R L:List (List Int)) (p q:Nat) (a6 a7 a8:Option W):D.Loc:=[some (.fz (ns.map .int)),some (.int i),some (.ref p),some (tab ks ss ls R L),some (.fz (R.map fzI)),some (.ref q),a6,a7,a8]
theorem sE {ns:List Int} {i p q:Nat} {a6 a8:Option W} (hm:Cm m) (hq:m[q]?=some (.lst (N.map tupI))) (o:TabOk ks ss ls R L) (h:aK k N) (hl:N.length=ss.length) :
  ∃a8' l,evS (Cn pg (n+1+1+1+1)) (.for_ (.var 8) (.frz (.bin .Add (.var 7) (.slc (.var 7) .none (.some (.cst (.int 2)))))) qp) (fT ns i ks ss ls R L p q a6 (some (dQ (rcs R N ss.length (2^ks.length)))) a8) m=.ok (.nx (fT ns i ks ss ls R L p q a6 (some (dQ (rcs R N ss.length (2^ks.length)))) a8')) (m++l)/\Cm (m++l):=by
 have hTl:=qB (R:=R) (N:=N) (ss:=ss) o.s4 _ (gM o.k2)
 have hat:=λ r hr=>yF (r:=r) o h hl hr
 generalize rcs R N ss.length (2^ks.length)=T at hTl hat ⊢
 obtain ⟨Y,hY,hYm,hYl,hYp⟩:∃Y,kN (T.map tW) none (some 2)=Y/\(∀w∈Y,∃r∈T,w=tW r)/\Y.length<=T.length/\ah Y=true:=by
  have hmm:∀w∈kN (T.map tW) none (some 2),∃r∈T,w=tW r:=λ w hw=>by
   obtain ⟨r,hr,e⟩:=List.mem_map.mp (List.mem_of_mem_drop (List.mem_of_mem_take hw))
   exact ⟨r,hr,e.symm⟩
  refine ⟨_,rfl,hmm,?_,bg.mpr λ w hw=>?_⟩
  ·unfold kN
   rw [List.length_take,List.length_drop,List.length_map]
   omega
  ·obtain ⟨r,_,rfl⟩:=hmm w hw
   simp [ao,ah,bO]
 have hX:∀w∈T.map tW++Y,∃r∈T,w=tW r:=λ w hw=>by
  rcases List.mem_append.mp hw with hw | hw
  ·obtain ⟨r,hr,e⟩:=List.mem_map.mp hw
   exact ⟨r,hr,e.symm⟩
  ·exact hYm w hw
 have hlim:(T.map tW).length+Y.length<=lim:=by rw [List.length_map]; simp only [lim]; omega
 have hI:evI (Cn pg (n+1+1+1+1)) (.frz (.bin .Add (.var 7) (.slc (.var 7) .none (.some (.cst (.int 2)))))) (fT ns i ks ss ls R L p q a6 (some (dQ T)) a8) m=.ok (.tup (T.map tW++Y)) m:=by
  have:evE (Cn pg (n+1+1+1+1)) (.frz (.bin .Add (.var 7) (.slc (.var 7) .none (.some (.cst (.int 2)))))) (fT ns i ks ss ls R L p q a6 (some (dQ T)) a8) m=.ok (.fz (T.map tW++Y)) m:=by
   refine iE (m0:=m) (l:=[.lst Y,.lst (T.map tW++Y)]) (j:=m.length+1) ?_ rfl hm (by omega) (by simp) (by rw [Dw,ny,hYp]; rfl)
   have hs:fY (dQ T) none (some 2) m=.ok (.ref m.length) (m++[.lst Y]):=by
    simp only [fY,getL,hY,new]
   have hb:binop .Add (dQ T) (.ref m.length) (m++[.lst Y])=.ok (.ref (m.length+1)) (m++[.lst Y,.lst (T.map tW++Y)]):=by
    have hg:getL (m++[O.lst Y]) (.ref m.length)=some Y:=by simp [getL]
    have hg2:getL (m++[O.lst Y]) (dQ T)=some (T.map tW):=rfl
    simp only [binop,t7,hg,hg2]
    rw [if_pos hlim]
    simp [new]
   simp only [EVs,gq0,gq1,gq2,gq3,hs,hb]
  rw [DG,this]
  rfl
 obtain ⟨ρ',m',hf,a8',l,rfl,rfl,hc⟩:=cD (C:=Cn pg (n+1+1+1+1)) (t:=.var 8) (b:=qp) hI (n:=(T.map tW++Y).length) rfl
  (λ _ ρ M=>∃a8' l,ρ=fT ns i ks ss ls R L p q a6 (some (dQ T)) a8'/\M=m++l/\Cm M) ⟨a8,[],rfl,by simp,hm⟩ (λ j ρ M hj=>by
   rintro ⟨a8',l,rfl,rfl,hc⟩
   obtain ⟨r,hr,e⟩:=hX _ (List.getElem_mem hj)
   have hq':(m++l)[q]?=some (.lst (N.map tupI)):=by rw [List.getElem?_append_left (List.getElem?_eq_some_iff.mp hq).1]; exact hq
   obtain ⟨l',e2,hc'⟩:=right (n:=n) hc hq' o h hl (hat r hr)
   have hT:evT (Cn pg (n+1+1+1+1)) (.not (.call 36 (.cons (.var 3) (.cons (.var 4) (.cons (.var 5) (.cons (.var 8) .nil)))))) (fT ns i ks ss ls R L p q a6 (some (dQ T)) (some (tW r))) (m++l)=.ok false (m++l++l'):=by
    have h2:evT (Cn pg (n+1+1+1+1)) (.call 36 (.cons (.var 3) (.cons (.var 4) (.cons (.var 5) (.cons (.var 8) .nil))))) (fT ns i ks ss ls R L p q a6 (some (dQ T)) (some (tW r))) (m++l)=.ok true (m++l++l'):=cU (jl _ _) (by simp only [EVs,gq0,gq1,gq2,gq3,e2])
    rw [eN,h2]
    rfl
   refine ⟨tW r,fT ns i ks ss ls R L p q a6 (some (dQ T)) (some (tW r)),_,_,by rw [aJ hj,e],rfl,.inl (by rw [qp,ai (by rw [d9 hT,av]),av]),_,l++l',rfl,by rw [<-List.append_assoc],hc'⟩)
  (fun ρ M _=>aD (by omega))
 exact ⟨a8',l,hf,hc⟩
theorem D5 {ns:List Int} {i p q:Nat} {a6 a7 a8:Option W} (hm:Cm m) (hq:m[q]?=some (.lst (N.map tupI))) (o:TabOk ks ss ls R L) (h:aK k N) (hl:N.length=ss.length) :
  ∃a7' a8' m',aE (Cn pg (n+1+1+1+1)) qq (fT ns i ks ss ls R L p q a6 a7 a8) m=.ok (.nx (fT ns i ks ss ls R L p q a6 a7' a8')) m'/\Cm m'/\m'[q]?=some (.lst (N.reverse.map tupI)):=by
 have hw:getL m (.ref q)=some (N.map tupI):=by simp only [getL,hq]
 obtain ⟨a8',l,e2,c2⟩:=sE (n:=n) (ns:=ns) (i:=i) (p:=p) (a6:=a6) (a8:=a8) hm hq o h hl
 have e4:=DX (n:=n) hm hw o h hl
 have hTl:=qB (R:=R) (N:=N) (ss:=ss) o.s4 _ (gM o.k2)
 generalize rcs R N ss.length (2^ks.length)=T at hTl e2 e4
 have e1:evE (Cn pg (n+1+1+1+1)) (.frz (.blt .list (.cons (.call 19 (.cons (.var 3) (.cons (.var 5) .nil))) .nil))) (fT ns i ks ss ls R L p q a6 a7 a8) m=.ok (dQ T) m:=by
  refine iE (m0:=m) (j:=m.length+1) (l:=[.lst (T.map tW),.lst (T.map tW)]) ?_ rfl hm (by omega) (by simp) (ny _)
  have hg:aC (m++[O.lst (T.map tW)]) (.ref m.length)=some (T.map tW):=by simp [aC,getL]
  simp only [EVs,gq0,gq1,gq2,gq3,e4,aP,hg,new]
  simp
 have hq2:(m++l)[q]?=some (.lst (N.map tupI)):=by rw [List.getElem?_append_left (List.getElem?_eq_some_iff.mp hq).1]; exact hq
 have hql:=(List.getElem?_eq_some_iff.mp hq2).1
 refine ⟨some (dQ T),a8',(m++l).set q (.lst (N.reverse.map tupI)),?_,c2.set (bB _ (dj _)),List.getElem?_set_self hql⟩
 rw [qq,ai (aM e1 rfl)]
 simp only [gq0,gq1,gq2,gq3]
 have hk:kdOf (m++l) (.ref q)=kdM "reverse":=by simp only [kdOf,hq2]; rfl
 have hrv:aZ (.ref q) "reverse" [] (m++l)=.ok .non ((m++l).set q (.lst (N.reverse.map tupI))):=by
  simp only [aZ,hq2,dJ,gw,String.reduceEq,if_false,if_true,List.map_reverse]
 rw [ai e2,ai (bK (w:=.non) (m1:=(m++l).set q (.lst (N.reverse.map tupI))) (by
  simp only [EVs,gq0,gq1,gq2,gq3]
  rw [if_pos hk,hrv])),av]
theorem BW {ns:List Int} {i:Nat} (hi:i < 100) (hm:Cm m) {a2 a3 a4 a5 a6 a7 a8:Option W} :
  ∃b2 b3 b4 b5 b6 b7 b8 m',aE (Cn pg (n+1+1+1+1+1)) qt [some (.fz (ns.map .int)),some (.int i),a2,a3,a4,a5,a6,a7,a8] m=.ok (.nx [some (.fz (ns.map .int)),some (.int i),b2,b3,b4,b5,b6,b7,b8]) m'/\Cm m':=by
 obtain ⟨A,B,e2⟩:=E4 (n:=n+1+1+1) (m:=m) (ns:=ns) (k:=i) hi
 have hp:Pot (m++[pot A B]) m.length:=⟨A,B,by simp⟩
 have hc:Cm (m++[pot A B]):=hm.push rfl
 obtain ⟨ks,ss,ls,R,L,m3,e3,p3,c3,ok,_⟩:=table (n:=n) hp hc
 obtain ⟨N,k,q,m4,e4,hN,hnd,s1,s4,hmem,p4,c4,at4,_,_⟩:=tags (n:=n+1+1+1) (many:=ss.length) p3 c3 ok.s2 ok.s4
 have hNo:aK k N:=⟨s1,s4,hmem,hnd,by rw [hN]; exact ok.s4⟩
 have hI:evI (Cn pg (n+1+1+1+1+1)) (.rng (.cst (.int 2))) (fT ns i ks ss ls R L m.length q a6 a7 a8) m4=.ok (.rng 0 2) m4:=iB (by simp only [EVs]; rfl) (by omega)
 obtain ⟨ρ',m',hf,b6,b7,b8,N',rfl,hc',_⟩:=cD (C:=Cn pg (n+1+1+1+1+1)) (t:=.var 6) (b:=qq) hI (n:=2) rfl
  (λ _ ρ M=>∃b6 b7 b8 N',ρ=fT ns i ks ss ls R L m.length q b6 b7 b8/\Cm M/\M[q]?=some (.lst (N'.map tupI))/\aK k N'/\N'.length=ss.length) ⟨a6,a7,a8,N,rfl,c4,at4,hNo,hN⟩ (λ j ρ M hj=>by
   rintro ⟨b6,b7,b8,N',rfl,hcM,hat,hno,hln⟩
   obtain ⟨d7,d8,M',e,hcm,hat'⟩:=D5 (n:=n+1) (ns:=ns) (i:=i) (p:=m.length) (a6:=some (.int j)) (a7:=b7) (a8:=b8) hcM hat ok hno hln
   refine ⟨.int (0+j),fT ns i ks ss ls R L m.length q (some (.int j)) b7 b8,_,_,bC hj,by simp [au],.inl e,_,_,_,N'.reverse,rfl,hcm,hat',hno.rev,by rw [List.length_reverse]; exact hln⟩)
  (fun ρ M _=>bz (by omega))
 refine ⟨some (.ref m.length),some (tab ks ss ls R L),some (.fz (R.map fzI)),some (.ref q),b6,b7,b8,m',?_,hc'⟩
 rw [qt,ai (ρ1:=[some (.fz (ns.map .int)),some (.int i),some (.ref m.length),a3,a4,a5,a6,a7,a8]) (m1:=m++[pot A B]) (aM (w:=.ref m.length) (by simp only [EVs,gq0,gq1,gq2,gq3,e2]) rfl),
  ai (ρ1:=[some (.fz (ns.map .int)),some (.int i),some (.ref m.length),some (tab ks ss ls R L),some (.fz (R.map fzI)),a5,a6,a7,a8]) (m1:=m3) (by simp only [evS,evA,cz,EVs,gq0,gq1,gq2,gq3,e3]; simp [evA,cz,au,D.R.bind,aC]),
  ai (ρ1:=fT ns i ks ss ls R L m.length q a6 a7 a8) (m1:=m4) (aM (w:=.ref q) (by simp only [EVs,gq0,gq1,gq2,gq3,D4,ok.rl,e4]) rfl),ai hf,av]
end
theorem yG {n:Nat} {ns:List Int} (hn:ns.length<=63):∃m',D.runN pg (n+1+1+1+1+1+1) 37 [.fz (ns.map .int)] []=.ok (.bl true) m':=by
 obtain ⟨q,hq,hq4⟩:∃q:Nat,(if (if (4:Int) < ns.length then (4:Int) else ns.length)>1 then (if (4:Int) < ns.length then (4:Int) else ns.length) else 1)=q/\q<=4:=by
  refine ⟨(if (if (4:Int) < ns.length then (4:Int) else ns.length)>1 then (if (4:Int) < ns.length then (4:Int) else ns.length) else 1).toNat,?_,?_⟩
  ·split<;>split at *<;>omega
  ·split<;>split at *<;>omega
 have hln:∀M,aP .len [.fz (ns.map .int)] M=.ok (.int ns.length) M:=λ M=>by
  have:=bD (m:=M) (w:=.fz (ns.map .int)) (xs:=ns.map .int) rfl
  rw [List.length_map] at this
  exact this
 have hI:evI (Cn pg (n+1+1+1+1+1)) (.rng (.blt .max (.cons (.cst (.int 1)) (.cons (.blt .min (.cons (.blt .len (.cons (.var 0) .nil)) (.cons (.cst (.int 4)) .nil))) .nil)))) [some (.fz (ns.map .int)),none,none,none,none,none,none,none,none] []=.ok (.rng 0 q) []:=iB (by simp only [EVs,gq0,gq1,gq2,gq3,hln]; simp only [aP,aN,hq]) (by omega)
 obtain ⟨ρ',m',hf,a1,a2,a3,a4,a5,a6,a7,a8,rfl,hc⟩:=cD (C:=Cn pg (n+1+1+1+1+1)) (t:=.var 1) (b:=qt) hI (n:=q) rfl
  (λ i ρ M=>∃a1 a2 a3 a4 a5 a6 a7 a8,ρ=[some (.fz (ns.map .int)),a1,a2,a3,a4,a5,a6,a7,a8]/\Cm M) ⟨none,none,none,none,none,none,none,none,rfl,Cm.nil⟩ (λ i ρ M hi=>by
   rintro ⟨a1,a2,a3,a4,a5,a6,a7,a8,rfl,hc⟩
   obtain ⟨b2,b3,b4,b5,b6,b7,b8,M',e,hc'⟩:=BW (n:=n) (m:=M) (ns:=ns) (i:=i) (by omega) hc (a2:=a2) (a3:=a3) (a4:=a4) (a5:=a5) (a6:=a6) (a7:=a7) (a8:=a8)
   exact ⟨.int (0+i),[some (.fz (ns.map .int)),some (.int i),a2,a3,a4,a5,a6,a7,a8],_,_,bC hi,by simp [au],.inl e,_,_,_,_,_,_,_,_,rfl,hc'⟩)
  (fun ρ M _=>bz (by omega))
 refine ⟨m',bq (d:=⟨1,9,b37⟩) rfl rfl ?_⟩
 show aE _ b37 [some (.fz (ns.map .int)),none,none,none,none,none,none,none,none] []=_
 rw [b37,ai hf,bf (br (w:=.bl true) (m1:=m') (by simp only [EVs]))]
theorem sF:∀ns:List Int,ns.length<=63->∃m',D.runN pg 40 37 [.fz (ns.map .int)] []=.ok (.bl true) m':=λ ns hn=>yG (n:=34) hn
end My
end
section
open PySem PySem.W PyProof.Rows My
theorem PySem.Challenge.cw_relayholds_k64_steps_of_races_holds : PySem.Challenge.rw_relayholds_k64_steps_of_races.Holds := by
 refine PySem.W.holds_law My.hsd λ said=>?_
 refine PySem.W.holds_open (q:=My.qv) (loose:=[]) (Xt:=λ s=>PySem.W.xlAt My.qv [] s&&PySem.W.recOk (PySem.W.RowW.records (PySem.W.OpenRow.toRowW (PySem.W.OpenLaw.row PySem.Challenge.rw_relayholds_k64_steps_of_races))) s) (XP:=PySem.W.XL My.qv []) (Yf:=(PySem.W.kHook kk ka (λ _=>by kernel_rfl)).obs) (Ya:=(PySem.W.kHook kk ka (λ _=>by kernel_rfl)).val) (YP:=(PySem.W.kHook kk ka (λ _=>by kernel_rfl)).says) (N:=4382) My.hdl (PySem.W.kHook kk ka (λ _=>by kernel_rfl)).of (PySem.W.kHook kk ka (λ _=>by kernel_rfl)).keeps (λ s e=>PySem.W.xl_of s (Bool.and_eq_true_iff.mp e).1) PySem.W.XL.keeps (by rfl) (by rfl) (by rfl) (λ s e=>PySem.W.recFacts_of (Bool.and_eq_true_iff.mp e).2) (by rfl) (by first | assumption | decide +kernel) (by decide +kernel) ⟨rfl,rfl,rfl,rfl,rfl,by decide +kernel⟩ ?hw ?hc
 (case hw=>w_witness2)
 k_fill
 refine D.u0 (l:=PySem.Challenge.rw_relayholds_k64_steps_of_races) (p:=My.pg) (i:=37) (x:="_law_script") rfl rfl (λ w h Y=>PySem.W.kIn_of Y) ?F My.sF
 case F=>
  intro w mg fa h KX G hmg
  exact D.DK (t:=My.tf 49) KX G hmg My.stat rfl rfl (by kernel_rfl) (by kernel_rfl) (by kernel_rfl)
end
end
